import PyProof.Rows.All
import Wide.All
import OpenK.AllK
import Wide.FinOn
import Lean
import PyProof.EqAt
import PyProof.EqKinds
import PyProof.TupleCall
import KE.KTryMore
import KE.KIsAll
import PyProof.ExcBaseAll.ValueError
import PyProof.NsDelKeeps
import PyProof.ExcArgsOwn
import KE.KSortTup
import PySem.SetTable
import PyProof.SetScanFacts
import PyProof.Rows.SetFrom
import PyProof.TupleKey
import KE.KDictList
import PyProof.SetRoads
import PyProof.Cells
import KE.RegKIsAll
import KE.RegKTryMore
import PySem.Challenge.RW_splithouse_k63_whole_put_together_up_the
set_option bootstrap.genMatcherCode false
set_option genSizeOf false
set_option genSizeOfSpec false
set_option Elab.async false
set_option linter.all false
set_option maxRecDepth 100000
universe u v
abbrev Θf := PySem.W.Frag
abbrev Θk (K : PySem.W.Frag) (f : PySem.Addr) : Prop := PySem.W.keepIn K (.ref f) = true
theorem Θm {α : Type u} {β : Type v} {f : α → β} {l : List α} {b : β} : (∃ a, a ∈ l ∧ f a = b) → b ∈ l.map f := List.mem_map.mpr
theorem Θn {α : Type u} {β : Type v} {f : α → β} {l : List α} {b : β} : b ∈ l.map f → ∃ a, a ∈ l ∧ f a = b := List.mem_map.mp
theorem Θl {α : Type u} {β : Type v} {as : List α} (f : α → β) : (as.map f).length = as.length := List.length_map f
theorem Θg {α : Type u} {β : Type v} {f : α → β} {l : List α} {i : Nat} : (l.map f)[i]? = l[i]?.map f := List.getElem?_map ..
theorem Θs {α : Type u} {a b : α} : a ∈ [b] → a = b := List.mem_singleton.mp
theorem Θa {α : Type u} {a : α} {s t : List α} : a ∈ s ++ t → a ∈ s ∨ a ∈ t := List.mem_append.mp
theorem Θc {α : Type u} {a : α} {l : List α} : a ∈ a :: l := List.mem_cons_self ..
theorem Θd {α : Type u} (y : α) {a : α} {l : List α} : a ∈ l → a ∈ y :: l := List.mem_cons_of_mem y
theorem Θe {α : Type u} {l : List α} {i : Nat} {a : α} : l[i]? = some a → a ∈ l := List.mem_of_getElem?
theorem Θh {α : Type u} {l : List α} {i : Nat} (h : i < l.length) : l[i]? = some l[i] := List.getElem?_eq_getElem h
theorem Θo {α : Type u} {a b : α} : some a = some b → a = b := Option.some.inj
noncomputable section
namespace L2
open PySem PySem.Spec PyProof.Rows
abbrev Za_:=@wpAny_bind
abbrev Zb_:=@wpAny_pure
abbrev Zc_:=@Heap.get?_push_of_some
abbrev Zd_:=@Nat.le_refl
abbrev Ze_:=@List.getElem?_eq_some_iff
abbrev Zf_:=@Bool.false_ne_true
abbrev Zg_:=@List.mem_cons
abbrev Zh_:=@List.mem_append_right
abbrev Zi_:=@List.not_mem_nil
abbrev Zj_:=@of_decide_eq_true
abbrev Zk_:=@wpS_bind
abbrev Zl_:=@wpS_pure
abbrev Zm_:=@Heap.get?_push_size
abbrev Zn_:=@Heap.lt_size
abbrev Zo_:=@Nat.le_trans
abbrev Zp_:=@Nat.zero_le
abbrev Zq_:=@Nat.lt_of_lt_of_le
abbrev Zr_:=@decide_eq_true
abbrev Zs_:=@Nat.ne_of_lt
abbrev Zt_:=@List.mem_append_left
abbrev Zu_:=@List.getD_eq_getElem?_getD
abbrev Zv_:=@List.length_append
abbrev Zw_:=@List.map_append
abbrev Zx_:=@List.size_toArray
abbrev Zy_:=@List.append_assoc
abbrev Zz_:=@Array.length_toList
abbrev ZA:=@List.length_cons
abbrev ZB:=@List.length_take
abbrev ZC:=@Array.getElem?_eq_getElem
abbrev ZD:=@List.getElem?_append_right
noncomputable abbrev Key:=Sum Int Str
noncomputable def Fq:Key->Value->Bool
 | .inl k,v=>Value.isInt k v
 | .inr x,v=>Value.isStrOf x v
noncomputable def Aes (w:World):Key->Int
 | .inl k=>hashInt k
 | .inr x=>hashStr w x
theorem K5:∀{k:Key} {v:Value},Fq k v=true->(∃i t,k=Sum.inl i/\v=Value.int i t)\/(∃x t,k=Sum.inr x/\v=Value.str x t)
 | .inl i,v,h=>by
  obtain ⟨t,e⟩:=Value.isInt_shape (k:=i) (v:=v) h
  exact .inl ⟨i,t,rfl,e⟩
 | .inr x,v,h=>by
  obtain ⟨t,e⟩:=Value.isStrOf_shape (x:=x) (v:=v) h
  exact .inr ⟨x,t,rfl,e⟩
theorem Qm (i:Int) (t:Tok):Fq (.inl i) (.int i t)=true:=by simp [Fq,Value.isInt]
theorem Qn (x:Str) (t:Tok):Fq (.inr x) (.str x t)=true:=by simp [Fq,Value.isStrOf]
theorem Abt (a b:Int):decide ((Sum.inl a:Key)=Sum.inl b)=(a == b):=by
 by_cases e:a=b
 ·subst e; simp
 ·have h:¬(Sum.inl a:Key)=Sum.inl b:=fun q=>e (Sum.inl.inj q)
  rw [decide_eq_false h]
  exact (beq_eq_false_iff_ne.mpr e).symm
theorem Abw (a b:Str):decide ((Sum.inr a:Key)=Sum.inr b)=decide (a=b):=by
 by_cases e:a=b
 ·subst e; simp
 ·have h:¬(Sum.inr a:Key)=Sum.inr b:=fun q=>e (Sum.inr.inj q)
  rw [decide_eq_false h,decide_eq_false e]
theorem Abu (a:Int) (b:Str):decide ((Sum.inl a:Key)=Sum.inr b)=false:=decide_eq_false (fun q=>nomatch q)
theorem Abv (a:Str) (b:Int):decide ((Sum.inr a:Key)=Sum.inl b)=false:=decide_eq_false (fun q=>nomatch q)
noncomputable def J0 (prog:Program) (w:World):PySem.KeyKind prog w Key where
 is:=Fq
 hash:=Aes w
 inj:=fun v a b ha hb=>by
  rcases K5 ha with ⟨i,t,rfl,rfl⟩ | ⟨x,t,rfl,rfl⟩
  ·rcases K5 hb with ⟨j,u,rfl,e⟩ | ⟨y,u,rfl,e⟩
   ·injection e with e1 _; rw [e1]
   ·exact nomatch e
  ·rcases K5 hb with ⟨j,u,rfl,e⟩ | ⟨y,u,rfl,e⟩
   ·exact nomatch e
   ·injection e with e1 _; rw [e1]
 byValue:=fun k v h=>by
  rcases K5 h with ⟨i,t,rfl,rfl⟩ | ⟨x,t,rfl,rfl⟩ <;> rfl
 pyHash:=fun hv h=>by
  rcases K5 hv with ⟨i,t,rfl,rfl⟩ | ⟨x,t,rfl,rfl⟩
  ·exact wpAny_pyHash_int h
  ·exact wpAny_pyHash_str h
 eqBool:=fun hu hv h=>by
  rcases K5 hu with ⟨i,t,rfl,rfl⟩ | ⟨x,t,rfl,rfl⟩
  ·rcases K5 hv with ⟨j,u,rfl,rfl⟩ | ⟨y,u,rfl,rfl⟩
   ·rw [Abt] at h; exact wpAny_eqBool_int h
   ·rw [Abu] at h; exact SeqAt.EqAt.int_str i t y u _ _ _ _ h
  ·rcases K5 hv with ⟨j,u,rfl,rfl⟩ | ⟨y,u,rfl,rfl⟩
   ·rw [Abv] at h; exact SeqAt.EqAt.str_int x t j u _ _ _ _ h
   ·rw [Abw] at h; exact wpAny_eqBool_str h
 «strs»:=fun k x t v h=>by
  rcases K5 h with ⟨i,u,rfl,e⟩ | ⟨y,u,rfl,e⟩
  ·exact nomatch e
  ·injection e with e1 _
   subst e1
   cases v <;> rfl
theorem Jw (prog:Program) (w:World) (i:Int) (t:Tok):(J0 prog w).is (.inl i) (.int i t)=true:=Qm i t
theorem Jx (prog:Program) (w:World) (x:Str) (t:Tok):(J0 prog w).is (.inr x) (.str x t)=true:=Qn x t
inductive V where
 | non | bl (b:Bool) | int (i:Int) | str (x:Str) | byt (b:Array UInt8) | flt (b:UInt64) | ref (a:Addr) | ty (n:String)
 deriving DecidableEq
noncomputable def RelV:V->Value->Prop
 | .non,u=>u=Value.none
 | .bl b,u=>u=Value.bool b
 | .int i,u=>∃t,u=Value.int i t
 | .str x,u=>∃t,u=Value.str x t
 | .byt b,u=>∃t,u=Value.bytes b t
 | .flt b,u=>∃t,u=Value.float b t
 | .ref a,u=>u=Value.ref a
 | .ty n,u=>u=Value.type n
noncomputable abbrev Vals:List V->List Value->Prop:=Paired RelV
theorem Vals.length {xs:List V} {us:List Value} (r:Vals xs us):xs.length=us.length:=Paired.length r
theorem Vals.get:∀{xs:List V} {us:List Value} {i:Nat} {x:V},Vals xs us->xs[i]? = some x->∃u,us[i]? = some u/\RelV x u
 | _,_,_,_,.nil,e=>by simp at e
 | _,_,0,_,.cons r _,e=>by simp at e; subst e; exact ⟨_,rfl,r⟩
 | _,_,i + 1,x,.cons _ t,e=>by
  obtain ⟨u,h1,h2⟩:=Vals.get (i:=i) (x:=x) t (by simpa using e)
  exact ⟨u,by simpa using h1,h2⟩
theorem Vals.set {x:V} {u:Value} (r:RelV x u):∀{xs:List V} {us:List Value} (i:Nat),Vals xs us->Vals (xs.set i x) (us.set i u)
 | _,_,_,.nil=>.nil
 | _,_,0,.cons _ t=>.cons r t
 | _,_,i + 1,.cons q t=>.cons q (Vals.set r i t)
theorem Vals.append:∀{xs ys:List V} {us ws:List Value},Vals xs us->Vals ys ws->Vals (xs++ys) (us++ws)
 | _,_,_,_,.nil,s=>s
 | _,_,_,_,.cons r t,s=>.cons r (Vals.append t s)
theorem Vals.take:∀{xs:List V} {us:List Value} (n:Nat),Vals xs us->Vals (xs.take n) (us.take n)
 | _,_,0,_=>.nil
 | _,_,_ + 1,.nil=>.nil
 | _,_,n + 1,.cons r t=>.cons r (Vals.take n t)
theorem Vals.drop:∀{xs:List V} {us:List Value} (n:Nat),Vals xs us->Vals (xs.drop n) (us.drop n)
 | _,_,0,r=>r
 | _,_,_ + 1,.nil=>.nil
 | _,_,n + 1,.cons _ t=>Vals.drop n t
noncomputable def RelO:Option V->Option Value->Prop
 | some v,some u=>RelV v u
 | none,none=>True
 | _,_=>False
noncomputable def KV {κ:Type}:List (κ × V)->List (κ × Value)->Prop:=Paired fun (p:κ × V) (q:κ × Value)=>p.1=q.1/\RelV p.2 q.2
noncomputable def kV:Key->V
 | .inl i=>.int i
 | .inr x=>.str x
inductive HO where
 | lst (xs:List V)
 | tup (xs:List V)
 | dK (kvs:List (Key × V)) | dT (kvs:List (List Key × V))
 | set (S:Int->Bool) (n:Nat)
 | ins (C dx:Addr) (fs:List (Str × V))
 | own (x:Addr)
 | xd (fs:List (Str × V))
 | met (f x:Addr)
 | rng (lo hi:Int)
 | frz (o:Obj) (u:HO)
 | tbl (ps:Array Value)
 | ext (φ:Heap->Prop)
noncomputable abbrev Hp:=Addr->Option HO
noncomputable def upd (H:Hp) (a:Addr) (o:HO):Hp:=fun b=>if b=a then some o else H b
theorem A8 {H:Hp} {a:Addr} {o:HO}:upd H a o a=some o:=by unfold upd; rw [if_pos rfl]
theorem C9 {H:Hp} {a b:Addr} {o:HO} (h:b≠a):upd H a o b=H b:=by unfold upd; rw [if_neg h]
theorem Aak {H:Hp} {a:Addr} {o u:HO}:upd (upd H a o) a u=upd H a u:=by
 funext b; unfold upd; split <;> rfl
theorem P4 {H:Hp} {a b:Addr} {o u:HO} (h:H a=some o) (h':H b=some u) (d:o≠u):a≠b:=by
 intro e; subst e; rw [h] at h'; exact d (Θo h')
theorem C7 {H:Hp} {a b:Addr} {o:HO} (h:H a=some o) (h':H b=none):a≠b:=by
 intro e; subst e; rw [h] at h'; cases h'
section
variable (P:Program) (w:World)
noncomputable def ObjOk (H:Hp) (h:Heap) (a:Addr):HO->Prop
 | .lst xs=>xs.length<=sizeLine/\∃(its:List Value) (n:Nat),Vals xs its/\h.get? a=some { cls:=.type "list",data:=.seq its.toArray n }
 | .tup xs=>xs.length<=sizeLine/\∃its:List Value,Vals xs its/\IsTup h a its.toArray
 | .dK kvs=>kvs.length<=sizeLine/\(a == sysModules)=false/\∃vs,KV kvs vs/\h.DictOf (J0 P w) a vs
 | .dT kvs=>kvs.length<=sizeLine/\(a == sysModules)=false/\∃xs:List (List Key × Addr × Value),
   Paired (fun (p:List Key × V) (q:List Key × Addr × Value)=>p.1=q.1/\H q.2.1=some (.tup (p.1.map kV))/\RelV p.2 q.2.2) kvs xs/\
   ∃o es ep,h.get? a=some o/\o.ExactDict/\o.data = .dict es ep/\es.toList=xs.map (entryOfKey (tupleKind (J0 P w)))/\(xs.map (·.1)).Nodup
 | .set S n=>h.SetOf (intKind P w) a S n
 | .ins C dx fs=>H dx=some (.own a)/\fs.length<=1000/\dx≠a/\h.get? a=some (PySem.W.instObj C dx)/\
   ∃mA,h.Ns1 dx mA/\(∀f,RelO (fs.lookup f) (mA f))/\PySem.Within mA (fs.map (·.1))
 | .own _=>∃o,h.get? a=some o
 | .xd fs=>∃mA,h.Ns1 a mA/\∀f,RelO (fs.lookup f) (mA f)
 | .rng lo hi=>∃t u v,h.get? a=some { cls:=.type "range",data:=.fields #[.int lo t,.int hi u,.int 1 v] }
 | .frz o u=>h.get? a=some o/\ObjOk H h a u
 | .tbl ps=>h.get? a=some { cls:=.none,data:=.fields ps }
 | .met f x=>h.get? a=some (PySem.W.methodObj (.ref f) (.ref x))
 | .ext φ=>φ h/\(∃o,h.get? a=some o)/\∀h1 h2:Heap,φ h1->(∀o,h1.get? a=some o->h2.get? a=some o)->φ h2
noncomputable def HOk (H:Hp) (h:Heap):Prop:=∀a o,H a=some o->ObjOk P w H h a o
end
section
variable {P:Program} {w:World} {H H':Hp} {h h':Heap} {a:Addr} {o:HO}
theorem ObjOk.lt (x:ObjOk P w H h a o):a < h.objs.size:=by
 cases o with
 | lst xs=>obtain ⟨_,_,_,_,e⟩:=x; exact Zn_ e
 | tup xs=>obtain ⟨_,_,_,p⟩:=x; exact p.lt
 | dK kvs=>obtain ⟨_,_,_,_,o,_,_,e,_⟩:=x; exact Zn_ e
 | dT kvs=>obtain ⟨_,_,_,_,o,_,_,e,_⟩:=x; exact Zn_ e
 | set S n=>obtain ⟨o,_,_,_,e,_⟩:=x; exact Zn_ e
 | ins C dx fs=>obtain ⟨_,_,_,e,_⟩:=x; exact Zn_ e
 | own y=>obtain ⟨_,e⟩:=x; exact Zn_ e
 | xd fs=>obtain ⟨_,⟨_,_,_,e,_⟩,_⟩:=x; exact Zn_ e
 | rng lo hi=>obtain ⟨_,_,_,e⟩:=x; exact Zn_ e
 | frz ob u=>obtain ⟨e,_⟩:=x; exact Zn_ e
 | tbl ps=>exact Zn_ (show h.get? a=some _ from x)
 | met f y=>exact Zn_ (show h.get? a=some _ from x)
 | ext φ=>obtain ⟨_,⟨_,e⟩,_⟩:=x; exact Zn_ e
theorem Paired.mapP {α β:Type} {F G:α->β->Prop}:∀{l₁:List α} {l₂:List β},Paired F l₁ l₂->(∀a b,F a b->G a b)->Paired G l₁ l₂
 | _,_,.nil,_=>.nil
 | _,_,.cons r t,f=>.cons (f _ _ r) (Paired.mapP t f)
theorem ObjOk.stay (x:ObjOk P w H h a o) (k:∀b u,(b=a\/H b=some (.own a))->h.get? b=some u->h'.get? b=some u)
  (ho:∀b,H b=some (.own a)->H' b=some (.own a)) (ht:∀b xs,H b=some (.tup xs)->H' b=some (.tup xs)):ObjOk P w H' h' a o:=by
 induction o with
 | lst xs=>obtain ⟨z,its,n,r,e⟩:=x; exact ⟨z,its,n,r,k _ _ (.inl rfl) e⟩
 | tup xs=>obtain ⟨z,its,r,ob,e,c⟩:=x; exact ⟨z,its,r,ob,k _ _ (.inl rfl) e,c⟩
 | dK kvs=>obtain ⟨z,y,vs,r,ob,es,ep,e,c⟩:=x; exact ⟨z,y,vs,r,ob,es,ep,k _ _ (.inl rfl) e,c⟩
 | dT kvs=>
  obtain ⟨z,y,xs,r,ob,es,ep,e,c⟩:=x
  exact ⟨z,y,xs,Paired.mapP r fun p q z=>⟨z.1,ht _ _ z.2.1,z.2.2⟩,ob,es,ep,k _ _ (.inl rfl) e,c⟩
 | set S n=>obtain ⟨ob,es,ep,t,e,c⟩:=x; exact ⟨ob,es,ep,t,k _ _ (.inl rfl) e,c⟩
 | ins C dx fs=>
  obtain ⟨d,z,ne,e,mA,⟨od,es,ep,e2,c⟩,r⟩:=x
  exact ⟨ho _ d,z,ne,k _ _ (.inl rfl) e,mA,⟨od,es,ep,k _ _ (.inr d) e2,c⟩,r⟩
 | own y=>obtain ⟨ob,e⟩:=x; exact ⟨ob,k _ _ (.inl rfl) e⟩
 | xd fs=>obtain ⟨mA,⟨od,es,ep,e,c⟩,r⟩:=x; exact ⟨mA,⟨od,es,ep,k _ _ (.inl rfl) e,c⟩,r⟩
 | rng lo hi=>obtain ⟨t,u,v,e⟩:=x; exact ⟨t,u,v,k _ _ (.inl rfl) e⟩
 | frz ob u ih=>obtain ⟨e,q⟩:=x; exact ⟨k _ _ (.inl rfl) e,ih q⟩
 | tbl ps=>
  have e:h.get? a=some { cls:=.none,data:=.fields ps }:=x
  show h'.get? a=some { cls:=.none,data:=.fields ps }
  exact k a _ (.inl rfl) e
 | met f y=>
  have e:h.get? a=some (PySem.W.methodObj (.ref f) (.ref y)):=x
  show h'.get? a=some (PySem.W.methodObj (.ref f) (.ref y))
  exact k a _ (.inl rfl) e
 | ext φ=>obtain ⟨p,⟨o,e⟩,st⟩:=x; exact ⟨st _ _ p fun o q=>k _ _ (.inl rfl) q,⟨o,k _ _ (.inl rfl) e⟩,st⟩
theorem HOk.lt (x:HOk P w H h) (e:H a=some o):a < h.objs.size:=(x a o e).lt
theorem HOk.fresh (x:HOk P w H h) (e:h.objs.size<=a):H a=none:=by
 cases q:H a with
 | none=>rfl
 | some u=>exact absurd (Zq_ (x.lt q) e) (Nat.lt_irrefl _)
theorem HOk.kept (x:HOk P w H h) (k:∀b u,h.get? b=some u->h'.get? b=some u):HOk P w H h':=fun a o e=>
 (x a o e).stay (fun b u _ q=>k b u q) (fun _ q=>q) fun _ _ q=>q
theorem HOk.laid (x:HOk P w H h) (k:∀b u,h.get? b=some u->h'.get? b=some u) (hp:h.objs.size<=a) (new:ObjOk P w (upd H a o) h' a o):HOk P w (upd H a o) h':=fun b u e=>by
 have hn:=x.fresh hp
 by_cases hb:b=a
 ·subst hb; rw [A8] at e; cases e; exact new
 ·rw [C9 hb] at e
  exact (x b u e).stay (fun c v _ q=>k c v q) (fun c q=>by rw [C9 (C7 q hn)]; exact q) fun c xs q=>by rw [C9 (C7 q hn)]; exact q
end
noncomputable def Rd (H:Hp) (a:Addr) (u:HO):Prop:=H a=some u\/∃o,H a=some (.frz o u)
theorem Rd.ok {P:Program} {w:World} {H:Hp} {h:Heap} {a:Addr} {u:HO} (r:Rd H a u) (x:HOk P w H h):ObjOk P w H h a u:=by
 rcases r with r | ⟨o,r⟩
 ·exact x a u r
 ·obtain ⟨_,q⟩:=x a _ r
  exact q
noncomputable def Mut:Option HO->Prop
 | some (.lst _)=>True
 | some (.dK _)=>True
 | some (.dT _)=>True
 | some (.set _ _)=>True
 | some (.ins _ _ _)=>True
 | some (.ext _)=>True
 | _=>False
section
variable {P:Program} {w:World} {H:Hp} {h h':Heap} {x e:Addr} {o':HO}
theorem HOk.write (ok:HOk P w H h) (mu:Mut (H x)) (he:e=x\/H e=some (.own x)) (k:∀b u,b≠e->h.get? b=some u->h'.get? b=some u) (heo:∃u,h'.get? e=some u)
  (new:ObjOk P w (upd H x o') h' x o'):HOk P w (upd H x o') h':=fun b u q=>by
 have nown:∀c y,H c=some (.own y)->c≠x:=fun c y r z=>by subst z; rw [r] at mu; exact mu
 have ntup:∀c xs,H c=some (.tup xs)->c≠x:=fun c xs r z=>by subst z; rw [r] at mu; exact mu
 by_cases hb:b=x
 ·subst hb; rw [A8] at q; cases q; exact new
 ·rw [C9 hb] at q
  by_cases hbe:b=e
  ·have q':H b=some (.own x):=by
    rcases he with z | z
    ·exact absurd (hbe.trans z) hb
    ·rw [hbe]; exact z
   rw [q] at q'; cases q'
   obtain ⟨v,hv⟩:=heo
   exact ⟨v,by rw [hbe]; exact hv⟩
  ·refine (ok b u q).stay (fun c v hc r=>k c v ?_ r) (fun c r=>by rw [C9 (nown c b r)]; exact r) fun c xs r=>by rw [C9 (ntup c xs r)]; exact r
   rcases hc with rfl | hc
   ·exact hbe
   ·rintro rfl
    rcases he with z | z
    ·exact nown c b hc z
    ·rw [hc] at z; cases z; exact hb rfl
end
structure Un (fs ex:List Addr) (H H':Hp) (h h':Heap):Prop where
 keep:∀b o,h.get? b=some o->H b=none->b∉fs->b∉ex->h'.get? b=some o
 slot:∀b o,h.get? b=some o->H b=none->b∈fs->b∉ex->∃sl,h'.get? b=some { o with slots:=sl }
 free:∀b o,h.get? b=some o->H b=none->b∉ex->H' b=none
 there:∀b o,h.get? b=some o->b∉ex->∃o',h'.get? b=some o'
 tups:∀b xs,H b=some (.tup xs)->H' b=some (.tup xs)
 frzs:∀b o u,H b=some (.frz o u)->H' b=some (.frz o u)
 tbls:∀b ps,H b=some (.tbl ps)->∃more,H' b=some (.tbl (ps++more))
section
variable {fs fs' ex ex':List Addr} {H H1 H2:Hp} {h h1 h2 h':Heap} {a x e:Addr} {o:HO}
theorem Un.any (u:Un fs ex H H1 h h1) {b:Addr} {ob:Obj} (q:h.get? b=some ob) (n:H b=none) (hx:b∉ex):∃sl,h1.get? b=some { ob with slots:=sl }:=by
 by_cases hb:b∈fs
 ·exact u.slot b ob q n hb hx
 ·exact ⟨ob.slots,u.keep b ob q n hb hx⟩
theorem Un.kept (k:∀b u,h.get? b=some u->h'.get? b=some u):Un fs ex H H h h':=
 ⟨fun b ob q _ _ _=>k b ob q,fun b ob q _ _ _=>⟨ob.slots,k b ob q⟩,fun _ _ _ n _=>n,fun b ob q _=>⟨ob,k b ob q⟩,fun _ _ q=>q,fun _ _ _ q=>q,fun _ ps q=>⟨#[],by rw [q]; simp⟩⟩
theorem Un.refl:Un fs ex H H h h:=Un.kept fun _ _ q=>q
theorem Un.laid (k:∀b u,h.get? b=some u->h'.get? b=some u) (hp:h.objs.size<=a) (hn:H a=none):Un fs ex H (upd H a o) h h' where
 keep:=fun b u q _ _ _=>k b u q
 slot:=fun b u q _ _ _=>⟨u.slots,k b u q⟩
 free:=fun b u q n _=>by rw [C9 (Zs_ (Zq_ (Zn_ q) hp))]; exact n
 there:=fun b u q _=>⟨u,k b u q⟩
 tups:=fun b xs q=>by rw [C9 (C7 q hn)]; exact q
 frzs:=fun b u xs q=>by rw [C9 (C7 q hn)]; exact q
 tbls:=fun b ps q=>⟨#[],by rw [C9 (C7 q hn),q]; simp⟩
theorem Un.write (mu:Mut (H x)) (he:e=x\/H e=some (.own x)) (k:∀b u,b≠e->h.get? b=some u->h'.get? b=some u) (heo:∃u,h'.get? e=some u):Un fs ex H (upd H x o) h h':=by
 have hx:∀b,H b=none->b≠x:=fun b n z=>by subst z; rw [n] at mu; exact mu
 have hb:∀b,H b=none->b≠e:=fun b n z=>by
  subst z
  rcases he with r | r
  ·exact hx b n r
  ·rw [n] at r; cases r
 have hm:∀b u,H b=some u->¬Mut (some u)->b≠x:=fun b u q nm z=>by subst z; rw [q] at mu; exact nm mu
 refine ⟨fun b u q n _ _=>k b u (hb b n) q,fun b u q n _ _=>⟨u.slots,k b u (hb b n) q⟩,fun b u q n _=>by rw [C9 (hx b n)]; exact n,fun b u q _=>?_,
  fun b xs q=>by rw [C9 (hm b _ q fun z=>z)]; exact q,fun b u xs q=>by rw [C9 (hm b _ q fun z=>z)]; exact q,fun b ps q=>⟨#[],by rw [C9 (hm b _ q fun z=>z),q]; simp⟩⟩
 by_cases hbe:b=e
 ·subst hbe; exact heo
 ·exact ⟨u,k b u hbe q⟩
end
noncomputable def trk (h:Heap) (H:Hp):List Addr:=(List.range h.objs.size).filter fun a=>(H a).isSome
noncomputable def Gw (h:Heap) (H:Hp):Heap:=PySem.W.hideAll h (trk h H)
theorem Qe (h:Heap) (H:Hp):(Gw h H).objs.size=h.objs.size:=PySem.W.hideAll_size _ _
theorem Tv {h:Heap} {H:Hp} {b:Addr} {o:Obj} (e:h.get? b=some o) (n:H b=none):(Gw h H).get? b=some o:=
 PySem.W.hideAll_get _ e fun hm=>by
  have q:(H b).isSome=true:=(List.mem_filter.mp hm).2
  rw [n] at q; simp at q
theorem Yp {h:Heap} {H:Hp} {b:Addr} {o:Obj} (e:(Gw h H).get? b=some o):h.get? b=some o/\H b=none:=by
 have e':h.get? b=some o:=PySem.W.of_hideAll (trk h H) e
 refine ⟨e',?_⟩
 cases q:H b with
 | none=>rfl
 | some x=>
  have hm:b∈trk h H:=List.mem_filter.mpr ⟨List.mem_range.mpr (Heap.lt_size e'),by simp [q]⟩
  have z:(Gw h H).get? b=none:=PySem.W.hideAll_none (trk h H) hm
  rw [z] at e; cases e
structure Mod (K:Θf) (mg:Str->Option Value) (base:Heap):Prop where
 kin:K.In base
 glob:base.Ns mainGlobals mg
 blt:∃mb,base.Ns builtinsNs mb/\∀x:Str,x≠"__name__"->mb x=bootBuiltins x
 nolimit:base.NoLimit
structure Cx where
 prog:Program
 w:World
 K:Θf
 mg:Str->Option Value
 base:Heap
 A:Around
 N:List Str
 s₀:Shared
 H₀:Hp
 env:Env
 outer:List Env
 stack:List Env
 ex:List Addr
 fn:Str->Bool
 calm:Bool
 pn:List (Addr × Obj)
 xe:Value->Shared->Prop
noncomputable def frs (l:List Env):List Addr:=l.filterMap (·.frame)
noncomputable abbrev Cx.fs (X:Cx):List Addr:=frs X.outer
noncomputable def Vis (sc:Scope) (x:Str):Prop:=sc.names.lookup x=some .local\/sc.names.lookup x=some .cell\/sc.names.lookup x=some .free
noncomputable def Loc (sc:Scope) (x:Str):Prop:=sc.names.lookup x=some .local\/sc.names.lookup x=some .cell
noncomputable def Aeo (env:Env) (h:Heap) (m:Str->Option Value) (x:Str) (u:Value):Prop:=
 (env.kindOf x=some .local/\m x=some u)\/((env.kindOf x=some .cell\/env.kindOf x=some .free)/\∃c,env.cells.lookup x=some c/\h.IsCell c (some u))
structure Cx.Ok (X:Cx):Prop where
 mod:Mod X.K X.mg X.base
 kind:X.env.scope.kind = .function
 glob:X.env.globals=mainGlobals
 blt:X.env.builtins=builtinsNs
 above:X.s₀.heap.objs.size<=X.env.locals
 inj:∀x y c,X.env.cells.lookup x=some c->X.env.cells.lookup y=some c->x=y
 has:∀x,(X.env.kindOf x=some .cell\/X.env.kindOf x=some .free)->∃c,X.env.cells.lookup x=some c
 cab:∀x c,X.fn x=true->X.env.cells.lookup x=some c->X.s₀.heap.objs.size<=c
 hd:X.calm=true->X.A.handled=none
 frames:X.A.frames=some X.stack
 stk:X.stack=X.outer\/(X.stack=X.env :: X.outer/\X.env.frame=some X.env.locals)
 exf:∀b∈X.ex,b≠X.env.locals/\∀x c,X.env.cells.lookup x=some c->c≠b
 bs:∀b o,X.base.get? b=some o->X.s₀.heap.get? b=some o/\X.H₀ b=none
 bsz:X.base.objs.size<=X.s₀.heap.objs.size
 noex:∀b o,X.base.get? b=some o->b∉X.ex
 exfs:∀b∈X.ex,b∉X.fs
 funs:X.s₀.heap.FunFrames X.base X.outer
 frf:∀b∈X.fs,X.H₀ b=none
structure Inv (X:Cx) (pins:List (Addr × Obj)) (σ:List (Option V)) (H:Hp) (s:Shared):Prop where
 ok:X.Ok
 os:s.os=X.s₀.os
 bare:AllBare s.gens
 base:Un X.fs X.ex X.H₀ H X.s₀.heap s.heap
 loc:∃m,s.heap.Ns X.env.locals m/\∀(i:Nat) (x:Str) (v:V),X.N[i]? = some x->σ[i]? = some (some v)->Vis X.env.scope x->∃u,RelV v u/\Aeo X.env s.heap m x u
 cell:∀x c,X.env.cells.lookup x=some c->∃v,s.heap.IsCell c v
 free:H X.env.locals=none
 freeC:∀x c,X.env.cells.lookup x=some c->H c=none
 pin:∀p∈X.pn++pins,s.heap.get? p.1=some p.2/\H p.1=none/\p.1≠X.env.locals/\p.1∉X.fs/\∀v,p.2.data≠.cell v
 hok:HOk X.prog X.w H s.heap
 len:σ.length=X.N.length
section
variable {X:Cx} {pins:List (Addr × Obj)} {σ:List (Option V)} {H H':Hp} {s:Shared} {h':Heap}
theorem Cx.Ok.nofr (ok:X.Ok) {b:Addr} {o:Obj} (e:X.base.get? b=some o):b∉X.fs:=fun hb=>by
 have:=(ok.funs.mem hb).1
 rw [e] at this; cases this
theorem Inv.bs (I:Inv X pins σ H s):∀b o,X.base.get? b=some o->s.heap.get? b=some o/\H b=none:=fun b o e=>
 ⟨I.base.keep b o (I.ok.bs b o e).1 (I.ok.bs b o e).2 (I.ok.nofr e) (I.ok.noex b o e),I.base.free b o (I.ok.bs b o e).1 (I.ok.bs b o e).2 (I.ok.noex b o e)⟩
theorem Inv.bk (I:Inv X pins σ H s):∀b o,X.base.get? b=some o->s.heap.get? b=some o:=fun b o e=>(I.bs b o e).1
theorem Inv.mod (I:Inv X pins σ H s):Mod X.K X.mg X.base:=I.ok.mod
theorem Inv.kIn (I:Inv X pins σ H s):X.K.In s.heap:=I.ok.mod.kin.keeps I.bk
theorem Inv.lt (I:Inv X pins σ H s):X.env.locals < s.heap.objs.size:=let ⟨_,hn,_⟩:=I.loc; hn.lt
theorem Inv.sz (I:Inv X pins σ H s):X.s₀.heap.objs.size<=s.heap.objs.size:=Zo_ I.ok.above (Nat.le_of_lt I.lt)
theorem Inv.nofs (I:Inv X pins σ H s) {a:Addr} (h:s.heap.objs.size<=a):a∉X.fs:=fun hb=>by
 obtain ⟨_,o,ho,_⟩:=I.ok.funs.mem hb
 exact absurd (Zq_ (Zn_ ho) (Zo_ I.sz h)) (Nat.lt_irrefl _)
theorem Inv.cne (I:Inv X pins σ H s):∀x c,X.env.cells.lookup x=some c->c≠X.env.locals:=fun x c e z=>by
 obtain ⟨v,o,ho,hd⟩:=I.cell x c e
 obtain ⟨m,⟨o',es,ep,ho',hd',_⟩,_⟩:=I.loc
 rw [z,ho'] at ho; cases ho; rw [hd'] at hd; cases hd
theorem Inv.funs (I:Inv X pins σ H s):s.heap.FunFrames X.base X.outer:=by
 have all:∀(l:List Env),(∀b∈frs l,b∈X.fs)->X.s₀.heap.FunFrames X.base l->s.heap.FunFrames X.base l:=by
  intro l
  induction l with
  | nil=>intro _ _; trivial
  | cons env r ih=>
   intro hs hl
   obtain ⟨hk,⟨L,o,hf,hn,ho,hd⟩,hr⟩:=hl
   have hL:L∈X.fs:=hs L (by unfold frs; rw [List.filterMap_cons,hf]; exact Θc)
   obtain ⟨sl,e⟩:=I.base.slot L o ho (I.ok.frf L hL) hL fun z=>I.ok.exfs L z hL
   exact ⟨hk,⟨L,_,hf,hn,e,hd⟩,ih (fun b hb=>hs b (by unfold frs; rw [List.filterMap_cons,hf]; exact Θd _ hb)) hr⟩
 exact all X.outer (fun _ hb=>hb) I.ok.funs
theorem Inv.stack (I:Inv X pins σ H s):s.heap.FunFrames X.base X.stack:=by
 rcases I.ok.stk with e | ⟨e,hf⟩
 ·rw [e]; exact I.funs
 ·rw [e]
  obtain ⟨m,hn,_⟩:=I.loc
  refine .cons (by rw [I.ok.kind]; decide) hf hn ?_ I.funs
  exact Heap.get?_none_of_le (Zo_ I.ok.bsz I.ok.above)
theorem Inv.stkSub (I:Inv X pins σ H s):∀b∈frs X.stack,b∈X.env.locals :: X.fs:=fun b hb=>by
 rcases I.ok.stk with e | ⟨e,hf⟩
 ·rw [e] at hb; exact Θd _ hb
 ·rw [e] at hb
  unfold frs at hb
  rw [List.filterMap_cons,hf] at hb
  exact hb
theorem Inv.stkFree (I:Inv X pins σ H s):∀b∈frs X.stack,H b=none:=fun b hb=>by
 rcases Zg_.mp (I.stkSub b hb) with e | hb
 ·rw [e]; exact I.free
 ·obtain ⟨_,o,ho,_⟩:=I.ok.funs.mem hb
  exact I.base.free b o ho (I.ok.frf b hb) fun z=>I.ok.exfs b z hb
theorem Inv.step {g':Array GenState} {t':Nat} {d':Drawn} {ch:List Addr} (I:Inv X pins σ H s)
  (hch:∀b∈ch,(b∈X.ex\/X.s₀.heap.objs.size<=b)/\b≠X.env.locals/\(∀x c,X.env.cells.lookup x=some c->c≠b)/\∀p∈X.pn++pins,p.1≠b)
  (keep:∀b o,b≠X.env.locals->b∉X.fs->b∉ch->s.heap.get? b=some o->H b=none->h'.get? b=some o)
  (slot:∀b o,b≠X.env.locals->b∈X.fs->b∉ch->s.heap.get? b=some o->H b=none->∃sl,h'.get? b=some { o with slots:=sl }) (free:∀b o,b∉ch->s.heap.get? b=some o->H b=none->H' b=none)
  (there:∀b o,b∉ch->s.heap.get? b=some o->∃o',h'.get? b=some o')
  (tups:∀b xs,H b=some (.tup xs)->H' b=some (.tup xs)) (frzs:∀b o u,H b=some (.frz o u)->H' b=some (.frz o u)) (tbls:∀b ps,H b=some (.tbl ps)->∃more,H' b=some (.tbl (ps++more)))
  (ns:∀m,s.heap.Ns X.env.locals m->h'.Ns X.env.locals m) (hok:HOk X.prog X.w H' h') (hg:AllBare g') :
  Inv X pins σ H' { s with heap:=h',gens:=g',drawn:=d',toks:=t' }:=by
 have neL:∀b o,X.s₀.heap.get? b=some o->b≠X.env.locals:=fun b o e=>Zs_ (Zq_ (Zn_ e) I.ok.above)
 have neC:∀b o,X.s₀.heap.get? b=some o->b∉X.ex->b∉ch:=fun b o e hx hb=>by
  rcases (hch b hb).1 with z | z
  ·exact hx z
  ·exact absurd (Zq_ (Zn_ e) z) (Nat.lt_irrefl _)
 have cellK:∀x c,X.env.cells.lookup x=some c->∀v,s.heap.IsCell c v->h'.IsCell c v:=fun x c e v ⟨o,ho,hd⟩=>by
  have nch:c∉ch:=fun z=>(hch c z).2.2.1 x c e rfl
  by_cases hc:c∈X.fs
  ·obtain ⟨sl,q⟩:=slot c o (I.cne x c e) hc nch ho (I.freeC x c e)
   exact ⟨_,q,hd⟩
  ·exact ⟨o,keep c o (I.cne x c e) hc nch ho (I.freeC x c e),hd⟩
 refine ⟨I.ok,I.os,hg,⟨fun b o e n hb hx=>?_,fun b o e n hb hx=>?_,fun b o e n hx=>?_,fun b o e hx=>?_,fun b xs e=>tups b xs (I.base.tups b xs e),fun b o xs e=>frzs b o xs (I.base.frzs b o xs e),fun b ps e=>?_⟩,?_,fun x c e=>?_,?_,fun x c e=>?_,fun p hp=>?_,hok,I.len⟩
 ·exact keep b o (neL b o e) hb (neC b o e hx) (I.base.keep b o e n hb hx) (I.base.free b o e n hx)
 ·obtain ⟨sl,e1⟩:=I.base.slot b o e n hb hx
  obtain ⟨sl',e2⟩:=slot b _ (neL b o e) hb (neC b o e hx) e1 (I.base.free b o e n hx)
  exact ⟨sl',e2⟩
 ·obtain ⟨o',e1⟩:=I.base.there b o e hx
  exact free b o' (neC b o e hx) e1 (I.base.free b o e n hx)
 ·obtain ⟨o',e1⟩:=I.base.there b o e hx
  exact there b o' (neC b o e hx) e1
 ·obtain ⟨m1,e1⟩:=I.base.tbls b ps e
  obtain ⟨m2,e2⟩:=tbls b _ e1
  exact ⟨m1++m2,by rw [e2,Array.append_assoc]⟩
 ·obtain ⟨m,hn,hl⟩:=I.loc
  refine ⟨m,ns m hn,fun i x v e1 e2 e3=>?_⟩
  obtain ⟨u,r,l⟩:=hl i x v e1 e2 e3
  refine ⟨u,r,?_⟩
  rcases l with l | ⟨k,c,e,z⟩
  ·exact .inl l
  ·exact .inr ⟨k,c,e,cellK x c e _ z⟩
 ·obtain ⟨v,z⟩:=I.cell x c e
  exact ⟨v,cellK x c e v z⟩
 ·obtain ⟨m,⟨o,_,_,ho,_⟩,_⟩:=I.loc
  exact free _ o (fun z=>(hch _ z).2.1 rfl) ho I.free
 ·obtain ⟨v,o,ho,hd⟩:=I.cell x c e
  exact free c o (fun z=>(hch c z).2.2.1 x c e rfl) ho (I.freeC x c e)
 ·obtain ⟨e,n,ne,nf,d⟩:=I.pin p hp
  have nch:p.1∉ch:=fun z=>(hch p.1 z).2.2.2 p hp rfl
  exact ⟨keep p.1 p.2 ne nf nch e n,free p.1 p.2 nch e n,ne,nf,d⟩
theorem Inv.un {t':Nat} (I:Inv X pins σ H s) (u:Un X.fs [] H H' s.heap h') (hok:HOk X.prog X.w H' h'):Inv X pins σ H' { s with heap:=h',toks:=t' }:=by
 obtain ⟨m,⟨o,es,ep,ho,r⟩,_⟩:=id I.loc
 obtain ⟨sl,hL⟩:=u.any ho I.free (by simp)
 exact I.step (g':=s.gens) (d':=s.drawn) (ch:=[]) (fun _ z=>nomatch z) (fun b o _ hb _ e n=>u.keep b o e n hb (by simp)) (fun b o _ hb _ e n=>u.slot b o e n hb (by simp)) (fun b o _ e n=>u.free b o e n (by simp)) (fun b o _ e=>u.there b o e (by simp)) u.tups u.frzs u.tbls (fun m' hm=>by
  obtain ⟨o',es',ep',ho',r'⟩:=hm
  rw [ho] at ho'; cases ho'
  exact ⟨_,es',ep',hL,r'⟩) hok I.bare
theorem Inv.call {g':Array GenState} {t':Nat} {d':Drawn} {ch:List Addr} (I:Inv X pins σ H s) (u:Un (frs X.stack) ch H H' s.heap h') (hok:HOk X.prog X.w H' h') (hg:AllBare g')
  (hch:∀b∈ch,(b∈X.ex\/X.s₀.heap.objs.size<=b)/\b≠X.env.locals/\(∀x c,X.env.cells.lookup x=some c->c≠b)/\∀p∈X.pn++pins,p.1≠b) :
  Inv X pins σ H' { s with heap:=h',gens:=g',drawn:=d',toks:=t' }:=by
 obtain ⟨m,⟨o,es,ep,ho,r⟩,_⟩:=id I.loc
 obtain ⟨sl,hL⟩:=u.any ho I.free fun z=>(hch _ z).2.1 rfl
 exact I.step (ch:=ch) hch (fun b o hL hb hc e n=>u.keep b o e n (fun z=>(Zg_.mp (I.stkSub b z)).elim hL hb) hc) (fun b o _ _ hc e n=>u.any e n hc) (fun b o hc e n=>u.free b o e n hc) (fun b o hc e=>u.there b o e hc) u.tups u.frzs u.tbls (fun m' hm=>by
  obtain ⟨o',es',ep',ho',r'⟩:=hm
  rw [ho] at ho'; cases ho'
  exact ⟨_,es',ep',hL,r'⟩) hok hg
theorem Inv.turned {t':Nat} {it:Addr} (I:Inv X pins σ H s) (k:∀b o,b≠it->s.heap.get? b=some o->h'.get? b=some o) (hn:H it=none) (hL:it≠X.env.locals)
  (h1:it∈X.ex\/X.s₀.heap.objs.size<=it) (h2:∀x c,X.env.cells.lookup x=some c->c≠it) (h3:∀p∈X.pn++pins,p.1≠it):Inv X pins σ H { s with heap:=h',toks:=t' }:=by
 have nit:∀b u,H b=some u->b≠it:=fun b u e z=>by rw [z,hn] at e; cases e
 refine I.step (g':=s.gens) (d':=s.drawn) (ch:=[it]) (fun b hb=>?_) (fun b o _ _ hc e _=>k b o (fun z=>hc (by simp [z])) e) (fun b o _ _ hc e _=>⟨o.slots,k b o (fun z=>hc (by simp [z])) e⟩) (fun _ _ _ _ n=>n)
  (fun b o hc e=>⟨o,k b o (fun z=>hc (by simp [z])) e⟩) (fun _ _ e=>e) (fun _ _ _ e=>e) (fun b ps e=>⟨#[],by rw [e]; simp⟩) (fun m hm=>?_) (fun b u e=>?_) I.bare
 ·have e:b=it:=by simpa using hb
  subst e
  exact ⟨h1,hL,h2,h3⟩
 ·obtain ⟨o,es,ep,ho,r⟩:=hm
  exact ⟨o,es,ep,k _ o (Ne.symm hL) ho,r⟩
 ·refine (I.hok b u e).stay (fun c v hc q=>k c v ?_ q) (fun _ q=>q) fun _ _ q=>q
  rcases hc with z | z
  ·rw [z]; exact nit b u e
  ·exact nit c _ z
theorem Inv.tok (I:Inv X pins σ H s) (t:Nat):Inv X pins σ H { s with toks:=t }:=I.un (h':=s.heap) (t':=t) Un.refl I.hok
theorem Inv.kept {t':Nat} (I:Inv X pins σ H s) (k:∀b u,s.heap.get? b=some u->h'.get? b=some u):Inv X pins σ H { s with heap:=h',toks:=t' }:=I.un (Un.kept k) (I.hok.kept k)
theorem Inv.laid {a:Addr} {o:HO} {t':Nat} (I:Inv X pins σ H s) (k:∀b u,s.heap.get? b=some u->h'.get? b=some u) (hp:s.heap.objs.size<=a) (new:ObjOk X.prog X.w (upd H a o) h' a o) :
  Inv X pins σ (upd H a o) { s with heap:=h',toks:=t' }:=I.un (Un.laid k hp (I.hok.fresh hp)) (I.hok.laid k hp new)
theorem Inv.write {x e:Addr} {o:HO} {t':Nat} (I:Inv X pins σ H s) (mu:Mut (H x)) (he:e=x\/H e=some (.own x)) (k:∀b u,b≠e->s.heap.get? b=some u->h'.get? b=some u) (heo:∃u,h'.get? e=some u)
  (new:ObjOk X.prog X.w (upd H x o) h' x o):Inv X pins σ (upd H x o) { s with heap:=h',toks:=t' }:=I.un (Un.write mu he k heo) (I.hok.write mu he k heo new)
theorem Inv.weak {σ':List (Option V)} (I:Inv X pins σ H s) (hl:σ'.length=σ.length) (w:∀(i:Nat) v,σ'[i]? = some (some v)->σ[i]? = some (some v)):Inv X pins σ' H s:=
 ⟨I.ok,I.os,I.bare,I.base,let ⟨m,hn,hl'⟩:=I.loc; ⟨m,hn,fun i x v e1 e2 e3=>hl' i x v e1 (w i v e2) e3⟩,I.cell,I.free,I.freeC,I.pin,I.hok,hl.trans I.len⟩
theorem Inv.pins_of {pins':List (Addr × Obj)} (I:Inv X pins σ H s) (h:∀p∈pins',s.heap.get? p.1=some p.2/\H p.1=none/\p.1≠X.env.locals/\p.1∉X.fs/\∀v,p.2.data≠.cell v):Inv X pins' σ H s:=
 ⟨I.ok,I.os,I.bare,I.base,I.loc,I.cell,I.free,I.freeC,fun p hp=>(Θa hp).elim (fun z=>I.pin p (Zt_ _ z)) (h p),I.hok,I.len⟩
theorem Jy {N:List Str} (hN:N.Nodup) {i j:Nat} {x:Str} (a:N[i]? = some x) (b:N[j]? = some x):i=j:=by
 obtain ⟨h1,e1⟩:=Ze_.mp a
 obtain ⟨h2,e2⟩:=Ze_.mp b
 exact (List.getElem_inj hN).mp (e1.trans e2.symm)
theorem Gb {M:Model} {A:Around} {E:Value->Shared->Prop} {i:Nat} {x:Str} {v:V} {u:Value} {Q:Unit->Shared->Prop} (I:Inv X pins σ H s) (hN:X.N.Nodup) (hi:X.N[i]? = some x) (hx:Loc X.env.scope x) (r:RelV v u)
  (h:∀s',Inv X pins (σ.set i (some v)) H s'->(∃a,Heap.SameBut a s.heap s'.heap/\(a=X.env.locals\/X.env.cells.lookup x=some a))->Q () s') (hf:X.fn x=true\/X.env.scope.names.lookup x=some .local:=by first | exact .inl rfl | exact .inr rfl | assumption):wpAny M A (storeName X.env x u) Q E s:=by
 obtain ⟨m,hn,hl⟩:=id I.loc
 have hcls:(X.env.scope.kind == .class || (X.env.scope.kind == .module && X.env.locals != X.env.globals))=false:=by rw [I.ok.kind]; rfl
 have hiσ:i < σ.length:=by rw [I.len]; exact (Ze_.mp hi).1
 have cne:=I.cne
 have tracked:∀{a:Addr} {h':Heap},(∃o,s.heap.get? a=some o/\H a=none)->Heap.SameBut a s.heap h'->HOk X.prog X.w H h':=fun {a h'} ha hs b ob e=>by
  obtain ⟨_,_,hfree⟩:=ha
  refine (I.hok b ob e).stay (fun c w' hc q=>(hs.2 c ?_).trans q) (fun _ q=>q) fun _ _ q=>q
  rintro rfl
  rcases hc with rfl | hc
  ·rw [hfree] at e; cases e
  ·rw [hfree] at hc; cases hc
 rcases hx with hk | hk
 ·refine wpAny_storeName_local hk hn (fun h' hn' hs=>?_) hcls
  obtain ⟨oL,_,_,hoL,_⟩:=id hn
  refine h _ ⟨I.ok,I.os,I.bare,⟨fun b o e n hb hx=>?_,fun b o e n hb hx=>?_,I.base.free,fun b o e hx=>?_,I.base.tups,I.base.frzs,I.base.tbls⟩,⟨_,hn',fun j y v' e1 e2 e3=>?_⟩,fun y c e=>?_,I.free,I.freeC,fun p hp=>?_,tracked ⟨oL,hoL,I.free⟩ hs,by simpa using I.len⟩ ⟨_,hs,.inl rfl⟩
  ·exact (hs.2 b (Zs_ (Zq_ (Zn_ e) I.ok.above))).trans (I.base.keep b o e n hb hx)
  ·obtain ⟨sl,e1⟩:=I.base.slot b o e n hb hx
   exact ⟨sl,(hs.2 b (Zs_ (Zq_ (Zn_ e) I.ok.above))).trans e1⟩
  ·obtain ⟨o',e1⟩:=I.base.there b o e hx
   exact ⟨o',(hs.2 b (Zs_ (Zq_ (Zn_ e) I.ok.above))).trans e1⟩
  ·by_cases hj:j=i
   ·subst hj
    rw [hi] at e1; cases e1
    rw [List.getElem?_set_self hiσ] at e2
    cases e2
    exact ⟨u,r,.inl ⟨hk,by simp⟩⟩
   ·rw [List.getElem?_set_ne (Ne.symm hj)] at e2
    obtain ⟨u',r',q⟩:=hl j y v' e1 e2 e3
    refine ⟨u',r',?_⟩
    rcases q with ⟨k,e⟩ | ⟨k,c,e,z⟩
    ·refine .inl ⟨k,?_⟩
     have:y≠x:=fun e=>hj (Jy hN e1 (e ▸ hi))
     simp [this,e]
    ·exact .inr ⟨k,c,e,z.sameBut hs (cne y c e)⟩
  ·obtain ⟨w',z⟩:=I.cell y c e
   exact ⟨w',z.sameBut hs (cne y c e)⟩
  ·obtain ⟨e,n,ne,nf,d⟩:=I.pin p hp
   exact ⟨(hs.2 p.1 ne).trans e,n,ne,nf,d⟩
 ·have hfn:X.fn x=true:=by
   rcases hf with z | z
   ·exact z
   ·rw [z] at hk; cases hk
  obtain ⟨c,hc⟩:=I.ok.has x (.inl hk)
  obtain ⟨w',z⟩:=I.cell x c hc
  refine wpAny_storeName_cell I.ok.kind hk hc z (fun h' hc' hs=>?_)
  obtain ⟨oc,hoc,hocd⟩:=id z
  refine h { s with heap:=h' } ⟨I.ok,I.os,I.bare,⟨fun b o e n hb hx=>?_,fun b o e n hb hx=>?_,I.base.free,fun b o e hx=>?_,I.base.tups,I.base.frzs,I.base.tbls⟩,⟨m,hn.sameBut hs (Ne.symm (cne x c hc)),fun j y v' e1 e2 e3=>?_⟩,fun y c' e=>?_,I.free,I.freeC,fun p hp=>?_,tracked ⟨oc,hoc,I.freeC x c hc⟩ hs,by simpa using I.len⟩ ⟨c,hs,.inr hc⟩
  ·exact (hs.2 b (Zs_ (Zq_ (Zn_ e) (I.ok.cab x c hfn hc)))).trans (I.base.keep b o e n hb hx)
  ·obtain ⟨sl,e1⟩:=I.base.slot b o e n hb hx
   exact ⟨sl,(hs.2 b (Zs_ (Zq_ (Zn_ e) (I.ok.cab x c hfn hc)))).trans e1⟩
  ·obtain ⟨o',e1⟩:=I.base.there b o e hx
   exact ⟨o',(hs.2 b (Zs_ (Zq_ (Zn_ e) (I.ok.cab x c hfn hc)))).trans e1⟩
  ·by_cases hj:j=i
   ·subst hj
    rw [hi] at e1; cases e1
    rw [List.getElem?_set_self hiσ] at e2
    cases e2
    exact ⟨u,r,.inr ⟨.inl hk,c,hc,hc'⟩⟩
   ·rw [List.getElem?_set_ne (Ne.symm hj)] at e2
    obtain ⟨u',r',q⟩:=hl j y v' e1 e2 e3
    refine ⟨u',r',?_⟩
    rcases q with q | ⟨k,c',e,z'⟩
    ·exact .inl q
    ·refine .inr ⟨k,c',e,z'.sameBut hs ?_⟩
     rintro rfl
     exact hj (Jy hN e1 (I.ok.inj _ _ _ e hc ▸ hi))
  ·by_cases hcc:c' = c
   ·subst hcc; exact ⟨_,hc'⟩
   ·obtain ⟨w2,z2⟩:=I.cell y c' e
    exact ⟨w2,z2.sameBut hs hcc⟩
  ·obtain ⟨e,n,ne,nf,d⟩:=I.pin p hp
   refine ⟨(hs.2 p.1 ?_).trans e,n,ne,nf,d⟩
   intro q
   rw [q,hoc] at e
   have q':oc=p.2:=Θo e
   exact d w' (by rw [<-q']; exact hocd)
theorem Eu {M:Model} {A:Around} {E:Value->Shared->Prop} {i:Nat} {x:Str} {v:V} {u:Value} {Q:Unit->Shared->Prop} (I:Inv X pins σ H s) (hN:X.N.Nodup) (hi:X.N[i]? = some x) (hx:Loc X.env.scope x) (r:RelV v u)
  (h:∀s',Inv X pins (σ.set i (some v)) H s'->Q () s') (hf:X.fn x=true\/X.env.scope.names.lookup x=some .local:=by first | exact .inl rfl | exact .inr rfl | assumption):wpAny M A (storeName X.env x u) Q E s:=
 Gb I hN hi hx r (fun s' I' _=>h s' I') hf
theorem Inv.call' {s':Shared} {ch:List Addr} (I:Inv X pins σ H s) (ho:s'.os=s.os) (u:Un (frs X.stack) ch H H' s.heap s'.heap) (hok:HOk X.prog X.w H' s'.heap) (hg:AllBare s'.gens)
  (hch:∀b∈ch,(b∈X.ex\/X.s₀.heap.objs.size<=b)/\b≠X.env.locals/\(∀x c,X.env.cells.lookup x=some c->c≠b)/\∀p∈X.pn++pins,p.1≠b):Inv X pins σ H' s':=by
 obtain ⟨h',g',d',t',o'⟩:=s'
 have e:o' = s.os:=ho
 subst e
 exact I.call (g':=g') (t':=t') (d':=d') u hok hg hch
end
noncomputable abbrev XK:=Value->Option Addr->Hp->Prop
noncomputable abbrev St:=List (Option V)
noncomputable abbrev VK:=V->Hp->Prop
noncomputable abbrev TE:=St->Hp->VK->Prop
noncomputable abbrev TT:=St->Hp->(Bool->Hp->Prop)->Prop
noncomputable abbrev TA:=St->Hp->(List V->Hp->Prop)->Prop
structure Ends where
 nx:St->Hp->Prop
 rt:VK
 bk:St->Hp->Prop:=fun _ _=>False
 ct:St->Hp->Prop:=fun _ _=>False
noncomputable abbrev TS:=Ends->St->Hp->Prop
noncomputable def EP (X:Cx) (pins:List (Addr × Obj)) (σ:St) (Q:VK) (u:Value) (s':Shared):Prop:=∃v H',Inv X pins σ H' s'/\RelV v u/\Q v H'
noncomputable def TP (X:Cx) (pins:List (Addr × Obj)) (σ:St) (Q:Bool->Hp->Prop) (b:Bool) (s':Shared):Prop:=∃H',Inv X pins σ H' s'/\Q b H'
noncomputable def AP (X:Cx) (pins:List (Addr × Obj)) (σ:St) (Q:List V->Hp->Prop) (us:List Value) (s':Shared):Prop:=∃vs H',Inv X pins σ H' s'/\Vals vs us/\Q vs H'
noncomputable def SP (X:Cx) (pins:List (Addr × Obj)) (D:Ends) (f:Flow) (s':Shared):Prop:=
 match f with
 | .next=>∃σ' H',Inv X pins σ' H' s'/\D.nx σ' H'
 | .brk=>∃σ' H',Inv X pins σ' H' s'/\D.bk σ' H'
 | .cont=>∃σ' H',Inv X pins σ' H' s'/\D.ct σ' H'
 | .ret u=>∃v σ' H',Inv X pins σ' H' s'/\RelV v u/\D.rt v H'
noncomputable def PE (X:Cx) (e:Expr) (t:TE):Prop:=
 ∀(pins:List (Addr × Obj)) (s:Shared) (σ:St) (H:Hp) (Q:VK),Inv X pins σ H s->t σ H Q->wpAny (model X.prog X.w) X.A (eval e X.env) (EP X pins σ Q) X.xe s
noncomputable def PT (X:Cx) (e:Expr) (t:TT):Prop:=
 ∀(pins:List (Addr × Obj)) (s:Shared) (σ:St) (H:Hp) (Q:Bool->Hp->Prop),Inv X pins σ H s->t σ H Q->wpAny (model X.prog X.w) X.A (isTrue e X.env (eval e X.env)) (TP X pins σ Q) X.xe s
noncomputable def PW (X:Cx) (e:Expr) (t:TT):Prop:=
 ∀(whole:Sem Value) (pins:List (Addr × Obj)) (s:Shared) (σ:St) (H:Hp) (Q:Bool->Hp->Prop),Inv X pins σ H s->t σ H Q->wpAny (model X.prog X.w) X.A (isTrue e X.env whole) (TP X pins σ Q) X.xe s
theorem PW.pt {X:Cx} {e:Expr} {t:TT} (h:PW X e t):PT X e t:=h _
noncomputable def PA (X:Cx) (es:List Expr) (t:TA):Prop:=
 ∀(pos:Pos) (pins:List (Addr × Obj)) (s:Shared) (σ:St) (H:Hp) (Q:List V->Hp->Prop),Inv X pins σ H s->t σ H Q->wpAny (model X.prog X.w) X.A (spliced (backTo pos (starEach es X.env))) (AP X pins σ Q) X.xe s
noncomputable def PS (X:Cx) (st:Stmt) (t:TS):Prop:=
 ∀(pins:List (Addr × Obj)) (s:Shared) (σ:St) (H:Hp) (D:Ends),Inv X pins σ H s->t D σ H->wpAny (model X.prog X.w) X.A (exec st X.env) (SP X pins D) X.xe s
noncomputable def PSs (X:Cx) (st:List Stmt) (t:TS):Prop:=
 ∀(pins:List (Addr × Obj)) (s:Shared) (σ:St) (H:Hp) (D:Ends),Inv X pins σ H s->t D σ H->wpAny (model X.prog X.w) X.A (execs st X.env) (SP X pins D) X.xe s
theorem thn {α:Type} {t:Sem α} {Q Q':α->Shared->Prop} {M:Model} {A:Around} {E:Value->Shared->Prop} {s:Shared} (h:wpAny M A t Q E s) (hQ:∀a s,Q a s->Q' a s):wpAny M A t Q' E s:=wpAny_mono h hQ fun _ _ x=>x
section
variable {X:Cx}
noncomputable def Mw (i:Nat):TE:=fun σ H Q=>∃v,σ[i]? = some (some v)/\Q v H
noncomputable def tC (v:V):TE:=fun _ H Q=>Q v H
theorem Acn {i:Nat} {x:Str} {pos:Pos} (hN:X.N[i]? = some x) (hv:Vis X.env.scope x) (hd:(x == ("__debug__":Str))=false:=by decide) (hcd:(x == ("__classdict__":Str))=false:=by decide):PE X (.Name x pos) (Mw i):=by
 intro pins s σ H Q I h
 obtain ⟨v,e,h⟩:=h
 obtain ⟨m,hn,hl⟩:=I.loc
 obtain ⟨u,r,l⟩:=hl i x v hN e hv
 have fin:EP X pins σ Q u s:=⟨v,H,I,r,h⟩
 rcases l with ⟨hk,hm⟩ | ⟨hk,c,hc,hcell⟩
 ·exact wpAny_Name (wpAny_loadName_local I.ok.kind hk hn hm fin) hd
 ·rcases hk with hk | hk
  ·exact wpAny_Name (wpAny_loadName_cell I.ok.kind hk hc hcell fin) hd
  ·exact wpAny_Name (wpAny_loadName_free I.ok.kind hk hc hcell fin hcd) hd
theorem B0 {i j pos}:PE X (.Constant (.int i) j pos) (tC (.int i)):=fun _ _ _ H _ I h=>wpAny_Constant_int ⟨.int i,H,I.tok _,⟨_,rfl⟩,h⟩
theorem X8 {b j pos}:PE X (.Constant (.bool b) j pos) (tC (.bl b)):=fun _ _ _ H _ I h=>Constant_bool ⟨.bl b,H,I,rfl,h⟩
theorem N6 {j pos}:PE X (.Constant .none j pos) (tC .non):=fun _ _ _ H _ I h=>Constant_none ⟨.non,H,I,rfl,h⟩
theorem U6 {x j pos}:PE X (.Constant (.str x) j pos) (tC (.str x)):=fun _ _ _ H _ I h=>Calls.Constant_str ⟨.str x,H,I.tok _,⟨_,rfl⟩,h⟩
noncomputable def Gl (X:Cx) (x:Str):Prop:=X.env.kindOf x=some .globalImplicit
theorem Cq {E:Value->Shared->Prop} {pins:List (Addr × Obj)} {s:Shared} {σ:St} {H:Hp} {x:Str} {u:Value} {pos:Pos} {Q:Value->Shared->Prop} (I:Inv X pins σ H s) (hg:Gl X x) (hm:X.mg x=some u) (h:Q u s)
  (hd:(x == ("__debug__":Str))=false:=by decide):wpAny (model X.prog X.w) X.A (eval (.Name x pos) X.env) Q E s:=
 Calls.Name_function_global I.ok.kind hg (Calls.loadGlobal_global (by rw [I.ok.glob]; exact I.mod.glob.keeps I.bk) hm h) hd
theorem Eb {E:Value->Shared->Prop} {pins:List (Addr × Obj)} {s:Shared} {σ:St} {H:Hp} {x:Str} {u:Value} {pos:Pos} {Q:Value->Shared->Prop} (I:Inv X pins σ H s) (hg:Gl X x) (hm:X.mg x=none) (hv:bootBuiltins x=some u) (h:Q u s)
  (hn:x≠"__name__":=by decide) (hd:(x == ("__debug__":Str))=false:=by decide):wpAny (model X.prog X.w) X.A (eval (.Name x pos) X.env) Q E s:=by
 obtain ⟨mb,h1,h2⟩:=I.mod.blt
 exact Calls.Name_function_global I.ok.kind hg (Calls.loadGlobal_builtin (by rw [I.ok.glob]; exact I.mod.glob.keeps I.bk) hm (by rw [I.ok.blt]; exact h1.keeps I.bk) ((h2 x hn).trans hv) h) hd
theorem Ol {x:Str} {v:V} {u:Value} {pos:Pos} (hg:Gl X x) (hm:X.mg x=some u) (r:RelV v u) (hd:(x == ("__debug__":Str))=false:=by decide):PE X (.Name x pos) (tC v):=
 fun _ _ _ H _ I h=>Cq I hg hm ⟨v,H,I,r,h⟩ hd
theorem Zh {x:Str} {v:V} {u:Value} {pos:Pos} (hg:Gl X x) (hm:X.mg x=none) (hv:bootBuiltins x=some u) (r:RelV v u) (hn:x≠"__name__":=by decide) (hd:(x == ("__debug__":Str))=false:=by decide):PE X (.Name x pos) (tC v):=
 fun _ _ _ H _ I h=>Eb I hg hm hv ⟨v,H,I,r,h⟩ hn hd
variable {a b:Expr} {ta tb:TE} {pos:Pos}
noncomputable def PC (X:Cx) (op:CmpOp) (a b:Expr) (t:TE):Prop:=
 ∀(pins:List (Addr × Obj)) (s:Shared) (σ:St) (H:Hp) (Q:VK),Inv X pins σ H s->t σ H Q->
  wpAny (model X.prog X.w) X.A (eval a X.env) (fun v s₁=>wpAny (model X.prog X.w) X.A (eval b X.env) (fun u s₂=>wpAny (model X.prog X.w) X.A (compareOp op v u) (EP X pins σ Q) X.xe s₂) X.xe s₁) X.xe s
noncomputable def tB (t:TE):TT:=fun σ H Q=>t σ H fun x H1=>∃c,x = .bl c/\Q c H1
theorem Acq {op:CmpOp} {t:TE} (h:PC X op a b t) (h1:behindInMarks op b=false:=by first | exact nobehind _ (by decide) (by decide) | rfl):PT X (.Compare a [op] [b] pos) (tB t):=by
 intro pins s σ H Q I hw
 refine wpAny_isTrue_Compare1 (thn (h pins s σ H _ I hw) fun v s1 h1=>thn h1 fun u s2 h2=>thn h2 fun c s3 ⟨x,H1,I1,r1,q1⟩=>?_) h1
 obtain ⟨d,rfl,q⟩:=q1
 cases r1
 exact wpAny_truthy_bool ⟨H1,I1,q⟩
theorem V2 {e:Expr} {t:TE} (h:PE X e t) (he:∀whole,isTrue e X.env whole=(do let v <-whole; standAt e.pos; holding [v] (truthy v)):=by intro _; rfl):PT X e (tB t):=by
 intro pins s σ H Q I hw
 refine isTrue_plain (thn (h pins s σ H _ I hw) fun v s1 ⟨x,H1,I1,r1,q1⟩=>?_) (he _)
 obtain ⟨d,rfl,q⟩:=q1
 cases r1
 exact wpAny_truthy_bool ⟨H1,I1,q⟩
variable {tA tB':TT} {rest:List Expr}
noncomputable def Ae0 (t u:TT):TT:=fun σ H Q=>t σ H fun c H1=>if c=true then u σ H1 Q else Q false H1
noncomputable def tOr (t u:TT):TT:=fun σ H Q=>t σ H fun c H1=>if c=true then Q true H1 else u σ H1 Q
noncomputable def Ae6 (t:TT):TT:=fun σ H Q=>t σ H fun c H1=>Q (!c) H1
theorem Ot (ha:PT X a tA):PW X (.BoolOp .And [a] pos) tA:=by
 intro wh pins s σ H Q I h
 refine isTrue_and (thn (ha pins s σ H Q I h) fun c s1 e=>?_)
 cases c with
 | true=>exact isTrue_and_nil e
 | false=>exact e
theorem Vu (ha:PT X a tA):PW X (.BoolOp .Or [a] pos) tA:=by
 intro wh pins s σ H Q I h
 refine isTrue_or (thn (ha pins s σ H Q I h) fun c s1 e=>?_)
 cases c with
 | false=>exact isTrue_or_nil e
 | true=>exact e
theorem Vs (ha:PT X a tA) (hb:PW X (.BoolOp .And (b :: rest) pos) tB'):PW X (.BoolOp .And (a :: b :: rest) pos) (Ae0 tA tB'):=by
 intro wh pins s σ H Q I h
 refine isTrue_and (thn (ha pins s σ H _ I h) fun c s1 ⟨H1,I1,q1⟩=>?_)
 cases c with
 | true=>exact hb wh pins s1 σ H1 Q I1 q1
 | false=>exact ⟨H1,I1,q1⟩
theorem Vt (ha:PT X a tA) (hb:PW X (.BoolOp .Or (b :: rest) pos) tB'):PW X (.BoolOp .Or (a :: b :: rest) pos) (tOr tA tB'):=by
 intro wh pins s σ H Q I h
 refine isTrue_or (thn (ha pins s σ H _ I h) fun c s1 ⟨H1,I1,q1⟩=>?_)
 cases c with
 | true=>exact ⟨H1,I1,q1⟩
 | false=>exact hb wh pins s1 σ H1 Q I1 q1
theorem Hn (ha:PT X a tA):PT X (.UnaryOp .Not a pos) (Ae6 tA):=by
 intro pins s σ H Q I h
 exact isTrue_not (ha pins s σ H (fun c H1=>Q (!c) H1) I h)
noncomputable def Aeh (ta tb:TE):TE:=fun σ H Q=>ta σ H fun x H1=>∃c,x = .bl c/\if c=true then tb σ H1 Q else Q (.bl false) H1
theorem Acm {op} {t:TE} (h:PE X a t):PE X (.BoolOp op [a] pos) t:=fun pins s σ H Q I hw=>BoolOp_one (h pins s σ H Q I hw)
theorem Acj (ha:PE X a ta) (hb:PE X (.BoolOp .And (b :: rest) pos) tb):PE X (.BoolOp .And (a :: b :: rest) pos) (Aeh ta tb):=by
 intro pins s σ H Q I h
 refine BoolOp_and (thn (ha pins s σ H _ I h) fun v s1 ⟨x,H1,I1,r1,q1⟩=>?_)
 obtain ⟨c,rfl,q1⟩:=q1
 cases r1
 refine wpAny_truthy_bool ?_
 cases c with
 | true=>exact hb pins s1 σ H1 Q I1 q1
 | false=>exact ⟨.bl false,H1,I1,rfl,q1⟩
noncomputable def tIf (t:TT) (ta tb:TE):TE:=fun σ H Q=>t σ H fun c H1=>if c=true then ta σ H1 Q else tb σ H1 Q
theorem Vk {c:Expr} (hc:PT X c tA) (ha:PE X a ta) (hb:PE X b tb):PE X (.IfExp c a b pos) (tIf tA ta tb):=by
 intro pins s σ H Q I h
 refine wpAny_IfExp (thn (hc pins s σ H _ I h) fun d s1 ⟨H1,I1,q1⟩=>?_)
 cases d with
 | true=>exact ha pins s1 σ H1 Q I1 q1
 | false=>exact hb pins s1 σ H1 Q I1 q1
end
noncomputable def SqL (K:Θf) (H:Hp) (a:Addr) (xs:List V):Prop:=
 Rd H a (.lst xs)\/
  ∃(o:Obj) (its:Array Value) (n:Nat),K.lookup a=some o/\o.cls = .type "list"/\o.dict=none/\o.data = .seq its n/\its.size<=sizeLine/\Vals xs its.toList
noncomputable def SqT (K:Θf) (H:Hp) (a:Addr) (xs:List V):Prop:=
 Rd H a (.tup xs)\/
  ∃(o:Obj) (its:Array Value) (n:Nat),K.lookup a=some o/\o.cls = .type "tuple"/\o.data = .seq its n/\its.size<=sizeLine/\Vals xs its.toList
noncomputable def Aep:Value->Option V
 | .none=>some .non
 | .bool b=>some (.bl b)
 | .int i _=>some (.int i)
 | .str x _=>some (.str x)
 | .bytes b _=>some (.byt b)
 | .float b _=>some (.flt b)
 | .ref a=>some (.ref a)
 | .type n=>some (.ty n)
 | _=>none
theorem RelV.abs {x:V} {u:Value} (r:RelV x u):Aep u=some x:=by
 cases x with
 | non=>cases r; rfl
 | bl _=>cases r; rfl
 | int _=>obtain ⟨t,rfl⟩:=r; rfl
 | str _=>obtain ⟨t,rfl⟩:=r; rfl
 | byt _=>obtain ⟨t,rfl⟩:=r; rfl
 | flt _=>obtain ⟨t,rfl⟩:=r; rfl
 | ref _=>cases r; rfl
 | ty _=>cases r; rfl
theorem RelV.inj {x y:V} {u:Value} (r:RelV x u) (q:RelV y u):x=y:=Θo (r.abs.symm.trans q.abs)
theorem Vals.inj:∀{xs ys:List V} {us:List Value},Vals xs us->Vals ys us->xs=ys
 | _,_,_,.nil,.nil=>rfl
 | _,_,_,.cons r t,.cons r' t'=>by rw [r.inj r',Vals.inj t t']
section
variable {X:Cx} {pins:List (Addr × Obj)} {σ:St} {H:Hp} {s:Shared} {a:Addr} {xs ys:List V}
theorem SqL.of {K:Θf} (h:H a=some (.lst xs)):SqL K H a xs:=.inl (.inl h)
theorem SqT.of {K:Θf} (h:H a=some (.tup xs)):SqT K H a xs:=.inl (.inl h)
theorem Inv.list (I:Inv X pins σ H s) (h:SqL X.K H a xs):∃its:List Value,Vals xs its/\PlainL s.heap a its.toArray/\xs.length<=sizeLine:=by
 rcases h with h | ⟨o,its,n,hk,hc,hd,hs,hz,r⟩
 ·obtain ⟨z,its,n,r,e⟩:=h.ok I.hok
  exact ⟨its,r,⟨_,n,e,rfl,rfl,rfl⟩,z⟩
 ·refine ⟨its.toList,r,⟨o,n,I.kIn a o hk,hc,hd,by simpa using hs⟩,?_⟩
  have e:=r.length
  simp only [Array.length_toList] at e
  omega
theorem Inv.tuple (I:Inv X pins σ H s) (h:SqT X.K H a xs):∃its:List Value,Vals xs its/\IsTup s.heap a its.toArray/\xs.length<=sizeLine:=by
 rcases h with h | ⟨o,its,n,hk,hc,hs,hz,r⟩
 ·obtain ⟨z,its,r,p⟩:=h.ok I.hok
  exact ⟨its,r,p,z⟩
 ·refine ⟨its.toList,r,⟨o,I.kIn a o hk,hc,n,by simpa using hs⟩,?_⟩
  have e:=r.length
  simp only [Array.length_toList] at e
  omega
theorem Inv.list_inj (I:Inv X pins σ H s) (h:SqL X.K H a xs) (h':SqL X.K H a ys):xs=ys:=by
 obtain ⟨its,r,⟨o,n,e,_,_,d⟩,_⟩:=I.list h
 obtain ⟨its',r',⟨o',n',e',_,_,d'⟩,_⟩:=I.list h'
 rw [e] at e'; cases e'
 rw [d] at d'
 injection d' with d1 _
 have:its=its':=by simpa using congrArg Array.toList d1
 subst this
 exact r.inj r'
theorem Inv.tuple_inj (I:Inv X pins σ H s) (h:SqT X.K H a xs) (h':SqT X.K H a ys):xs=ys:=by
 obtain ⟨its,r,⟨o,e,_,n,d⟩,_⟩:=I.tuple h
 obtain ⟨its',r',⟨o',e',_,n',d'⟩,_⟩:=I.tuple h'
 rw [e] at e'; cases e'
 rw [d] at d'
 injection d' with d1 _
 have:its=its':=by simpa using congrArg Array.toList d1
 subst this
 exact r.inj r'
end
noncomputable abbrev Cx.wish (X:Cx) (E:Value->Shared->Prop):Cx:={ X with xe:=E }
noncomputable abbrev Cx.nox (X:Cx):Cx:=X.wish fun _ _=>False
theorem Cx.Ok.wish {X:Cx} (ok:X.Ok) (E:Value->Shared->Prop):(X.wish E).Ok:=
 ⟨ok.mod,ok.kind,ok.glob,ok.blt,ok.above,ok.inj,ok.has,ok.cab,ok.hd,ok.frames,ok.stk,ok.exf,ok.bs,ok.bsz,ok.noex,ok.exfs,ok.funs,ok.frf⟩
theorem Cx.Ok.unwish {X:Cx} {E:Value->Shared->Prop} (ok:(X.wish E).Ok):X.Ok:=
 ⟨ok.mod,ok.kind,ok.glob,ok.blt,ok.above,ok.inj,ok.has,ok.cab,ok.hd,ok.frames,ok.stk,ok.exf,ok.bs,ok.bsz,ok.noex,ok.exfs,ok.funs,ok.frf⟩
section
variable {X:Cx} {pins:List (Addr × Obj)} {σ:St} {H:Hp} {s:Shared} {E:Value->Shared->Prop}
theorem Inv.wish (I:Inv X pins σ H s) (E:Value->Shared->Prop):Inv (X.wish E) pins σ H s:=⟨I.ok.wish E,I.os,I.bare,I.base,I.loc,I.cell,I.free,I.freeC,I.pin,I.hok,I.len⟩
theorem Inv.unwish (I:Inv (X.wish E) pins σ H s):Inv X pins σ H s:=⟨I.ok.unwish,I.os,I.bare,I.base,I.loc,I.cell,I.free,I.freeC,I.pin,I.hok,I.len⟩
theorem SP.unwish {D:Ends} {f:Flow} {s':Shared} (h:SP (X.wish E) pins D f s'):SP X pins D f s':=by
 cases f with
 | next=>obtain ⟨σ',H',I,q⟩:=h; exact ⟨σ',H',I.unwish,q⟩
 | brk=>obtain ⟨σ',H',I,q⟩:=h; exact ⟨σ',H',I.unwish,q⟩
 | cont=>obtain ⟨σ',H',I,q⟩:=h; exact ⟨σ',H',I.unwish,q⟩
 | ret u=>obtain ⟨v,σ',H',I,r,q⟩:=h; exact ⟨v,σ',H',I.unwish,r,q⟩
theorem PSs.nox {st:List Stmt} {t:TS} (h:PSs X.nox st t):PSs X st t:=fun pins s σ H D I hw=>
 wpAny_mono (h pins s σ H D (I.wish _) hw) (fun _ _ q=>q.unwish) fun _ _ z=>False.elim z
end
section
variable {X:Cx} {st:Stmt} {rest:List Stmt} {t u:TS} {e:Expr} {te:TE} {pos:Pos}
noncomputable def Aej:TS:=fun D σ H=>D.nx σ H
noncomputable def Ae7 (t u:TS):TS:=fun D σ H=>t { D with nx:=u D } σ H
theorem E1:PSs X [] Aej:=fun _ _ σ H _ I h=>wpAny_execs_nil ⟨σ,H,I,h⟩
theorem A9 (h1:PS X st t) (h2:PSs X rest u):PSs X (st :: rest) (Ae7 t u):=by
 intro pins s σ H D I h
 refine wpAny_execs_cons (thn (h1 pins s σ H { D with nx:=u D } I h) fun f s1 q=>?_)
 cases f with
 | next=>
  obtain ⟨σ',H',I',q⟩:=q
  exact h2 pins s1 σ' H' D I' q
 | ret v=>exact q
 | brk=>exact q
 | cont=>exact q
theorem C1 (h1:PS X st t):PSs X [st] t:=by
 intro pins s σ H D I h
 refine wpAny_execs_cons (thn (h1 pins s σ H D I h) fun f s1 q=>?_)
 cases f with
 | next=>exact wpAny_execs_nil q
 | ret v=>exact q
 | brk=>exact q
 | cont=>exact q
theorem Inv.quiet {pins:List (Addr × Obj)} {σ:St} {H:Hp} {s:Shared} (I:Inv X pins σ H s):interactive X.env=false:=by simp [interactive,I.ok.kind]
noncomputable def Aa5 (te:TE):TS:=fun D σ H=>te σ H fun _ H1=>D.nx σ H1
theorem Q4 (he:PE X e te) (hs:swapsWith e none pos.line X.env=pure false:=by rfl):PS X (.Expr e pos) (Aa5 te):=by
 intro pins s σ H D I h
 exact wpAny_Expr_any (thn (he pins s σ H _ I h) fun v s1 ⟨x,H1,I1,r1,q1⟩=>⟨σ,H1,I1,q1⟩) I.quiet hs
noncomputable def Ael (te:TE):TS:=fun D σ H=>te σ H D.rt
theorem D0 (he:PE X e te):PS X (.Return (some e) pos) (Ael te):=by
 intro pins s σ H D I h
 exact wpAny_Return_some (thn (he pins s σ H _ I h) fun v s1 ⟨x,H1,I1,r1,q1⟩=>⟨x,σ,H1,I1,r1,q1⟩)
noncomputable def Ae4 (c:TT) (t u:TS):TS:=fun D σ H=>c σ H fun b H1=>if b=true then t D σ H1 else u D σ H1
theorem F8 {c:Expr} {a b:List Stmt} {tc:TT} (hc:PT X c tc) (ha:PSs X a t) (hb:PSs X b u):PS X (.If c a b pos) (Ae4 tc t u):=by
 intro pins s σ H D I h
 refine wpAny_If (thn (hc pins s σ H _ I h) fun d s1 ⟨H1,I1,q1⟩=>?_)
 cases d with
 | true=>exact ha pins s1 σ H1 D I1 q1
 | false=>exact hb pins s1 σ H1 D I1 q1
end
noncomputable abbrev TG:=V->St->Hp->(St->Hp->Prop)->Prop
noncomputable abbrev TGs:=List V->St->Hp->(St->Hp->Prop)->Prop
noncomputable def PG (X:Cx) (target:Expr) (t:TG):Prop:=
 ∀(pins:List (Addr × Obj)) (s:Shared) (σ:St) (H:Hp) (v:V) (u:Value) (Q:St->Hp->Prop),Inv X pins σ H s->RelV v u->t v σ H Q->
  wpAny (model X.prog X.w) X.A (assign target X.env u) (fun _ s'=>∃σ' H',Inv X pins σ' H' s'/\Q σ' H') X.xe s
noncomputable def PGs (X:Cx) (ts:List Expr) (t:TGs):Prop:=
 ∀(pins:List (Addr × Obj)) (s:Shared) (σ:St) (H:Hp) (vs:List V) (us:List Value) (Q:St->Hp->Prop),Inv X pins σ H s->Vals vs us->t vs σ H Q->
  wpAny (model X.prog X.w) X.A (assignInOrder ((assignEach ts X.env).map (·.2)) us) (fun _ s'=>∃σ' H',Inv X pins σ' H' s'/\Q σ' H') X.xe s
noncomputable abbrev TSet:=V->V->V->Hp->(Hp->Prop)->Prop
noncomputable def Adk (X:Cx) (t:TSet):Prop:=
 ∀(pins:List (Addr × Obj)) (s:Shared) (σ:St) (H:Hp) (o i v:V) (ov iv u:Value) (Q:Hp->Prop),Inv X pins σ H s->RelV o ov->RelV i iv->RelV v u->t o i v H Q->
  wpAny (model X.prog X.w) X.A (setItem ov iv u) (fun _ s'=>∃H',Inv X pins σ H' s'/\Q H') X.xe s
section
variable {X:Cx} {pos:Pos}
noncomputable def Tq (i:Nat):TG:=fun v σ H Q=>Q (σ.set i (some v)) H
theorem D5 {i:Nat} {x:Str} (hN:X.N.Nodup) (hi:X.N[i]? = some x) (hx:Loc X.env.scope x) (hf:X.fn x=true\/X.env.scope.names.lookup x=some .local:=by first | exact .inl rfl | exact .inr rfl | assumption):PG X (.Name x pos) (Tq i):=by
 intro pins s σ H v u Q I r h
 exact wpAny_assign_Name (Eu I hN hi hx r (fun s' I'=>⟨_,H,I',h⟩) hf)
noncomputable def Aeq:TGs:=fun vs σ H Q=>vs=[]/\Q σ H
noncomputable def Ads (t:TG) (u:TGs):TGs:=fun vs σ H Q=>∃v r,vs=v :: r/\t v σ H fun σ' H'=>u r σ' H' Q
theorem Cu:PGs X [] Aeq:=by
 intro pins s σ H vs us Q I r h
 obtain ⟨e,h⟩:=h
 subst e
 cases r
 exact assignInOrder_nil ⟨σ,H,I,h⟩
theorem M3 {e:Expr} {es:List Expr} {t:TG} {u:TGs} (h1:PG X e t) (h2:PGs X es u)
  (hs:(assignEach (e :: es) X.env).map (·.2)=assign e X.env :: (assignEach es X.env).map (·.2):=by rfl):PGs X (e :: es) (Ads t u):=by
 intro pins s σ H vs us Q I r h
 obtain ⟨v,vr,e1,h⟩:=h
 subst e1
 cases r with
 | cons r rr=>
  rw [hs]
  refine assignInOrder_cons (thn (h1 pins s σ H _ _ _ I r h) fun _ s1 ⟨σ1,H1,I1,q1⟩=>?_)
  exact h2 pins s1 σ1 H1 _ _ Q I1 rr q1
noncomputable def Adt (K:Θf) (n:Nat) (t:TGs):TG:=fun v σ H Q=>∃a xs,v = .ref a/\SqT K H a xs/\xs.length=n/\t xs σ H Q
theorem Hk {es:List Expr} {k:Nat} {t:TGs} {n:Nat} (hc:X.calm=true) (h:PGs X es t)
  (hn:(assignEach es X.env).length=n:=by rfl) (hst:(assignEach es X.env).findIdx? (·.1)=none:=by rfl):PG X (.Tuple es k pos) (Adt X.K n t):=by
 intro pins s σ H v u Q I r hw
 obtain ⟨a,xs,e1,hq,hl,hw⟩:=hw
 subst e1
 cases r
 obtain ⟨its,rv,ht,hz⟩:=I.tuple hq
 refine assign_Tuple_tuple (I.ok.hd hc) ht (by simp [hn,<-hl,rv.length]) hst fun h' hx=>?_
 have I1:Inv X pins σ H { s with heap:=h' }:=I.kept (t':=s.toks) fun b o e=>hx b o (Zs_ (Zn_ e)) e
 exact h pins _ σ H xs _ Q I1 (by simpa using rv) hw
noncomputable def Aer (to ti:TE) (t:TSet):TG:=fun v σ H Q=>to σ H fun o H1=>ti σ H1 fun i H2=>t o i v H2 fun H3=>Q σ H3
theorem Vm {o i:Expr} {to ti:TE} {t:TSet} (ho:PE X o to) (hi:PE X i ti) (hs:Adk X t)
  (ha:∀v,assign (.Subscript o i pos) X.env v=(do
   let ov <-holding [v] (eval o X.env)
   let iv <-holding [v,ov] (eval i X.env)
   standAt pos
   holding [v,ov,iv] (setItem ov iv v)
   release [v,ov,iv] []):=by intro _; rfl):PG X (.Subscript o i pos) (Aer to ti t):=by
 intro pins s σ H v u Q I r h
 rw [ha]
 refine Za_ (wpAny_holding (thn (ho pins s σ H _ I h) fun ov s1 ⟨x,H1,I1,r1,q1⟩=>?_))
 refine Za_ (wpAny_holding (thn (hi pins s1 σ H1 _ I1 q1) fun iv s2 ⟨y,H2,I2,r2,q2⟩=>?_))
 refine Za_ (wpAny_standAt (Za_ (wpAny_holding (thn (hs pins s2 σ H2 x y v ov iv u _ I2 r1 r2 r q2) fun _ s3 ⟨H3,I3,q3⟩=>?_))))
 exact wpAny_release ⟨σ,H3,I3,q3⟩
noncomputable def Ac8 (te:TE) (g:TG):TS:=fun D σ H=>te σ H fun x H1=>g x σ H1 D.nx
theorem Hm {tg e:Expr} {te:TE} {g:TG} (he:PE X e te) (hg:PG X tg g) (hs:swapsWithSole [tg] e pos.line X.env=pure false:=by rfl) (hw:swappedStores [tg] e X.env=pure none:=by rfl)
  (h1:(assignEach [tg] X.env).map (·.2)=[assign tg X.env]:=by rfl):PS X (.Assign [tg] e pos) (Ac8 te g):=by
 intro pins s σ H D I h
 refine wpAny_Assign_stores (thn (he pins s σ H _ I h) fun v s1 ⟨x,H1,I1,r1,q1⟩=>?_) hs hw
 rw [h1]
 exact thn (hg pins s1 σ H1 x v _ I1 r1 q1) fun _ s2 q=>q
theorem D1 {i:Nat} {x:Str} {e:Expr} {te:TE} {pos':Pos} (hN:X.N.Nodup) (hi:X.N[i]? = some x) (hx:Loc X.env.scope x) (he:PE X e te) (hs:swapsWith e (some (.Name x pos')) pos.line X.env=pure false:=by rfl) (hf:X.fn x=true\/X.env.scope.names.lookup x=some .local:=by first | exact .inl rfl | exact .inr rfl | assumption) :
  PS X (.Assign [.Name x pos'] e pos) (Ac8 te (Tq i)):=by
 intro pins s σ H D I h
 refine wpAny_Assign_Name (thn (he pins s σ H _ I h) fun v s1 ⟨y,H1,I1,r1,q1⟩=>?_) hs
 exact Eu I1 hN hi hx r1 (fun s2 I2=>⟨_,H1,I2,q1⟩) hf
end
section
variable {X:Cx} {pos:Pos}
noncomputable def Adf (c:TT) (tb:TS):TS:=fun D σ H=>∃W:Nat->St->Hp->Prop,(∃m,W m σ H)/\∀m σ H,W m σ H->
 c σ H fun b H1=>if b=true then ∃N:St->Hp->Prop,(∀σ' H',N σ' H'->∃m',m' < m/\W m' σ' H')/\tb { D with nx:=N,ct:=N,bk:=D.nx } σ H1 else D.nx σ H1
theorem Em {c:Expr} {body:List Stmt} {tc:TT} {tb:TS} (hp:PassesOwn (model X.prog X.w) X.A X.env X.xe) (hc:PT X c tc) (hb:PSs X body tb):PS X (.While c body [] pos) (Adf tc tb):=by
 intro pins s σ H D I h
 obtain ⟨W,⟨m0,w0⟩,turn⟩:=h
 refine wpAny_While (codeAny_whileLoop (fun n s'=>∃σ' H',Inv X pins σ' H' s'/\W n σ' H') ?_ m0 ⟨σ,H,I,w0⟩)
 rintro n s1 ⟨σ1,H1,I1,w1⟩
 refine wpAny_passesOwn hp (thn (hc pins s1 σ1 H1 _ I1 (turn n σ1 H1 w1)) fun b s2 ⟨H2,I2,q2⟩=>?_)
 cases b with
 | true=>
  obtain ⟨N,hN,q2⟩:=q2
  rw [if_pos rfl]
  refine wpAny_passesOwn hp (thn (hb pins s2 σ1 H2 _ I2 q2) fun f s3 q3=>?_)
  cases f with
  | next=>
   obtain ⟨σ3,H3,I3,n3⟩:=q3
   obtain ⟨m',hm,w3⟩:=hN σ3 H3 n3
   exact ⟨m',hm,σ3,H3,I3,w3⟩
  | cont=>
   obtain ⟨σ3,H3,I3,n3⟩:=q3
   obtain ⟨m',hm,w3⟩:=hN σ3 H3 n3
   exact ⟨m',hm,σ3,H3,I3,w3⟩
  | brk=>exact q3
  | ret v=>exact q3
 | false=>
  rw [if_neg Zf_]
  exact wpAny_execs_nil ⟨σ1,H2,I2,q2⟩
end
structure It where
 go:Nat->Hp->Prop
 yld:Nat->Hp->V->Hp->Prop
 stop:Nat->Hp->Prop
noncomputable def FpOk (X:Cx) (pins:List (Addr × Obj)) (H:Hp) (b:Addr):Prop:=
 H b=none/\b≠X.env.locals/\b∉X.fs/\(b∈X.ex\/X.s₀.heap.objs.size<=b)/\(∀x c,X.env.cells.lookup x=some c->c≠b)/\∀p∈X.pn++pins,p.1≠b
theorem Inv.fpOk {X:Cx} {pins:List (Addr × Obj)} {σ:St} {H H':Hp} {s:Shared} {b:Addr} (I:Inv X pins σ H s) (hb:s.heap.objs.size<=b) (hn:H' b=none):FpOk X pins H' b:=by
 refine ⟨hn,Nat.ne_of_gt (Zq_ I.lt hb),I.nofs hb,.inr (Zo_ I.sz hb),fun x c e z=>?_,fun p hp z=>?_⟩
 ·obtain ⟨v,q⟩:=I.cell x c e
  exact absurd (Zq_ q.lt (by rw [z]; exact hb)) (Nat.lt_irrefl _)
 ·exact absurd (Zq_ (Zn_ (I.pin p hp).1) (by rw [z]; exact hb)) (Nat.lt_irrefl _)
structure Turn (P:Program) (w:World) (K:Θf) (tg:Expr) (J:It) (fp:List Addr) (it:Addr) (tn:Nat->Heap->Prop):Prop where
 mem:it∈fp
 obj:∀i h,tn i h->∀b∈fp,∃o,h.get? b=some o/\∀v,o.data≠.cell v
 keep:∀i h h',tn i h->(∀b∈fp,∀o,h.get? b=some o->h'.get? b=some o)->tn i h'
 item:∀(X:Cx),X.prog=P->X.w=w->X.K=K->X.calm=true->∀(i:Nat) (pins:List (Addr × Obj)) (s:Shared) (σ:St) (H:Hp) (E:Value->Shared->Prop),Inv X pins σ H s->(∀b∈fp,FpOk X pins H b)->tn i s.heap->J.go i H->
  wpAny (model P w) X.A (pyNext (.ref it)) (fun r s1=>∃u,r=some u/\
   wpAny (model P w) X.A (letOwnedTupleGo tg (.ref it) u) (fun _ s2=>∃x H',Inv X pins σ H' s2/\RelV x u/\J.yld i H x H'/\tn (i + 1) s2.heap/\∀b∈fp,H' b=none) E s1) E s
 done:∀(X:Cx),X.prog=P->X.w=w->X.K=K->X.calm=true->∀(i:Nat) (pins:List (Addr × Obj)) (s:Shared) (σ:St) (H:Hp) (E:Value->Shared->Prop),Inv X pins σ H s->(∀b∈fp,FpOk X pins H b)->tn i s.heap->J.stop i H->
  wpAny (model P w) X.A (pyNext (.ref it)) (fun r s1=>r=none/\Inv X pins σ H s1) E s
 self:∀(A:Around) (i:Nat) (s:Shared) (Q:Value->Shared->Prop) (E:Value->Shared->Prop),tn i s.heap->Q (.ref it) s->wpAny (model P w) A (pyIter (.ref it)) Q E s
noncomputable abbrev TI:=St->Hp->(It->Hp->Prop)->Prop
noncomputable def PIE (X:Cx) (pins:List (Addr × Obj)) (σ:St) (tg:Expr) (R:It->Hp->Prop) (itv:Value) (s2:Shared):Prop:=
 ∃(it:Addr) (fp:List Addr) (tn:Nat->Heap->Prop) (J:It) (H':Hp),itv = .ref it/\Inv X pins σ H' s2/\Turn X.prog X.w X.K tg J fp it tn/\tn 0 s2.heap/\(∀b∈fp,FpOk X pins H' b)/\R J H'
noncomputable def PI (X:Cx) (tg iter:Expr) (wi:TI):Prop:=
 ∀(pins:List (Addr × Obj)) (s:Shared) (σ:St) (H:Hp) (R:It->Hp->Prop),Inv X pins σ H s->wi σ H R->
  wpAny (model X.prog X.w) X.A (eval iter X.env) (fun v s1=>wpAny (model X.prog X.w) X.A (pyIter v) (PIE X pins σ tg R) X.xe s1) X.xe s
theorem Nv {M:Model} {A:Around} {E:Value->Shared->Prop} {s:Shared} {tg:Expr} {it:Addr} {u:Value} {o:Obj} {n:String} {vs:Array Value} {Q:Unit->Shared->Prop} (ho:s.heap.get? it=some o) (hc:o.cls = .type n) (hd:o.data = .fields vs)
  (hn:["enumerate","zip","dict_itemiterator","dict_reverseitemiterator","odict_iterator","itertools.zip_longest","itertools.pairwise"].contains n=false) (hQ:Q () s):wpAny M A (letOwnedTupleGo tg (.ref it) u) Q E s:=by
 unfold letOwnedTupleGo
 cases tg <;> first
  | exact Zb_ hQ
  | (cases u <;> first
    | exact Zb_ hQ
    | (refine Za_ (wpAny_load ho ?_)
       rw [hc,hd]
       show wpAny M A (if (["enumerate","zip","dict_itemiterator","dict_reverseitemiterator","odict_iterator","itertools.zip_longest","itertools.pairwise"].contains n && vs[0]? == some (rawInt _))=true then _ else _) Q E s
       rw [if_neg (by intro h; rw [hn,Bool.false_and] at h; cases h)]
       exact Zb_ hQ))
noncomputable def Itl (K:Θf) (a:Addr):It:=
 ⟨fun i H=>∃xs x,SqL K H a xs/\xs[i]? = some x,fun i H x H'=>H' = H/\∀xs,SqL K H a xs->xs[i]? = some x,fun i H=>∃xs,SqL K H a xs/\xs.length<=i⟩
noncomputable def Itt (K:Θf) (a:Addr):It:=
 ⟨fun i H=>∃xs x,SqT K H a xs/\xs[i]? = some x,fun i H x H'=>H' = H/\∀xs,SqT K H a xs->xs[i]? = some x,fun i H=>∃xs,SqT K H a xs/\xs.length<=i⟩
noncomputable def Itr (lo:Int) (n:Nat):It:=⟨fun i _=>i < n,fun i H x H'=>H' = H/\x = .int (lo + i),fun i _=>n<=i⟩
theorem Sq {P:Program} {w:World} {K:Θf} {tg:Expr} (a it:Addr):Turn P w K tg (Itl K a) [it] it (fun i h=>h.IsListIter it a i) where
 mem:=by simp
 obj:=fun i h st b hb=>by
  have e:b=it:=by simpa using hb
  subst e
  obtain ⟨o,e,c,d⟩:=st
  exact ⟨o,e,fun v z=>by rw [d] at z; cases z⟩
 keep:=fun i h h' st k=>st.at fun o e=>k it (by simp) o e
 item:=by
  intro X hP hw hK hc i pins s σ H E I hf st hg
  subst hP hw hK
  obtain ⟨xs,x,hq,hx⟩:=hg
  obtain ⟨its,rv,p,hz⟩:=I.list hq
  obtain ⟨u,hu,ru⟩:=rv.get hx
  obtain ⟨f0,f1,f2,f3,f4,f5⟩:=hf it (by simp)
  refine wpAny_pyNext_list_item st p.isList (x:=u) (by simpa using hu) fun h' st' sb=>?_
  have I1:Inv X pins σ H { s with heap:=h' }:=I.turned (t':=s.toks) (fun b o hb e=>(sb.2 b hb).trans e) f0 f1 f3 f4 f5
  obtain ⟨o,e,c,d⟩:=id st'
  exact ⟨u,rfl,Nv (s:={ s with heap:=h' }) e c d (by decide) ⟨x,H,I1,ru,⟨rfl,fun ys hy=>by rw [I.list_inj hy hq]; exact hx⟩,st',fun b hb=>(hf b hb).1⟩⟩
 done:=by
  intro X hP hw hK hc i pins s σ H E I hf st hg
  subst hP hw hK
  obtain ⟨xs,hq,hx⟩:=hg
  obtain ⟨its,rv,p,hz⟩:=I.list hq
  obtain ⟨f0,f1,f2,f3,f4,f5⟩:=hf it (by simp)
  have hl:=rv.length
  exact wpAny_pyNext_list_end (I.ok.hd hc) st p.isList (by simp; omega) fun h' eb=>⟨rfl,I.turned (t':=s.toks) (fun b o hb e=>eb b o hb e) f0 f1 f3 f4 f5⟩
 self:=fun _ _ _ _ _ st h=>wpAny_pyIter_listiter st h
theorem My {P:Program} {w:World} {K:Θf} {tg:Expr} (a it:Addr):Turn P w K tg (Itt K a) [it] it (fun i h=>h.IsTupleIter it a i) where
 mem:=by simp
 obj:=fun i h st b hb=>by
  have e:b=it:=by simpa using hb
  subst e
  obtain ⟨o,e,c,d⟩:=st
  exact ⟨o,e,fun v z=>by rw [d] at z; cases z⟩
 keep:=fun i h h' st k=>st.at fun o e=>k it (by simp) o e
 item:=by
  intro X hP hw hK hc i pins s σ H E I hf st hg
  subst hP hw hK
  obtain ⟨xs,x,hq,hx⟩:=hg
  obtain ⟨its,rv,p,hz⟩:=I.tuple hq
  obtain ⟨u,hu,ru⟩:=rv.get hx
  obtain ⟨f0,f1,f2,f3,f4,f5⟩:=hf it (by simp)
  refine wpAny_pyNext_tuple_item st (show s.heap.IsTuple a its.toArray from p) (x:=u) (by simpa using hu) fun h' st' sb=>?_
  have I1:Inv X pins σ H { s with heap:=h' }:=I.turned (t':=s.toks) (fun b o hb e=>(sb.2 b hb).trans e) f0 f1 f3 f4 f5
  obtain ⟨o,e,c,d⟩:=id st'
  exact ⟨u,rfl,Nv (s:={ s with heap:=h' }) e c d (by decide) ⟨x,H,I1,ru,⟨rfl,fun ys hy=>by rw [I.tuple_inj hy hq]; exact hx⟩,st',fun b hb=>(hf b hb).1⟩⟩
 done:=by
  intro X hP hw hK hc i pins s σ H E I hf st hg
  subst hP hw hK
  obtain ⟨xs,hq,hx⟩:=hg
  obtain ⟨its,rv,p,hz⟩:=I.tuple hq
  obtain ⟨f0,f1,f2,f3,f4,f5⟩:=hf it (by simp)
  have hl:=rv.length
  exact wpAny_pyNext_tuple_end (I.ok.hd hc) st (show s.heap.IsTuple a its.toArray from p) (by simp; omega) fun h' eb=>⟨rfl,I.turned (t':=s.toks) (fun b o hb e=>eb b o hb e) f0 f1 f3 f4 f5⟩
 self:=fun _ _ _ _ _ st h=>wpAny_pyIter_tupleiter st h
theorem Mx {P:Program} {w:World} {K:Θf} {tg:Expr} (it:Addr) (lo:Int) (n:Nat):Turn P w K tg (Itr lo n) [it] it (fun i h=>IsRangeIter h it (lo + (i:Nat) * 1) ((n:Int) - (i:Nat)) 1) where
 mem:=by simp
 obj:=fun i h st b hb=>by
  have e:b=it:=by simpa using hb
  subst e
  exact ⟨_,st,fun v z=>by
   have z':Data.fields _=Data.cell v:=z
   cases z'⟩
 keep:=fun i h h' st k=>k it (by simp) _ st
 item:=by
  intro X hP hw hK hc i pins s σ H E I hf st hg
  subst hP hw hK
  obtain ⟨f0,f1,f2,f3,f4,f5⟩:=hf it (by simp)
  have W:=Walks.range (prog:=X.prog) (w:=X.w) (I.ok.hd hc) it lo 1 n
  refine W.item i s _ _ hg st fun v h' tk hv st' kk=>?_
  obtain ⟨t,rfl⟩:=hv
  have I1:Inv X pins σ H { s with heap:=h',toks:=tk }:=I.turned (fun b o hb e=>kk b o (by simpa using hb) e) f0 f1 f3 f4 f5
  refine ⟨_,rfl,Nv (s:={ s with heap:=h',toks:=tk }) (n:="range_iterator") st' rfl rfl (by decide) ⟨.int (lo + i),H,I1,⟨t,?_⟩,⟨rfl,rfl⟩,st',fun b hb=>(hf b hb).1⟩⟩
  rw [Int.mul_one]
 done:=by
  intro X hP hw hK hc i pins s σ H E I hf st hg
  subst hP hw hK
  obtain ⟨f0,f1,f2,f3,f4,f5⟩:=hf it (by simp)
  exact wpAny_pyNext_range_end (I.ok.hd hc) st (by have:n<=i:=hg; omega) fun h' eb=>⟨rfl,I.turned (t':=s.toks) (fun b o hb e=>eb b o hb e) f0 f1 f3 f4 f5⟩
 self:=fun _ _ _ _ _ st h=>wpAny_pyIter_rangeiter st h
section
variable {X:Cx} {tg:Expr}
noncomputable def Aax (K:Θf) (tl:TE):TI:=fun σ H R=>tl σ H fun x H1=>∃a,x = .ref a/\(∃xs,SqL K H1 a xs)/\R (Itl K a) H1
noncomputable def Adx (K:Θf) (tl:TE):TI:=fun σ H R=>tl σ H fun x H1=>∃a,x = .ref a/\(∃xs,SqT K H1 a xs)/\R (Itt K a) H1
theorem Zk {l:Expr} {tl:TE} (hl:PE X l tl):PI X tg l (Aax X.K tl):=by
 intro pins s σ H R I h
 refine thn (hl pins s σ H _ I h) fun v s1 ⟨x,H1,I1,r1,q1⟩=>?_
 obtain ⟨a,e,⟨xs,hq⟩,q⟩:=q1
 subst e
 cases r1
 obtain ⟨its,rv,p,hz⟩:=I1.list hq
 refine wpAny_pyIter_list p.isList ?_
 refine ⟨s1.heap.objs.size,[s1.heap.objs.size],_,_,H1,rfl,I1.kept (t':=s1.toks) fun b o e=>Zc_ _ e,Sq a _,⟨_,Zm_ _ rfl,rfl,rfl⟩,fun b hb=>?_,q⟩
 have e:b=s1.heap.objs.size:=by simpa using hb
 subst e
 exact I1.fpOk (Zd_ _) (I1.hok.fresh (Zd_ _))
theorem Aco {l:Expr} {tl:TE} (hl:PE X l tl):PI X tg l (Adx X.K tl):=by
 intro pins s σ H R I h
 refine thn (hl pins s σ H _ I h) fun v s1 ⟨x,H1,I1,r1,q1⟩=>?_
 obtain ⟨a,e,⟨xs,hq⟩,q⟩:=q1
 subst e
 cases r1
 obtain ⟨its,rv,p,hz⟩:=I1.tuple hq
 refine wpAny_pyIter_tuple (show s1.heap.IsTuple a its.toArray from p) ?_
 refine ⟨s1.heap.objs.size,[s1.heap.objs.size],_,_,H1,rfl,I1.kept (t':=s1.toks) fun b o e=>Zc_ _ e,My a _,⟨_,Zm_ _ rfl,rfl,rfl⟩,fun b hb=>?_,q⟩
 have e:b=s1.heap.objs.size:=by simpa using hb
 subst e
 exact I1.fpOk (Zd_ _) (I1.hok.fresh (Zd_ _))
theorem Vy {pins:List (Addr × Obj)} {σ:St} {H:Hp} {s:Shared} {R:It->Hp->Prop} {E:Value->Shared->Prop} {lo hi:Int} {t u v:Tok} {tk:Nat} (I:Inv X pins σ H s) (h1:-(2 ^ 62)<=lo) (h2:lo < 2 ^ 62) (h3:-(2 ^ 62)<=hi) (h4:hi < 2 ^ 62)
  (q:R (Itr lo (hi - lo).toNat) H):wpAny (model X.prog X.w) X.A (pyIter (.ref s.heap.objs.size)) (PIE X pins σ tg R) E { s with heap:=s.heap.push { cls:=.type "range",data:=.fields #[.int lo t,.int hi u,.int 1 v] },toks:=tk }:=by
 refine wpAny_pyIter_range (IsRange.new ..) (small_one h1 h2 h3 h4) ?_
 have I1:Inv X pins σ H { s with heap:=s.heap.push { cls:=.type "range",data:=.fields #[.int lo t,.int hi u,.int 1 v] },toks:=tk }:=I.kept fun b o e=>Zc_ _ e
 refine ⟨(s.heap.push { cls:=.type "range",data:=.fields #[.int lo t,.int hi u,.int 1 v] }).objs.size,[(s.heap.push { cls:=.type "range",data:=.fields #[.int lo t,.int hi u,.int 1 v] }).objs.size],_,_,H,rfl,
  I1.kept (t':=tk) fun b o e=>Zc_ _ e,Mx _ lo (hi - lo).toNat,?_,fun b hb=>?_,q⟩
 ·have e1:lo + ((0:Nat):Int) * 1=lo:=by simp
  have e2:(((hi - lo).toNat:Nat):Int) - ((0:Nat):Int)=Builtin.Range.rangeSize lo hi 1:=by rw [rangeSize_one]; split <;> omega
  show IsRangeIter _ _ (lo + ((0:Nat):Int) * 1) ((((hi - lo).toNat:Nat):Int) - ((0:Nat):Int)) 1
  rw [e1,e2]
  exact Zm_ _ rfl
 ·have e:b=(s.heap.push { cls:=.type "range",data:=.fields #[.int lo t,.int hi u,.int 1 v] }).objs.size:=by simpa using hb
  subst e
  exact I1.fpOk (Zd_ _) (I1.hok.fresh (Zd_ _))
noncomputable def Adw (ta:TA):TI:=fun σ H R=>ta σ H fun vs H1=>∃j:Int,vs=[.int j]/\-(2 ^ 62)<=j/\j < 2 ^ 62/\R (Itr 0 j.toNat) H1
theorem G9 {a:Expr} {ta:TA} {p pos:Pos} (hg:Gl X "range") (hm:X.mg "range" = none) (ha:PA X [a] ta) (hs:starEach [a] X.env=[(false,eval a X.env)]:=by rfl):PI X tg (.Call (.Name "range" p) [a] [] pos) (Adw ta):=by
 intro pins s σ H R I h
 refine Call_ (Eb I hg hm boot_range (PyProof.Rows.callWith_type1 (thn (ha pos pins s σ H _ I h) fun us s1 ⟨vs,H1,I1,r1,q1⟩=>?_) hs rfl))
 obtain ⟨j,e,q1,q2,q⟩:=q1
 subst e
 cases r1 with
 | cons r rr=>
  cases rr
  obtain ⟨t,rfl⟩:=r
  exact call_range_1 (Vy I1 (by omega) (by omega) q1 q2 (by simpa using q))
noncomputable def Ae3 (wi:TI) (g:TG) (tb:TS):TS:=fun D σ H=>wi σ H fun J H1=>∃W:Nat->Nat->St->Hp->Prop,(∃m,W 0 m σ H1)/\∀i m σ H,W i m σ H->
 (J.stop i H/\D.nx σ H)\/(J.go i H/\∃N:St->Hp->Prop,(∀σ' H',N σ' H'->∃m',m' < m/\W (i + 1) m' σ' H')/\∀x H',J.yld i H x H'->g x σ H' fun σ2 H2=>tb { D with nx:=N,ct:=N,bk:=D.nx } σ2 H2)
noncomputable def Ek (fp:List Addr) (h:Heap):List (Addr × Obj):=fp.filterMap fun b=>(h.get? b).map fun o=>(b,o)
theorem X0 {fp:List Addr} {h:Heap} {b:Addr} {o:Obj} (hb:b∈fp) (e:h.get? b=some o):(b,o)∈Ek fp h:=List.mem_filterMap.mpr ⟨b,hb,by rw [e]; rfl⟩
theorem Ra {fp:List Addr} {h:Heap} {p:Addr × Obj} (hp:p∈Ek fp h):p.1∈fp/\h.get? p.1=some p.2:=by
 obtain ⟨b,hb,e⟩:=List.mem_filterMap.mp hp
 cases q:h.get? b with
 | none=>rw [q] at e; cases e
 | some o=>
  rw [q] at e
  have e':(b,o)=p:=Θo e
  subst e'
  exact ⟨hb,q⟩
theorem Inv.pinned {pins:List (Addr × Obj)} {σ:St} {H:Hp} {s:Shared} {fp:List Addr} (I:Inv X pins σ H s) (hf:∀b∈fp,FpOk X pins H b) (ho:∀b∈fp,∃o,s.heap.get? b=some o/\∀v,o.data≠.cell v):Inv X (pins++Ek fp s.heap) σ H s:=
 I.pins_of fun p hp=>(Θa hp).elim (fun z=>I.pin p (Zh_ _ z)) fun z=>by
  obtain ⟨hb,e⟩:=Ra z
  obtain ⟨f0,f1,f2,_⟩:=hf p.1 hb
  obtain ⟨o,e',d⟩:=ho p.1 hb
  rw [e] at e'; cases e'
  exact ⟨e,f0,f1,f2,d⟩
theorem Inv.unpinned {pins pl:List (Addr × Obj)} {σ:St} {H:Hp} {s:Shared} (I:Inv X (pins++pl) σ H s):Inv X pins σ H s:=I.pins_of fun p hp=>I.pin p (Zh_ _ (Zt_ _ hp))
theorem I8 {iter:Expr} {body:List Stmt} {wi:TI} {g:TG} {tb:TS} {pos:Pos} (hp:PassesOwn (model X.prog X.w) X.A X.env X.xe) (hc:X.calm=true) (hi:PI X tg iter wi) (hg:PG X tg g) (hb:PSs X body tb)
  (hs:∀x,foldedSetIterable iter X.env x=pure x:=by intro _; rfl):PS X (.For tg iter body [] pos) (Ae3 wi g tb):=by
 intro pins s σ H D I h
 refine wpAny_For (thn (hi pins s σ H _ I h) fun v s1 h1=>thn h1 fun itv s2 h2=>?_) hs
 obtain ⟨it,fp,tn,J,H2,e,I2,T,st2,f2,W,⟨m0,w0⟩,turn⟩:=h2
 subst e
 have stat:∀{H':Hp},(∀b∈fp,H' b=none)->∀b∈fp,FpOk X pins H' b:=fun hn b hb=>⟨hn b hb,(f2 b hb).2⟩
 refine codeAny_forLoop_any (fun n s'=>∃i σ' H',Inv X pins σ' H' s'/\tn i s'.heap/\(∀b∈fp,H' b=none)/\W i n σ' H') ?_ m0 ⟨0,σ,H2,I2,st2,fun b hb=>(f2 b hb).1,w0⟩
 rintro n s3 ⟨i,σ3,H3,I3,st3,fr3,w3⟩
 rcases turn i n σ3 H3 w3 with ⟨stop,qn⟩ | ⟨go,N,hN,step⟩
 ·refine wpAny_passesOwn hp (thn (T.done X rfl rfl rfl hc i pins s3 σ3 H3 X.xe I3 (stat fr3) st3 stop) fun r s4 ⟨hr,I4⟩=>?_)
  subst hr
  exact wpAny_execs_nil ⟨σ3,H3,I4,qn⟩
 ·refine wpAny_passesOwn hp (thn (T.item X rfl rfl rfl hc i pins s3 σ3 H3 X.xe I3 (stat fr3) st3 go) fun r s4 ⟨u,hr,h4⟩=>?_)
  subst hr
  refine wpAny_passesOwn hp (thn h4 fun _ s5 ⟨x,H5,I5,r5,y5,st5,fr5⟩=>?_)
  have I5':=I5.pinned (stat fr5) (T.obj _ _ st5)
  refine wpAny_passesOwn hp (thn (hg _ s5 σ3 H5 x u _ I5' r5 (step x H5 y5)) fun _ s6 ⟨σ6,H6,I6,q6⟩=>?_)
  refine wpAny_passesOwn hp (thn (hb _ s6 σ6 H6 _ I6 q6) fun f s7 q7=>?_)
  have again:∀{σ7:St} {H7:Hp},Inv X (pins++Ek fp s5.heap) σ7 H7 s7->N σ7 H7->∃m,m < n/\∃i σ' H',Inv X pins σ' H' s7/\tn i s7.heap/\(∀b∈fp,H' b=none)/\W i m σ' H':=fun {σ7 H7} I7 n7=>by
   obtain ⟨m',hm,w7⟩:=hN σ7 H7 n7
   refine ⟨m',hm,i + 1,σ7,H7,I7.unpinned,T.keep _ _ _ st5 fun b hb o e=>(I7.pin (b,o) (Zh_ _ (Zh_ _ (X0 hb e)))).1,fun b hb=>?_,w7⟩
   obtain ⟨o,e,d⟩:=T.obj _ _ st5 b hb
   exact (I7.pin (b,o) (Zh_ _ (Zh_ _ (X0 hb e)))).2.1
  cases f with
  | next=>obtain ⟨σ7,H7,I7,n7⟩:=q7; exact again I7 n7
  | cont=>obtain ⟨σ7,H7,I7,n7⟩:=q7; exact again I7 n7
  | brk=>obtain ⟨σ7,H7,I7,q7⟩:=q7; exact ⟨σ7,H7,I7.unpinned,q7⟩
  | ret v=>obtain ⟨x7,σ7,H7,I7,r7,q7⟩:=q7; exact ⟨x7,σ7,H7,I7.unpinned,r7,q7⟩
end
theorem I9 {K:Θf} {a:Addr} {xs:List V} {g:TG} {tb:TS} {D:Ends} {σ:St} {H:Hp} (Pv:Nat->St->Hp->Prop) (h0:Pv 0 σ H) (hl:∀i σ H,i<=xs.length->Pv i σ H->SqL K H a xs)
  (hs:∀i x σ H,xs[i]? = some x->Pv i σ H->g x σ H fun σ2 H2=>tb { D with nx:=Pv (i + 1),ct:=Pv (i + 1),bk:=D.nx } σ2 H2) (hd:∀σ H,Pv xs.length σ H->D.nx σ H) :
  ∃W:Nat->Nat->St->Hp->Prop,(∃m,W 0 m σ H)/\∀i m σ H,W i m σ H->
   ((Itl K a).stop i H/\D.nx σ H)\/((Itl K a).go i H/\∃N:St->Hp->Prop,(∀σ' H',N σ' H'->∃m',m' < m/\W (i + 1) m' σ' H')/\∀x H',(Itl K a).yld i H x H'->g x σ H' fun σ2 H2=>tb { D with nx:=N,ct:=N,bk:=D.nx } σ2 H2):=by
 refine ⟨fun i m σ H=>m=xs.length - i/\i<=xs.length/\Pv i σ H,⟨xs.length,by simp,Nat.zero_le _,h0⟩,?_⟩
 rintro i m σ H ⟨rfl,hi,p⟩
 have q:=hl i σ H hi p
 by_cases hlt:i < xs.length
 ·refine .inr ⟨⟨xs,xs[i],q,by simp [hlt]⟩,Pv (i + 1),fun σ' H' p'=>⟨xs.length - (i + 1),by omega,rfl,hlt,p'⟩,fun x H' y=>?_⟩
  obtain ⟨e,y⟩:=y
  subst e
  exact hs i x σ _ (y xs q) p
 ·have e:i=xs.length:=by omega
  subst e
  exact .inl ⟨⟨xs,q,Zd_ _⟩,hd σ H p⟩
theorem Qc {lo:Int} {n:Nat} {g:TG} {tb:TS} {D:Ends} {σ:St} {H:Hp} (Pv:Nat->St->Hp->Prop) (h0:Pv 0 σ H)
  (hs:∀i σ H,i < n->Pv i σ H->g (.int (lo + i)) σ H fun σ2 H2=>tb { D with nx:=Pv (i + 1),ct:=Pv (i + 1),bk:=D.nx } σ2 H2) (hd:∀σ H,Pv n σ H->D.nx σ H) :
  ∃W:Nat->Nat->St->Hp->Prop,(∃m,W 0 m σ H)/\∀i m σ H,W i m σ H->
   ((Itr lo n).stop i H/\D.nx σ H)\/((Itr lo n).go i H/\∃N:St->Hp->Prop,(∀σ' H',N σ' H'->∃m',m' < m/\W (i + 1) m' σ' H')/\∀x H',(Itr lo n).yld i H x H'->g x σ H' fun σ2 H2=>tb { D with nx:=N,ct:=N,bk:=D.nx } σ2 H2):=by
 refine ⟨fun i m σ H=>m=n - i/\i<=n/\Pv i σ H,⟨n,by simp,Nat.zero_le _,h0⟩,?_⟩
 rintro i m σ H ⟨rfl,hi,p⟩
 by_cases hlt:i < n
 ·refine .inr ⟨hlt,Pv (i + 1),fun σ' H' p'=>⟨n - (i + 1),by omega,rfl,hlt,p'⟩,fun x H' y=>?_⟩
  obtain ⟨e,y⟩:=y
  subst e y
  exact hs i σ _ hlt p
 ·have e:i=n:=by omega
  subst e
  exact .inl ⟨Zd_ _,hd σ H p⟩
noncomputable abbrev R2:=V->V->Hp->VK->Prop
noncomputable def OpR (X:Cx) (f:Value->Value->Sem Value) (r:R2):Prop:=
 ∀(pins:List (Addr × Obj)) (s:Shared) (σ:St) (H:Hp) (x y:V) (v u:Value) (Q:VK),Inv X pins σ H s->RelV x v->RelV y u->r x y H Q->
  wpAny (model X.prog X.w) X.A (f v u) (EP X pins σ Q) X.xe s
noncomputable def UnR (X:Cx) (f:Value->Sem Value) (r:V->Hp->VK->Prop):Prop:=
 ∀(pins:List (Addr × Obj)) (s:Shared) (σ:St) (H:Hp) (x:V) (v:Value) (Q:VK),Inv X pins σ H s->RelV x v->r x H Q->
  wpAny (model X.prog X.w) X.A (f v) (EP X pins σ Q) X.xe s
noncomputable def P3 (X:Cx) (f:Value) (r:List V->Hp->VK->Prop):Prop:=
 ∀(pins:List (Addr × Obj)) (s:Shared) (σ:St) (H:Hp) (xs:List V) (us:List Value) (Q:VK),Inv X pins σ H s->Vals xs us->r xs H Q->
  wpAny (model X.prog X.w) X.A (call f us) (EP X pins σ Q) X.xe s
noncomputable def tOp (r:R2) (ta tb:TE):TE:=fun σ H Q=>ta σ H fun x H1=>tb σ H1 fun y H2=>r x y H2 Q
noncomputable def tUn (r:V->Hp->VK->Prop) (ta:TE):TE:=fun σ H Q=>ta σ H fun x H1=>r x H1 Q
noncomputable def rI (C:Int->Int->Prop) (g:Int->Int->V):R2:=fun x y H Q=>∃i j,x = .int i/\y = .int j/\C i j/\Q (g i j) H
noncomputable def rI0 (g:Int->Int->V):R2:=fun x y H Q=>∃i j,x = .int i/\y = .int j/\Q (g i j) H
noncomputable def rU (g:Int->V):V->Hp->VK->Prop:=fun x H Q=>∃i,x = .int i/\Q (g i) H
section
variable {X:Cx} {a b c:Expr} {ta tb tc:TE} {pos:Pos}
theorem Abe (ha:PE X a ta) (hb:PE X b tb) {pins:List (Addr × Obj)} {s:Shared} {σ:St} {H:Hp} {R:V->V->Hp->Prop} (I:Inv X pins σ H s)
  (h:ta σ H fun x H1=>tb σ H1 fun y H2=>R x y H2) {Q:Value->Shared->Prop} {f:Value->Value->Sem Value}
  (hf:∀v u s2 x y H2,Inv X pins σ H2 s2->RelV x v->RelV y u->R x y H2->wpAny (model X.prog X.w) X.A (f v u) Q X.xe s2) :
  wpAny (model X.prog X.w) X.A (eval a X.env) (fun v s₁=>wpAny (model X.prog X.w) X.A (eval b X.env) (fun u s₂=>wpAny (model X.prog X.w) X.A (f v u) Q X.xe s₂) X.xe s₁) X.xe s:=by
 refine thn (ha pins s σ H _ I h) fun v s1 ⟨x,H1,I1,r1,q1⟩=>?_
 refine thn (hb pins s1 σ H1 _ I1 q1) fun u s2 ⟨y,H2,I2,r2,q2⟩=>?_
 exact hf v u s2 x y H2 I2 r1 r2 q2
theorem D6 {op:Operator} {r:R2} (ho:OpR X (binaryOp op) r) (ha:PE X a ta) (hb:PE X b tb):PE X (.BinOp a op b pos) (tOp r ta tb):=by
 intro pins s σ H Q I h
 exact wpAny_BinOp (Abe ha hb I h fun v u s2 x y H2 I2 rx ry q=>ho pins s2 σ H2 x y v u Q I2 rx ry q)
theorem Kc {op:UnaryOp} {r:V->Hp->VK->Prop} (ho:UnR X (unaryOp op) r) (ha:PE X a ta):PE X (.UnaryOp op a pos) (tUn r ta):=by
 intro pins s σ H Q I h
 exact UnaryOp_ (thn (ha pins s σ H _ I h) fun v s1 ⟨x,H1,I1,r1,q1⟩=>ho pins s1 σ H1 x v Q I1 r1 q1)
theorem opI {f:Value->Value->Sem Value} {C:Int->Int->Prop} {g:Int->Int->Int}
  (rule:∀(i j:Int) (t u:Tok) (s:Shared) (Q:Value->Shared->Prop) (E:Value->Shared->Prop),C i j->Q (.int (g i j) s.toks) { s with toks:=s.toks + 1 }->wpAny (model X.prog X.w) X.A (f (.int i t) (.int j u)) Q E s) :
  OpR X f (rI C fun i j=>.int (g i j)):=by
 intro pins s σ H x y v u Q I rx ry h
 obtain ⟨i,j,rfl,rfl,hc,q⟩:=h
 obtain ⟨t,rfl⟩:=rx
 obtain ⟨t',rfl⟩:=ry
 exact rule i j t t' s _ _ hc ⟨.int (g i j),H,I.tok _,⟨_,rfl⟩,q⟩
theorem Zb {f:Value->Value->Sem Value} {g:Int->Int->Int}
  (rule:∀(i j:Int) (t u:Tok) (s:Shared) (Q:Value->Shared->Prop) (E:Value->Shared->Prop),Q (.int (g i j) s.toks) { s with toks:=s.toks + 1 }->wpAny (model X.prog X.w) X.A (f (.int i t) (.int j u)) Q E s) :
  OpR X f (rI0 fun i j=>.int (g i j)):=by
 intro pins s σ H x y v u Q I rx ry h
 obtain ⟨i,j,rfl,rfl,q⟩:=h
 obtain ⟨t,rfl⟩:=rx
 obtain ⟨t',rfl⟩:=ry
 exact rule i j t t' s _ _ ⟨.int (g i j),H,I.tok _,⟨_,rfl⟩,q⟩
theorem Ad3 {f:Value->Value->Sem Value} {g:Int->Int->Bool}
  (rule:∀(i j:Int) (t u:Tok) (s:Shared) (Q:Value->Shared->Prop) (E:Value->Shared->Prop),Q (.bool (g i j)) s->wpAny (model X.prog X.w) X.A (f (.int i t) (.int j u)) Q E s) :
  OpR X f (rI0 fun i j=>.bl (g i j)):=by
 intro pins s σ H x y v u Q I rx ry h
 obtain ⟨i,j,rfl,rfl,q⟩:=h
 obtain ⟨t,rfl⟩:=rx
 obtain ⟨t',rfl⟩:=ry
 exact rule i j t t' s _ _ ⟨.bl (g i j),H,I,rfl,q⟩
noncomputable def Aen (i j:Int):Prop:=0 < j/\j < 1073741824
noncomputable def Xu (i j:Int):Prop:=0<=j/\j<=1000000/\i.natAbs < 2 ^ 64
noncomputable def CMul (i j:Int):Prop:=(-(2 ^ 64) < i/\i < 2 ^ 64)\/(-(2 ^ 64) < j/\j < 2 ^ 64)
theorem CMul.ok {i j:Int} (h:CMul i j):IntMulOk i j:=by
 rcases h with ⟨h1,h2⟩ | ⟨h1,h2⟩
 ·exact .of_left (intBits_le_64 h1 h2)
 ·exact .of_right (intBits_le_64 h1 h2)
theorem Mz (k:Nat):(0:Int)<=2 ^ k:=by
 rw [two_pow_cast]
 exact Int.natCast_nonneg _
theorem op_add:OpR X (binaryOp .Add) (rI0 fun i j=>.int (i + j)):=Zb fun _ _ _ _ _ _ _ q=>add_int q
theorem Ei:OpR X (binaryOp .Sub) (rI0 fun i j=>.int (i - j)):=Zb fun _ _ _ _ _ _ _ q=>sub_int q
theorem op_mul:OpR X (binaryOp .Mult) (rI CMul fun i j=>.int (i * j)):=opI fun _ _ _ _ _ _ _ hc q=>mul_int q hc.ok
theorem op_fdiv:OpR X (binaryOp .FloorDiv) (rI Aen fun i j=>.int (i / j)):=opI fun i j _ _ _ _ _ hc q=>by
 have h1:(0:Int) < j:=hc.1
 have h2:j < 1073741824:=hc.2
 exact floordiv_int (by omega) (by rw [Int.fdiv_eq_ediv_of_nonneg i (by omega)]; exact q) (.inl (PyProof.noPylong_small (by omega)))
theorem op_mod:OpR X (binaryOp .Mod) (rI (fun _ j=>0 < j) fun i j=>.int (i % j)):=opI fun i j _ _ _ _ _ hc q=>by
 have h1:(0:Int) < j:=hc
 exact mod_int' (by omega) (by rw [Int.fmod_eq_emod_of_nonneg i (by omega)]; exact q)
theorem Am:OpR X (binaryOp .Pow) (rI Xu fun i j=>.int (i ^ j.toNat)):=opI fun _ _ _ _ _ _ _ hc q=>pow_int_small hc.1 hc.2.1 hc.2.2 q
theorem op_shl:OpR X (binaryOp .LShift) (rI Xu fun i j=>.int (i * 2 ^ j.toNat)):=opI fun _ _ _ _ _ _ _ hc q=>lshift_int_small hc.1 hc.2.1 hc.2.2 q
theorem Ach:OpR X (binaryOp .RShift) (rI (fun _ j=>0<=j) fun i j=>.int (i / 2 ^ j.toNat)):=opI fun i j _ _ _ _ _ hc q=>
 rshift_int hc (by rw [Int.fdiv_eq_ediv_of_nonneg i (Mz _)]; exact q)
theorem op_and:OpR X (binaryOp .BitAnd) (rI0 fun i j=>.int (Builtin.bitAnd i j)):=Zb fun _ _ _ _ _ _ _ q=>and_int q
theorem op_or:OpR X (binaryOp .BitOr) (rI0 fun i j=>.int (Builtin.bitOr i j)):=Zb fun _ _ _ _ _ _ _ q=>or_int q
theorem unI {f:Value->Sem Value} {g:Int->Int}
  (rule:∀(i:Int) (t:Tok) (s:Shared) (Q:Value->Shared->Prop) (E:Value->Shared->Prop),Q (.int (g i) s.toks) { s with toks:=s.toks + 1 }->wpAny (model X.prog X.w) X.A (f (.int i t)) Q E s) :
  UnR X f (rU fun i=>.int (g i)):=by
 intro pins s σ H x v Q I rx h
 obtain ⟨i,rfl,q⟩:=h
 obtain ⟨t,rfl⟩:=rx
 exact rule i t s _ _ ⟨.int (g i),H,I.tok _,⟨_,rfl⟩,q⟩
theorem Ex:UnR X (unaryOp .Invert) (rU fun i=>.int (Builtin.bitNot i)):=unI fun _ _ _ _ _ q=>invert_int q
end
noncomputable def Aeg:V->V->Bool
 | .non,.non=>true | .non,.int _=>true | .int _,.non=>true | .non,.bl _=>true | .bl _,.non=>true | .non,.str _=>true | .str _,.non=>true
 | .int _,.int _=>true | .bl _,.bl _=>true | .str _,.str _=>true | .byt _,.byt _=>true
 | .int _,.str _=>true | .str _,.int _=>true | .bl _,.str _=>true | .str _,.bl _=>true
 | _,_=>false
noncomputable def rEq:R2:=fun x y H Q=>Aeg x y=true/\Q (.bl (decide (x=y))) H
noncomputable def rNe:R2:=fun x y H Q=>Aeg x y=true/\Q (.bl (!decide (x=y))) H
theorem Az {i j:Int}:decide (V.int i=V.int j)=(i == j):=by
 rw [Bool.eq_iff_iff]
 simp
theorem Th {i j:Bool}:decide (V.bl i=V.bl j)=(i == j):=by
 rw [Bool.eq_iff_iff]
 simp
theorem No {i j:Str}:decide (V.str i=V.str j)=(i == j):=by
 rw [Bool.eq_iff_iff]
 simp
theorem Nn {i j:Array UInt8}:decide (V.byt i=V.byt j)=(i.toList == j.toList):=by
 rw [Bool.eq_iff_iff]
 cases i
 cases j
 simp
section
variable {X:Cx} {a b c:Expr} {ta tb tc:TE} {pos:Pos}
theorem F3 {pins:List (Addr × Obj)} {σ:St} {H:Hp} {s:Shared} {Q:VK} {k k':Bool} (I:Inv X pins σ H s) (q:Q (.bl k) H) (e:k=k'):EP X pins σ Q (.bool k') s:=by
 subst e
 exact ⟨.bl k,H,I,rfl,q⟩
theorem op_eq:OpR X (compareOp .Eq) rEq:=by
 intro pins s σ H x y v u Q I rx ry h
 obtain ⟨hs,q⟩:=h
 cases x with
 | non=>
  cases rx
  cases y with
  | non=>cases ry; exact PySem.EqNone.eq_none_none (F3 I q (by simp))
  | bl j=>cases ry; exact PySem.EqNone.eq_none_bool (F3 I q (by simp))
  | int j=>obtain ⟨t',rfl⟩:=ry; exact PySem.EqNone.eq_none_int (F3 I q (by simp))
  | str j=>obtain ⟨t',rfl⟩:=ry; exact PySem.EqNone.eq_none_str (F3 I q (by simp))
  | _=>exact absurd (show false=true from hs) Zf_
 | bl i=>
  cases rx
  cases y with
  | non=>cases ry; exact PySem.EqNone.eq_bool_none (F3 I q (by simp))
  | bl j=>cases ry; exact eq_bool (F3 I q Th)
  | str j=>obtain ⟨t',rfl⟩:=ry; exact PySem.EqMixed.eq_bool_str (F3 I q (by simp))
  | _=>exact absurd (show false=true from hs) Zf_
 | int i=>
  obtain ⟨t,rfl⟩:=rx
  cases y with
  | non=>cases ry; exact PySem.EqNone.eq_int_none (F3 I q (by simp))
  | int j=>obtain ⟨t',rfl⟩:=ry; exact eq_int (F3 I q Az)
  | str j=>obtain ⟨t',rfl⟩:=ry; exact PySem.EqMixed.eq_int_str (F3 I q (by simp))
  | _=>exact absurd (show false=true from hs) Zf_
 | str i=>
  obtain ⟨t,rfl⟩:=rx
  cases y with
  | non=>cases ry; exact PySem.EqNone.eq_str_none (F3 I q (by simp))
  | bl j=>cases ry; exact PySem.EqMixed.eq_str_bool (F3 I q (by simp))
  | int j=>obtain ⟨t',rfl⟩:=ry; exact PySem.EqMixed.eq_str_int (F3 I q (by simp))
  | str j=>obtain ⟨t',rfl⟩:=ry; exact eq_str (F3 I q No)
  | _=>exact absurd (show false=true from hs) Zf_
 | byt i=>
  obtain ⟨t,rfl⟩:=rx
  cases y with
  | byt j=>obtain ⟨t',rfl⟩:=ry; exact PySem.W.eq_bytes (F3 I q Nn)
  | _=>exact absurd (show false=true from hs) Zf_
 | _=>cases y <;> exact absurd (show false=true from hs) Zf_
theorem op_ne:OpR X (compareOp .NotEq) rNe:=by
 intro pins s σ H x y v u Q I rx ry h
 obtain ⟨hs,q⟩:=h
 cases x with
 | non=>
  cases rx
  cases y with
  | non=>cases ry; exact PySem.EqNone.ne_none_none (F3 I q (by simp))
  | bl j=>cases ry; exact PySem.EqNone.ne_none_bool (F3 I q (by simp))
  | int j=>obtain ⟨t',rfl⟩:=ry; exact PySem.EqNone.ne_none_int (F3 I q (by simp))
  | str j=>obtain ⟨t',rfl⟩:=ry; exact PySem.EqNone.ne_none_str (F3 I q (by simp))
  | _=>exact absurd (show false=true from hs) Zf_
 | bl i=>
  cases rx
  cases y with
  | non=>cases ry; exact PySem.EqNone.ne_bool_none (F3 I q (by simp))
  | bl j=>cases ry; exact ne_bool (F3 I q (congrArg not Th))
  | str j=>obtain ⟨t',rfl⟩:=ry; exact PySem.EqMixed.ne_bool_str (F3 I q (by simp))
  | _=>exact absurd (show false=true from hs) Zf_
 | int i=>
  obtain ⟨t,rfl⟩:=rx
  cases y with
  | non=>cases ry; exact PySem.EqNone.ne_int_none (F3 I q (by simp))
  | int j=>obtain ⟨t',rfl⟩:=ry; exact ne_int (F3 I q (congrArg not Az))
  | str j=>obtain ⟨t',rfl⟩:=ry; exact PySem.EqMixed.ne_int_str (F3 I q (by simp))
  | _=>exact absurd (show false=true from hs) Zf_
 | str i=>
  obtain ⟨t,rfl⟩:=rx
  cases y with
  | non=>cases ry; exact PySem.EqNone.ne_str_none (F3 I q (by simp))
  | bl j=>cases ry; exact PySem.EqMixed.ne_str_bool (F3 I q (by simp))
  | int j=>obtain ⟨t',rfl⟩:=ry; exact PySem.EqMixed.ne_str_int (F3 I q (by simp))
  | str j=>obtain ⟨t',rfl⟩:=ry; exact ne_str (F3 I q (congrArg not No))
  | _=>exact absurd (show false=true from hs) Zf_
 | byt i=>
  obtain ⟨t,rfl⟩:=rx
  cases y with
  | byt j=>obtain ⟨t',rfl⟩:=ry; exact PySem.W.ne_bytes (F3 I q (congrArg not Nn))
  | _=>exact absurd (show false=true from hs) Zf_
 | _=>cases y <;> exact absurd (show false=true from hs) Zf_
theorem op_lt:OpR X (compareOp .Lt) (rI0 fun i j=>.bl (decide (i < j))):=Ad3 fun _ _ _ _ _ _ _ q=>lt_int q
theorem op_gt:OpR X (compareOp .Gt) (rI0 fun i j=>.bl (decide (j < i))):=Ad3 fun _ _ _ _ _ _ _ q=>gt_int q
theorem Vd:OpR X (compareOp .Is) (fun x y H Q=>y = .non/\Q (.bl (decide (x = .non))) H):=by
 intro pins s σ H x y v u Q I rx ry h
 obtain ⟨rfl,q⟩:=h
 cases ry
 refine is_none_gen (F3 I q ?_)
 cases x <;> first
  | (cases rx; rfl)
  | (obtain ⟨t,rfl⟩:=rx; rfl)
theorem Bk:OpR X (compareOp .IsNot) (fun x y H Q=>y = .non/\Q (.bl (!decide (x = .non))) H):=by
 intro pins s σ H x y v u Q I rx ry h
 obtain ⟨rfl,q⟩:=h
 cases ry
 refine isnot_none_gen (F3 I q ?_)
 cases x <;> first
  | (cases rx; rfl)
  | (obtain ⟨t,rfl⟩:=rx; rfl)
theorem D9 (b:Expr) {op:CmpOp} (h:op≠.In:=by decide) (h2:op≠.NotIn:=by decide):behindInMarks op b=false:=by
 have e1:(op == CmpOp.In)=false:=by cases op <;> first | rfl | exact absurd rfl h
 have e2:(op == CmpOp.NotIn)=false:=by cases op <;> first | rfl | exact absurd rfl h2
 cases b <;> simp [behindInMarks,e1,e2]
theorem P1 {op:CmpOp} {r:R2} (ho:OpR X (compareOp op) r) (ha:PE X a ta) (hb:PE X b tb) (hm:behindInMarks op b=false):PE X (.Compare a [op] [b] pos) (tOp r ta tb):=by
 intro pins s σ H Q I h
 exact wpAny_Compare1 (Abe ha hb I h fun v u s2 x y H2 I2 rx ry q=>ho pins s2 σ H2 x y v u Q I2 rx ry q) hm
noncomputable def Aem (t:TE):TT:=fun σ H Q=>t σ H fun x H'=>∃k,x = .bl k/\Q k H'
theorem D8 {op:CmpOp} {r:R2} (ho:OpR X (compareOp op) r) (ha:PE X a ta) (hb:PE X b tb) (hm:behindInMarks op b=false):PT X (.Compare a [op] [b] pos) (Aem (tOp r ta tb)):=by
 intro pins s σ H Q I h
 refine wpAny_isTrue_Compare1 (thn (ha pins s σ H _ I h) fun v s1 ⟨x,H1,I1,r1,q1⟩=>thn (hb pins s1 σ H1 _ I1 q1) fun u s2 ⟨y,H2,I2,r2,q2⟩=>
  thn (ho pins s2 σ H2 x y v u _ I2 r1 r2 q2) fun c s3 ⟨z,H3,I3,r3,k,e,q3⟩=>?_) hm
 subst e
 cases r3
 exact wpAny_truthy_bool ⟨H3,I3,q3⟩
theorem Hc:(sizeLine:Nat) < 2 ^ 63:=by rw [sizeLine_eq]; decide
theorem W0 {x:V} {us:List Value} (r:Vals [x] us):∃u,us=[u]/\RelV x u:=by
 cases r with
 | cons r1 r2=>cases r2; exact ⟨_,rfl,r1⟩
theorem Aa8 {x y:V} {us:List Value} (r:Vals [x,y] us):∃u w',us=[u,w']/\RelV x u/\RelV y w':=by
 cases r with
 | cons r1 r2=>
  cases r2 with
  | cons r3 r4=>cases r4; exact ⟨_,_,rfl,r1,r3⟩
theorem Z9:P3 X (.type "int") (fun xs H Q=>(∃i,xs=[.int i]/\Q (.int i) H)\/∃k,xs=[.bl k]/\Q (.int (if k then 1 else 0)) H):=by
 intro pins s σ H xs us Q I r h
 rcases h with ⟨i,rfl,q⟩ | ⟨k,rfl,q⟩
 ·obtain ⟨u,rfl,t,rfl⟩:=W0 r
  exact call_int_int ⟨.int i,H,I,⟨_,rfl⟩,q⟩
 ·obtain ⟨u,rfl,r1⟩:=W0 r
  cases r1
  exact call_int_bool ⟨.int (if k then 1 else 0),H,I.tok _,⟨_,rfl⟩,q⟩
end
structure ObjM (h:Heap) (x dx C:Addr) (mA:Str->Option Value):Prop where
 obj:h.get? x=some (PySem.W.instObj C dx)
 ns:h.Ns1 dx mA
 ne:dx≠x
theorem Qr {h:Heap} {dx:Addr} {mA:Str->Option Value} (n:h.Ns1 dx mA):∃od,h.get? dx=some od/\∀name,PySem.W.lookIn name od=some (mA name):=by
 obtain ⟨o,es,ep,ho,hd,hk,_,hm⟩:=n
 refine ⟨o,ho,fun name=>?_⟩
 have e:=hm name
 unfold nsFind findBy at e
 rw [<-Array.find?_toList] at e
 unfold PySem.W.lookIn
 rw [hd]
 dsimp only
 split
 ·rename_i y q
  rw [q] at e
  exact congrArg some e
 ·rename_i q
  rw [q] at e
  have a:es.toList.any (·.refKey)=false:=by
   rw [List.any_eq_false]
   intro y hy
   obtain ⟨z,t,hkey⟩:=hk y (Array.mem_toList_iff.mp hy)
   simp [DictEntry.refKey,hkey]
  have a':¬es.toList.any (·.refKey)=true:=by rw [a]; exact Zf_
  rw [if_neg a']
  exact congrArg some e
theorem ObjM.look {h:Heap} {x dx C:Addr} {mA:Str->Option Value} (I:ObjM h x dx C mA):∃od,PySem.W.InstAt h x (PySem.W.instObj C dx) C (some od)/\∀name,PySem.W.lookIn name od=some (mA name):=
 let ⟨od,ho,hl⟩:=Qr I.ns
 ⟨od,⟨I.obj,rfl,rfl,ho⟩,hl⟩
section
variable {prog:Program} {w:World} {A:Around} {E:Value->Shared->Prop} {s:Shared} {K:Θf} {x dx C f:Addr} {mA:Str->Option Value} {name:Str} {v:Value}
end
section
variable {P:Program} {w:World} {H H':Hp} {h h':Heap} {a C dx:Addr} {fs fs':List (Str × V)}
theorem T8 (hok:HOk P w H h) (e:H a=some (.ins C dx fs)):∃mA,ObjM h a dx C mA/\(∀f,RelO (fs.lookup f) (mA f))/\PySem.Within mA (fs.map (·.1))/\fs.length<=1000/\H dx=some (.own a):=by
 obtain ⟨d,z,ne,ob,mA,n,r,q⟩:=(show ObjOk P w H h a (.ins C dx fs) from hok a _ e)
 exact ⟨mA,⟨ob,n,ne⟩,r,q,z,d⟩
end
structure Cls (K:Θf) (C:Addr):Prop where
 pg:PySem.W.plainGet K C Str.empty=true
 hd:PySem.W.hasDictIn K C=true
 po:PySem.W.plainOver K C=true
 sa:PySem.W.findIn K (.ref C) "__setattr__" = some (some (.builtin "object.__setattr__"))
theorem Cls.get {K:Θf} {C:Addr} (c:Cls K C) (f:Str):PySem.W.plainGet K C f=true:=c.pg
section
variable {X:Cx} {pins:List (Addr × Obj)} {σ:St} {H:Hp} {s:Shared} {a C dx:Addr} {fs:List (Str × V)} {f:Str} {v:V} {A:Around} {E:Value->Shared->Prop}
end
section
variable {X:Cx} {o e value:Expr} {f:Str} {pos pos' tpos:Pos} {ta tv:TE}
end
section
variable {X:Cx} {pins:List (Addr × Obj)} {σ:St} {H:Hp} {s:Shared} {A:Around} {E:Value->Shared->Prop} {Q:Value->Shared->Prop} {c:Value} {b:Bool}
inductive TyOf (K:Θf) (H:Hp):V->Value->Prop where
 | non:TyOf K H .non (.type "NoneType")
 | bl (x:Bool):TyOf K H (.bl x) (.type "bool")
 | int (i:Int):TyOf K H (.int i) (.type "int")
 | str (x:Str):TyOf K H (.str x) (.type "str")
 | flt (x:UInt64):TyOf K H (.flt x) (.type "float")
 | lst {a:Addr} {xs:List V} (e:H a=some (.lst xs)):TyOf K H (.ref a) (.type "list")
 | frz {a:Addr} {o:Obj} {xs:List V} (e:H a=some (.frz o (.lst xs))):TyOf K H (.ref a) (.type "list")
 | tup {a:Addr} {xs:List V} (e:H a=some (.tup xs)):TyOf K H (.ref a) (.type "tuple")
 | dK {a:Addr} {kvs:List (Key × V)} (e:H a=some (.dK kvs)):TyOf K H (.ref a) (.type "dict")
 | dT {a:Addr} {kvs:List (List Key × V)} (e:H a=some (.dT kvs)):TyOf K H (.ref a) (.type "dict")
 | ins {a C dx:Addr} {fs:List (Str × V)} (e:H a=some (.ins C dx fs)) (cl:Cls K C) (ha:PySem.W.findIn K (.ref C) "__class__" = some (some (.builtin "object.__class__")))
   (hn:PySem.W.specialIn K (.builtin "object.__class__") "__get__" = some (some (.builtin "getset_descriptor.__get__"))) (htk:PySem.W.takesIn K (.builtin "object.__class__")=some true)
   (hm:PySem.W.mroIn K C (.type "object")=some true):TyOf K H (.ref a) (.ref C)
theorem Qk {x:V} {u t:Value} (I:Inv X pins σ H s) (rx:RelV x u) (ty:TyOf X.K H x t) (e:PySem.W.kitOne X.K t c=some b) (h:∀tk,Q (.bool b) { s with toks:=tk }) :
  wpAny (model X.prog X.w) A (call (.builtin "isinstance") [u,c]) Q E s:=by
 cases ty with
 | non=>cases (show u=Value.none from rx); exact PySem.W.kia_one PySem.W.kitx_none I.kIn True.intro e (fun z=>nomatch z) h
 | bl y=>cases (show u=Value.bool y from rx); exact PySem.W.kia_one PySem.W.kitx_bool I.kIn True.intro e (fun z=>nomatch z) h
 | int i=>obtain ⟨t,q⟩:=(show ∃t,u=Value.int i t from rx); cases q; exact PySem.W.kia_one PySem.W.kitx_int I.kIn True.intro e (fun z=>nomatch z) h
 | str y=>obtain ⟨t,q⟩:=(show ∃t,u=Value.str y t from rx); cases q; exact PySem.W.kia_one PySem.W.kitx_str I.kIn True.intro e (fun z=>nomatch z) h
 | flt y=>obtain ⟨t,q⟩:=(show ∃t,u=Value.float y t from rx); cases q; exact PySem.W.kia_one PySem.W.kitx_float I.kIn True.intro e (fun z=>nomatch z) h
 | @lst a xs ea=>
  cases (show u=Value.ref a from rx)
  obtain ⟨_,_,n,_,h1⟩:=(show ObjOk X.prog X.w H s.heap a (.lst xs) from I.hok a _ ea)
  exact PySem.W.kia_one PySem.W.kitx_list I.kIn ⟨_,h1,rfl⟩ e (fun z=>nomatch z) h
 | @frz a ob xs ea=>
  cases (show u=Value.ref a from rx)
  obtain ⟨_,_,_,n,_,h1⟩:=(show ObjOk X.prog X.w H s.heap a (.frz ob (.lst xs)) from I.hok a _ ea)
  exact PySem.W.kia_one PySem.W.kitx_list I.kIn ⟨_,h1,rfl⟩ e (fun z=>nomatch z) h
 | @tup a xs ea=>
  cases (show u=Value.ref a from rx)
  obtain ⟨_,_,_,p⟩:=(show ObjOk X.prog X.w H s.heap a (.tup xs) from I.hok a _ ea)
  obtain ⟨o,h1,h2,_⟩:=p
  exact PySem.W.kia_one PySem.W.kitx_tuple I.kIn ⟨o,h1,h2⟩ e (fun z=>nomatch z) h
 | @dK a kvs ea=>
  cases (show u=Value.ref a from rx)
  obtain ⟨_,_,vs,_,p⟩:=(show ObjOk X.prog X.w H s.heap a (.dK kvs) from I.hok a _ ea)
  obtain ⟨o,es,ep,h1,h2,_⟩:=p
  exact PySem.W.kia_one PySem.W.kitx_dict I.kIn ⟨o,h1,h2.1⟩ e (fun z=>nomatch z) h
 | @dT a kvs ea=>
  cases (show u=Value.ref a from rx)
  obtain ⟨_,_,xs,_,o,es,ep,h1,h2,_⟩:=(show ObjOk X.prog X.w H s.heap a (.dT kvs) from I.hok a _ ea)
  exact PySem.W.kia_one PySem.W.kitx_dict I.kIn ⟨o,h1,h2.1⟩ e (fun z=>nomatch z) h
 | @ins a C dx fs ea cl ha hn htk hm=>
  cases (show u=Value.ref a from rx)
  obtain ⟨mA,O,_⟩:=T8 I.hok ea
  obtain ⟨od,J,_⟩:=O.look
  exact PySem.W.kia_one (PySem.W.kitx_own (cl.get _) cl.hd ha hn htk hm) I.kIn J e (fun z=>nomatch z) h
end
structure Room (k:Nat) (A:Around):Prop where
 hd:A.handled=none
 dp:A.depth + 3 * k + 5 < recursionLimit
 un:A.units + 16 * k + 200 < cLine
theorem Room.mono {j k:Nat} {A:Around} (r:Room k A) (h:j<=k):Room j A:=⟨r.hd,by have:=r.dp; omega,by have:=r.un; omega⟩
theorem Room.deeper {k:Nat} {A:Around} (r:Room (k + 1) A) (env:Env):Room k (A.deeper env):=
 ⟨r.hd,by have:=r.dp; show A.depth + 1 + 3 * k + 5 < _; omega,by have:=r.un; show A.units + 3 + 16 * k + 200 < _; omega⟩
theorem Room.depth {k:Nat} {A:Around} (r:Room k A):A.depth < recursionLimit:=by have:=r.dp; omega
theorem Room.units {k:Nat} {A:Around} (r:Room k A):A.units + 64 < cLine:=by have:=r.un; omega
noncomputable def Adb:TA:=fun _ H Q=>Q [] H
noncomputable def Xf (ta:TE) (tr:TA):TA:=fun σ H Q=>ta σ H fun x H1=>tr σ H1 fun xs H2=>Q (x :: xs) H2
section
variable {X:Cx} {e:Expr} {es:List Expr} {te:TE} {t:TA} {pos:Pos}
theorem A6:PA X [] Adb:=fun _ _ _ _ H Q I h=>Calls.spliced_nil ⟨[],H,I,.nil,h⟩
theorem A0 (ha:PE X e te) (hr:PA X es t) (hs:starEach (e :: es) X.env=(false,eval e X.env) :: starEach es X.env:=by rfl):PA X (e :: es) (Xf te t):=by
 intro pos pins s σ H Q I h
 rw [hs]
 show wpAny _ _ (spliced ((false,eval e X.env) :: backTo pos (starEach es X.env))) _ _ s
 refine Calls.spliced_cons (thn (ha pins s σ H _ I h) fun u s1 ⟨x,H1,I1,r1,q1⟩=>?_)
 exact thn (hr pos pins s1 σ H1 _ I1 q1) fun us s2 ⟨xs,H2,I2,r2,q2⟩=>⟨x :: xs,H2,I2,.cons r1 r2,q2⟩
noncomputable def Ae8 (t:TA):TE:=fun σ H Q=>t σ H fun xs H1=>xs.length<=sizeLine/\∀p,H1 p=none->Q (.ref p) (upd H1 p (.tup xs))
noncomputable def Ae5 (t:TA):TE:=fun σ H Q=>t σ H fun xs H1=>xs.length<=sizeLine/\∀p,H1 p=none->Q (.ref p) (upd H1 p (.lst xs))
theorem M8 {x1} (h:PA X es t):PE X (.Tuple es x1 pos) (Ae8 t):=by
 intro pins s σ H Q I hq
 refine wpAny_Tuple_spliced (thn (h pos pins s σ H _ I hq) fun us s1 ⟨xs,H1,I1,r,z,q⟩=>⟨by rw [<-r.length]; exact z,?_⟩)
 have hf:H1 s1.heap.objs.size=none:=I1.hok.fresh (Zd_ _)
 refine ⟨.ref s1.heap.objs.size,upd H1 s1.heap.objs.size (.tup xs),I1.laid (t':=s1.toks) (fun b u e=>Zc_ _ e) (Zd_ _) ?_,rfl,q _ hf⟩
 exact ⟨z,us,r,⟨_,Zm_ _ rfl,rfl,_,rfl⟩⟩
theorem G8 (h:PA X es t):PE X (.List es pos) (Ae5 t):=by
 intro pins s σ H Q I hq
 refine wpAny_List_spliced (thn (h pos pins s σ H _ I hq) fun us s1 ⟨xs,H1,I1,r,z,q⟩=>⟨by rw [<-r.length]; exact z,?_⟩)
 have hf:H1 s1.heap.objs.size=none:=I1.hok.fresh (Zd_ _)
 refine ⟨.ref s1.heap.objs.size,upd H1 s1.heap.objs.size (.lst xs),I1.laid (t':=s1.toks) (fun b u e=>Zc_ _ e) (Zd_ _) ?_,rfl,q _ hf⟩
 exact ⟨z,us,0,r,Zm_ _ rfl⟩
end
noncomputable abbrev Sp:=List V->Hp->VK->XK->Prop
noncomputable abbrev CXT:=List Env->Hp->Shared->XK->Value->Shared->Prop
structure Env0 (P:Program) (w:World) (K:Θf) (mg:Str->Option Value) (base:Heap) (A:Around) (outer:List Env) (s:Shared) (H:Hp):Prop where
 frames:A.frames=some outer
 mod:Mod K mg base
 bs:∀b o,base.get? b=some o->s.heap.get? b=some o/\H b=none
 bsz:base.objs.size<=s.heap.objs.size
 funs:s.heap.FunFrames base outer
 frf:∀b∈frs outer,H b=none
 hok:HOk P w H s.heap
 bare:AllBare s.gens
noncomputable def CE (outer:List Env) (P:Program) (w:World) (H:Hp) (s:Shared) (Q:VK) (u:Value) (s':Shared):Prop:=
 ∃v H',s'.os=s.os/\AllBare s'.gens/\Un (frs outer) [] H H' s.heap s'.heap/\HOk P w H' s'.heap/\RelV v u/\Q v H'
noncomputable def CR (CX:CXT) (outer:List Env) (P:Program) (w:World) (H:Hp) (s:Shared) (Q:VK) (E:XK) (r:Result) (s':Shared):Prop:=
 match r with
 | .ok (.ret u)=>CE outer P w H s Q u s'
 | .ok _=>False
 | .error e=>CX outer H s E e s'
structure FnOk (P:Program) (w:World) (K:Θf) (mg:Str->Option Value) (base:Heap) (CX:CXT) (k:Nat) (f:Addr) (fd:FuncData) (ps:List Str) (sp:Sp):Prop where
 len:∀vs H Q E,sp vs H Q E->vs.length=ps.length
 run:∀(A:Around) (outer:List Env) (s:Shared) (H:Hp) (args:Args) (us:List Value) (vs:List V) (Q:VK) (E:XK),Room k A->Env0 P w K mg base A outer s H->BindsTo s fd args (ps.zip us)->Vals vs us->sp vs H Q E->
  codeAny (model P w) A (.call (.ref f) args) (CR CX outer P w H s Q E) s
section
variable {X:Cx} {pins:List (Addr × Obj)} {σ:St} {H:Hp} {s s':Shared}
theorem Inv.env0 (I:Inv X pins σ H s):Env0 X.prog X.w X.K X.mg X.base X.A X.stack s H:=
 ⟨I.ok.frames,I.ok.mod,I.bs,Zo_ I.ok.bsz I.sz,I.stack,I.stkFree,I.hok,I.bare⟩
theorem Inv.after {Q:VK} {u:Value} (I:Inv X pins σ H s) (h:CE X.stack X.prog X.w H s Q u s'):EP X pins σ Q u s':=by
 obtain ⟨v,H',os,bare,un,hok,r,q⟩:=h
 obtain ⟨hh,g,d,t,os'⟩:=s'
 obtain rfl:os' = s.os:=os
 exact ⟨v,H',I.call (h':=hh) (g':=g) (d':=d) (t':=t) (ch:=[]) un hok bare (fun b z=>absurd z (by simp)),r,q⟩
end
noncomputable def Aei (sp:Sp) (dvs:List V) (E:XK) (t:TA):TE:=fun σ H Q=>t σ H fun vs H1=>sp (vs++dvs) H1 Q E
noncomputable def Binds (K:Θf) (fd:FuncData) (ps:List Str) (ds:List Value):Prop:=
 ∀(s:Shared) (us:List Value),K.In s.heap->(us++ds).length=ps.length->BindsTo s fd ⟨us,[]⟩ (ps.zip (us++ds))
theorem Binds.all {K:Θf} {fd:FuncData} {ps:List Str} (h:∀us:List Value,us.length=ps.length->bindArgs fd ⟨us,[]⟩=pure (ps.zip us)):Binds K fd ps []:=fun s us _ hl=>by
 rw [List.append_nil] at hl ⊢
 exact .of_eq (h us hl)
noncomputable def Ld (CX:CXT) (X:Cx) (E:XK):Prop:=∀(pins:List (Addr × Obj)) (σ:St) (H:Hp) (s:Shared) (e:Value) (s':Shared),Inv X pins σ H s->CX X.stack H s E e s'->X.xe e s'
section
variable {X:Cx} {CX:CXT} {k:Nat} {f C:Addr} {fd:FuncData} {ps:List Str} {sp:Sp} {dvs:List V} {ds:List Value} {E:XK} {x m:Str} {p pos apos:Pos} {e o:Expr} {es:List Expr} {ta:TE} {t:TA}
theorem Acx {pins:List (Addr × Obj)} {σ:St} {H:Hp} {s:Shared} {Q:VK} {us:List Value} {vs:List V} (F:FnOk X.prog X.w X.K X.mg X.base CX k f fd ps sp) (hr:Room k X.A) (hb:Binds X.K fd ps ds) (hd:Vals dvs ds) (hx:Ld CX X E)
  (I:Inv X pins σ H s) (r:Vals vs us) (h:sp (vs++dvs) H Q E):wpAny (model X.prog X.w) X.A (call (.ref f) us) (EP X pins σ Q) X.xe s:=by
 have r2:Vals (vs++dvs) (us++ds):=r.append hd
 have hl:(us++ds).length=ps.length:=by rw [<-r2.length]; exact F.len _ _ _ _ h
 refine wpAny_call (codeAny_mono (F.run X.A X.stack s H ⟨us,[]⟩ (us++ds) (vs++dvs) Q E hr I.env0 (hb s us I.kIn hl) r2 h) fun r s' hq=>?_)
 cases r with
 | error e=>exact hx pins σ H s e s' I hq
 | ok fl=>
  cases fl with
  | ret u=>exact I.after hq
  | next=>exact False.elim hq
  | brk=>exact False.elim hq
  | cont=>exact False.elim hq
theorem C2 (F:FnOk X.prog X.w X.K X.mg X.base CX k f fd ps sp) (hr:Room k X.A) (hg:Gl X x) (hm:X.mg x=some (.ref f)) (hk:PySem.W.keepIn X.K (.ref f)=true) (hb:Binds X.K fd ps ds) (hd:Vals dvs ds) (hx:Ld CX X E)
  (ha:PA X (e :: es) t) (hdb:(x == ("__debug__":Str))=false:=by decide) (he:starEach (e :: es) X.env=(false,eval e X.env) :: starEach es X.env:=by rfl) (hpl:(backTo pos (starEach es X.env)).any (·.1)=false:=by rfl) :
  PE X (.Call (.Name x p) (e :: es) [] pos) (Aei sp dvs E t):=by
 intro pins s σ H Q I h
 refine wpAny_Call_Name_kw (Cq I hg hm ?_ hdb)
 refine PySem.W.callWith_K (h₀:=X.base) I.ok.mod.kin hk (thn (ha pos pins s σ H _ I h) fun us s1 ⟨vs,H1,I1,r,q⟩=>⟨I1.kIn,?_⟩) he hpl
 exact Acx F hr hb hd hx I1 r q
end
section
variable {X:Cx} {CX:CXT} {k:Nat} {f C:Addr} {fd:FuncData} {ps ks:List Str} {sp:Sp} {E:XK} {x m:Str} {p pos apos kpos:Pos} {e o:Expr} {es:List Expr} {kws:List Keyword} {te ta:TE} {t tk:TA} {nm:Option Str}
variable {g:List Value->List Value->List Value} {gV:List V->List V->List V}
end
structure FnScope (N P:List Str) (sc:Scope):Prop where
 kind:sc.kind = .function
 co:sc.isCoroutine=false
 gen:sc.isGenerator=false
 nd:N.Nodup
 pre:N.take P.length=P
 par:∀x∈P,sc.names.lookup x=some .local\/sc.names.lookup x=some .cell
 nofree:∀y∈sc.names,y.2≠.free
theorem Fj {kindOf:Str->Option NameKind} {x:Str}:∀{binds:List (Str × Value)} {m:Str->Option Value},(∀v,(x,v)∉binds)->bindL kindOf binds m x=m x
 | [],_,_=>rfl
 | (n,v) :: r,m,h=>by
  unfold bindL
  rw [Fj fun w hw=>h w (Θd _ hw)]
  split
  ·have:x≠n:=by rintro rfl; exact h v Θc
   simp [this]
  ·rfl
theorem Fh {kindOf:Str->Option NameKind} {x:Str}:∀{binds:List (Str × Value)} {m:Str->Option Value},(∀v,(x,v)∉binds)->bindC kindOf binds m x=m x
 | [],_,_=>rfl
 | (n,v) :: r,m,h=>by
  unfold bindC
  rw [Fh fun w hw=>h w (Θd _ hw)]
  split
  ·rfl
  ·have:x≠n:=by rintro rfl; exact h v Θc
   simp [this]
theorem Fi {kindOf:Str->Option NameKind} {x:Str} {v:Value}:∀{P:List Str} {vs:List Value} {i:Nat} {m:Str->Option Value},P.Nodup->P[i]? = some x->vs[i]? = some v->kindOf x=some .local->
  bindL kindOf (P.zip vs) m x=some v
 | [],_,_,_,_,h,_,_=>by simp at h
 | _ :: _,[],_,_,_,_,h,_=>by simp at h
 | p :: P,w :: vs,0,m,nd,h1,h2,hk=>by
  simp at h1 h2; subst h1; subst h2
  show bindL kindOf ((p,w) :: P.zip vs) m p=_
  unfold bindL
  rw [Fj fun v hv=>(List.nodup_cons.mp nd).1 (List.of_mem_zip hv).1,if_pos hk]
  simp
 | p :: P,w :: vs,i + 1,m,nd,h1,h2,hk=>by
  show bindL kindOf ((p,w) :: P.zip vs) m x=_
  unfold bindL
  exact Fi (i:=i) (List.nodup_cons.mp nd).2 (by simpa using h1) (by simpa using h2) hk
theorem Fg {kindOf:Str->Option NameKind} {x:Str} {v:Value}:∀{P:List Str} {vs:List Value} {i:Nat} {m:Str->Option Value},P.Nodup->P[i]? = some x->vs[i]? = some v->kindOf x≠some .local->
  bindC kindOf (P.zip vs) m x=some v
 | [],_,_,_,_,h,_,_=>by simp at h
 | _ :: _,[],_,_,_,_,h,_=>by simp at h
 | p :: P,w :: vs,0,m,nd,h1,h2,hk=>by
  simp at h1 h2; subst h1; subst h2
  show bindC kindOf ((p,w) :: P.zip vs) m p=_
  unfold bindC
  rw [Fh fun v hv=>(List.nodup_cons.mp nd).1 (List.of_mem_zip hv).1,if_neg hk]
  simp
 | p :: P,w :: vs,i + 1,m,nd,h1,h2,hk=>by
  show bindC kindOf ((p,w) :: P.zip vs) m x=_
  unfold bindC
  exact Fg (i:=i) (List.nodup_cons.mp nd).2 (by simpa using h1) (by simpa using h2) hk
noncomputable def start (N:List Str) (vs:List V):St:=vs.map some++List.replicate (N.length - vs.length) none
noncomputable def Gq (CX:CXT) (P:Program) (w:World) (K:Θf) (mg:Str->Option Value) (base:Heap) (N:List Str) (qual:Str) (scope:Scope) (f:Addr) (cd:Value) (A:Around) (outer:List Env) (s:Shared) (H:Hp) (E:XK):Cx where
 prog:=P
 w:=w
 K:=K
 mg:=mg
 base:=base
 A:=A.deeper (envOfC qual scope s.heap.objs.size f cd)
 N:=N
 s₀:=s
 H₀:=H
 env:=envOfC qual scope s.heap.objs.size f cd
 outer:=outer
 stack:=envOfC qual scope s.heap.objs.size f cd :: outer
 ex:=[]
 calm:=true
 fn:=fun _=>true
 pn:=[]
 xe:=fun e s'=>wpAny (model P w) (A.deeper (envOfC qual scope s.heap.objs.size f cd)) (leaving (envOfC qual scope s.heap.objs.size f cd) e) (fun _ s''=>CX outer H s E e s'') (fun e' s''=>CX outer H s E e' s'') s'
theorem Jd {sc:Scope} {n:Nat} {x:Str} (h:sc.names.lookup x=some .cell):∃c,(cellsFrom n sc.names []).lookup x=some c:=by
 have q:=PySem.W.cellsFrom_some sc.names n [] (.inl h)
 exact Option.isSome_iff_exists.mp q
theorem Qj {CX:CXT} {P:Program} {w:World} {K:Θf} {mg:Str->Option Value} {base:Heap} {N ps:List Str} {qual:Str} {scope:Scope} {f:Addr} {cd:Value} {A:Around} {outer:List Env} {s s1:Shared} {H:Hp} {E:XK} {us:List Value} {vs:List V}
  (S:FnScope N ps scope) (hd:A.handled=none) (e0:Env0 P w K mg base A outer s H) (hl:vs.length=ps.length) (r:Vals vs us)
  (x:InCallC s s.heap.objs.size (bindL (envOfC qual scope s.heap.objs.size f cd).kindOf (ps.zip us) fun _=>none) (cellsFrom (s.heap.objs.size + 1) scope.names []) (bindC (envOfC qual scope s.heap.objs.size f cd).kindOf (ps.zip us) fun _=>none) s1) :
  Inv (Gq CX P w K mg base N qual scope f cd A outer s H E) [] (start N vs) H s1:=by
 have hpl:ps.length<=N.length:=by have:=congrArg List.length S.pre; rw [ZB] at this; omega
 obtain ⟨h1,tk,rfl,hk⟩:=x.done
 have noA:∀b:Addr,b∉(Gq CX P w K mg base N qual scope f cd A outer s H E).ex:=fun b z=>absurd (show b∈([]:List Addr) from z) (by simp)
 refine ⟨⟨e0.mod,S.kind,rfl,rfl,Zd_ _,fun y z c h1 h2=>?_,fun y hy=>?_,fun y c _ h=>?_,fun _=>hd,Around.frames_deeper e0.frames,.inr ⟨rfl,rfl⟩,fun b z=>absurd z (noA b),e0.bs,e0.bsz,fun b _ _=>noA b,fun b z=>absurd z (noA b),e0.funs,e0.frf⟩,
  rfl,e0.bare,Un.kept hk,⟨_,x.toInCall.ns,fun i y v h1 h2 h3=>?_⟩,fun y c h=>⟨_,x.cell y c h⟩,e0.hok.fresh (Nat.le_refl _),fun y c h=>?_,fun p hp=>absurd (show p∈([]:List (Addr × Obj)) from hp) (by simp),e0.hok.kept hk,?_⟩
 ·exact name_of_addr x.apart (PySem.mem_of_lookup h1) (PySem.mem_of_lookup h2)
 ·have hy:scope.names.lookup y=some .cell\/scope.names.lookup y=some .free:=hy
  rcases hy with hy | hy
  ·exact Jd hy
  ·exact absurd rfl (S.nofree _ (PySem.mem_of_lookup hy))
 ·exact Nat.le_of_lt (x.above y c (PySem.mem_of_lookup h))
 ·have hi:i < vs.length:=by
   unfold start at h2
   by_cases hi:i < vs.length
   ·exact hi
   ·rw [List.getElem?_append_right (by simpa using hi)] at h2
    rw [List.getElem?_replicate] at h2
    split at h2 <;> cases h2
  have ha:vs[i]? = some v:=by
   unfold start at h2
   rw [List.getElem?_append_left (by simpa using hi),Θg] at h2
   cases e:vs[i]? with
   | none=>rw [e] at h2; cases h2
   | some a=>rw [e] at h2; cases h2; rfl
  obtain ⟨u,hu,rv⟩:=r.get ha
  have hp:ps[i]? = some y:=by
   rw [<-S.pre,List.getElem?_take_of_lt (by omega)]; exact h1
  have ndP:ps.Nodup:=by rw [<-S.pre]; exact S.nd.sublist (List.take_sublist _ _)
  refine ⟨u,rv,?_⟩
  rcases S.par y (Θe hp) with k | k
  ·exact .inl ⟨k,Fi ndP hp hu k⟩
  ·obtain ⟨c,e⟩:=Jd (n:=s.heap.objs.size + 1) k
   refine .inr ⟨.inl k,c,e,?_⟩
   have q:=x.cell y c e
   rw [Fg ndP hp hu (by show scope.names.lookup y≠_; rw [k]; decide)] at q
   exact q
 ·exact e0.hok.fresh (Nat.le_of_lt (x.above y c (PySem.mem_of_lookup h)))
 ·unfold start
  show _=N.length
  rw [Zv_,Θl,List.length_replicate]
  omega
theorem Aaw {CX:CXT} {P:Program} {w:World} {K:Θf} {mg:Str->Option Value} {base:Heap} {k:Nat} {f:Addr} {name qual:Str} {params:Arguments} {body:List Stmt} {scope:Scope} {dV kV doc pm cdv ct oc:Value} {an od:Option Addr}
  {osl:Array (Option Value)} {N ps:List Str} {sp:Sp} (lk:K.lookup f=some ⟨oc,od,.func (PySem.W.fnOf name qual params body scope dV kV doc pm an cdv ct),osl⟩) (hcd:PySem.W.codeIn K cdv qual=true) (S:FnScope N ps scope)
  (len:∀vs H Q E,sp vs H Q E->vs.length=ps.length)
  (hbody:∀(A:Around) (outer:List Env) (s:Shared) (H:Hp) (vs:List V) (Q:VK) (E:XK),Room k (A.deeper (envOfC qual scope s.heap.objs.size f cdv))->sp vs H Q E->
   ∃t,PSs (Gq CX P w K mg base N qual scope f cdv A outer s H E) body t/\t { nx:=fun _ H'=>Q .non H',rt:=Q } (start N vs) H) :
  FnOk P w K mg base CX (k + 1) f (PySem.W.fnOf name qual params body scope dV kV doc pm an cdv ct) ps sp:=by
 refine ⟨len,fun A outer s H args us vs Q E hr e0 hb r hsp=>?_⟩
 have hl:=len _ _ _ _ hsp
 have KX:K.In s.heap:=e0.mod.kin.keeps fun b o e=>(e0.bs b o e).1
 have lim:s.heap.NoLimit:=e0.mod.nolimit.keeps fun b o e=>(e0.bs b o e).1
 have hkind:∀y∈ps.zip us,scope.names.lookup y.1=some .local\/(scope.names.lookup y.1=some .cell/\((cellsFrom (s.heap.objs.size + 1) scope.names []).lookup y.1).isSome=true):=fun ⟨n,v⟩ hy=>by
  rcases S.par n (List.of_mem_zip hy).1 with q | q
  ·exact .inl q
  ·exact .inr ⟨q,PySem.W.cellsFrom_some _ _ _ (.inl q)⟩
 refine codeAny_call_function hr.depth (KX _ _ lk) rfl S.co S.gen rfl (PySem.W.codeRec_of KX hcd) (hb _ _ _ _ ?_)
 refine wpAny_newFunctionEnv_cells S.kind hkind fun env he s1 x=>?_
 subst he
 refine ⟨lim.keeps x.toInCall.keep,codeAny_func ?_⟩
 obtain ⟨t,ht,hq⟩:=hbody A outer s H vs Q E (hr.deeper _) hsp
 have I:Inv (Gq CX P w K mg base N qual scope f cdv A outer s H E) [] (start N vs) H s1:=Qj S hr.hd e0 hl r x
 refine wpAny_mono (ht [] s1 (start N vs) H _ I hq) (fun fl s' hs=>?_) fun e s' hs=>hs
 have fin:∀{σ':St} {H':Hp} {v:V} {u:Value},Inv (Gq CX P w K mg base N qual scope f cdv A outer s H E) [] σ' H' s'->RelV v u->Q v H'->CE outer P w H s Q u s':=
  fun {σ' H' v u} J rv q=>⟨v,H',J.os,J.bare,J.base,J.hok,rv,q⟩
 cases fl with
 | ret u=>
  obtain ⟨v,σ',H',J,rv,q⟩:=hs
  exact fin J rv q
 | next=>
  obtain ⟨σ',H',J,q⟩:=hs
  exact fin (v:=V.non) (u:=Value.none) J rfl q
 | brk=>
  obtain ⟨_,_,_,q⟩:=hs
  exact False.elim q
 | cont=>
  obtain ⟨_,_,_,q⟩:=hs
  exact False.elim q
section
variable {X:Cx} {x:Str} {p pos:Pos} {e:Expr} {es:List Expr} {t:TA} {id T:String} {r:List V->Hp->VK->Prop}
noncomputable def tCB (r:List V->Hp->VK->Prop) (t:TA):TE:=fun σ H Q=>t σ H fun vs H1=>r vs H1 Q
theorem F2 (hc:P3 X (.builtin id) r) (hg:Gl X x) (hm:X.mg x=none) (hv:bootBuiltins x=some (.builtin id)) (ha:PA X (e :: es) t) (hn:x≠"__name__":=by decide) (hdb:(x == ("__debug__":Str))=false:=by decide)
  (he:starEach (e :: es) X.env=(false,eval e X.env) :: starEach es X.env:=by rfl) (hpl:(backTo pos (starEach es X.env)).any (·.1)=false:=by rfl):PE X (.Call (.Name x p) (e :: es) [] pos) (tCB r t):=by
 intro pins s σ H Q I h
 refine wpAny_Call_Name_kw (Eb I hg hm hv ?_ hn hdb)
 exact PyProof.Rows.callWith_builtin1 (thn (ha pos pins s σ H _ I h) fun us s1 ⟨vs,H1,I1,r1,q1⟩=>hc pins s1 σ H1 vs us Q I1 r1 q1) he hpl
theorem E5 (hc:P3 X (.type T) r) (hg:Gl X x) (hm:X.mg x=none) (hv:bootBuiltins x=some (.type T)) (ha:PA X (e :: es) t) (hn:x≠"__name__":=by decide) (hdb:(x == ("__debug__":Str))=false:=by decide)
  (he:starEach (e :: es) X.env=(false,eval e X.env) :: starEach es X.env:=by rfl) (hpl:(backTo pos (starEach es X.env)).any (·.1)=false:=by rfl):PE X (.Call (.Name x p) (e :: es) [] pos) (tCB r t):=by
 intro pins s σ H Q I h
 refine wpAny_Call_Name_kw (Eb I hg hm hv ?_ hn hdb)
 exact PyProof.Rows.callWith_type1 (thn (ha pos pins s σ H _ I h) fun us s1 ⟨vs,H1,I1,r1,q1⟩=>hc pins s1 σ H1 vs us Q I1 r1 q1) he hpl
end
end L2
namespace HT
open PySem PyProof.Rows
section
open PySem.SeqAt
open PySem.AutoSeq1 (wpAny_loadPart')
open PySem.MeetsSeq PySem.MeetsSeq2 PySem.MeetsSeq3
end
section
variable {prog:Program} {w:World} {A:Around} {E:Value->Shared->Prop} {s:Shared}
noncomputable def sIx (n d:Nat):Option Int->Nat
 | none=>d
 | some v=>if v < 0 then (v + (n:Int)).toNat else min v.toNat n
theorem sIx_none (n d:Nat):sIx n d none=d:=rfl
theorem sIx_nat (n d k:Nat):sIx n d (some (k:Int))=min k n:=by
 show (if (k:Int) < 0 then ((k:Int) + (n:Int)).toNat else min (k:Int).toNat n)=min k n
 rw [if_neg (by omega),Int.toNat_natCast]
end
end HT
namespace L2
open PySem PySem.Spec PyProof.Rows
noncomputable abbrev TO:=St->Hp->(Option Int->Hp->Prop)->Prop
noncomputable def PO (X:Cx) (e:Option Expr) (t:TO):Prop:=
 ∀(pins:List (Addr × Obj)) (s:Shared) (σ:St) (H:Hp) (Q:Option Int->Hp->Prop),Inv X pins σ H s->t σ H Q->
  wpAny (model X.prog X.w) X.A (evalPart e X.env) (fun u s'=>∃o H',Inv X pins σ H' s'/\IsPart u o/\Q o H') X.xe s
noncomputable def Aaf:TO:=fun _ H Q=>Q none H
noncomputable def Aek (t:TE):TO:=fun σ H Q=>t σ H fun x H1=>∃i,x = .int i/\Q (some i) H1
theorem P6 {ns:List Int}:∀{us:List Value},Vals (ns.map V.int) us->IntsAre us ns:=by
 induction ns with
 | nil=>intro us r; rw [List.map_nil] at r; cases r; exact .nil
 | cons n ns ih=>
  intro us r
  rw [List.map_cons] at r
  cases r with
  | cons r1 r2=>
   obtain ⟨t,e⟩:=r1
   subst e
   exact .cons n t (ih r2)
section
variable {X:Cx} {e:Expr} {te:TE} {lo hi:Option Expr} {tl th:TO} {pos p2:Pos}
theorem Q2:PO X none Aaf:=by
 intro pins s σ H Q I h
 rw [evalPart_none]
 exact Zb_ ⟨none,H,I,.none,h⟩
theorem Q3 (h:PE X e te):PO X (some e) (Aek te):=by
 intro pins s σ H Q I hw
 rw [evalPart_some]
 refine thn (h pins s σ H _ I hw) fun u s1 ⟨x,H1,I1,r1,q1⟩=>?_
 obtain ⟨i,rfl,q⟩:=q1
 obtain ⟨t,rfl⟩:=r1
 exact ⟨some i,H1,I1,.int i t,q⟩
noncomputable def SlR (X:Cx) (r:V->Option Int->Option Int->Hp->VK->Prop):Prop:=
 ∀(pins:List (Addr × Obj)) (s:Shared) (σ:St) (H:Hp) (x:V) (v vl vu:Value) (lo hi:Option Int) (sl:Addr) (Q:VK),Inv X pins σ H s->RelV x v->s.heap.IsSliceOf sl vl vu .none->IsPart vl lo->IsPart vu hi->r x lo hi H Q->
  ∃T id,typeLookup (.type T) "__getitem__" = pure (some (.builtin id))/\s.TypeIs v T/\wpAny (model X.prog X.w) X.A (getItem v (.ref sl)) (EP X pins σ Q) X.xe s
noncomputable def tSl (r:V->Option Int->Option Int->Hp->VK->Prop) (te:TE) (tl th:TO):TE:=fun σ H Q=>te σ H fun x H1=>tl σ H1 fun l H2=>th σ H2 fun u H3=>r x l u H3 Q
theorem O1 {r:V->Option Int->Option Int->Hp->VK->Prop} (hr:SlR X r) (he:PE X e te) (hl:PO X lo tl) (hu:PO X hi th):PE X (.Subscript e (.Slice lo hi none p2) pos) (tSl r te tl th):=by
 intro pins s σ H Q I h
 refine Subscript_ (thn (he pins s σ H _ I h) fun v s1 ⟨x,H1,I1,r1,q1⟩=>?_)
 refine wpAny_Slice (thn (hl pins s1 σ H1 _ I1 q1) fun vl s2 ⟨l,H2,I2,pl,q2⟩=>thn (hu pins s2 σ H2 _ I2 q2) fun vu s3 ⟨u,H3,I3,pu,q3⟩=>?_)
 rw [evalPart_none]
 refine Zb_ ?_
 have I4:Inv X pins σ H3 { s3 with heap:=s3.heap.push { cls:=.type "slice",data:=.fields #[vl,vu,.none] } }:=I3.kept (t':=s3.toks) fun b ob q=>Zc_ _ q
 obtain ⟨T,id,hT,ht,hg⟩:=hr pins { s3 with heap:=s3.heap.push { cls:=.type "slice",data:=.fields #[vl,vu,.none] } } σ H3 x v vl vu l u s3.heap.objs.size Q I4 r1 (Heap.IsSliceOf.new ..) pl pu q3
 show wpAny (model X.prog X.w) X.A (subscriptTail e (.Slice lo hi none p2) v (.ref s3.heap.objs.size)) (EP X pins σ Q) X.xe { s3 with heap:=s3.heap.push { cls:=.type "slice",data:=.fields #[vl,vu,.none] } }
 exact tail_any (ops:=[.ref s3.heap.objs.size,v]) ht hT hg (by with_unfolding_all rfl)
noncomputable def Fa (xs:List V) (lo hi:Option Int):List V:=(xs.drop (HT.sIx xs.length 0 lo)).take (HT.sIx xs.length xs.length hi - HT.sIx xs.length 0 lo)
theorem Jh (xs:List V) (lo hi:Option Int):(Fa xs lo hi).length<=xs.length:=by
 unfold Fa
 rw [ZB,List.length_drop]
 omega
end
noncomputable def ixN (n:Nat) (i:Int):Option Nat:=if 0<=i then (if i < n then some i.toNat else none) else if -(n:Int)<=i then some (i + n).toNat else none
noncomputable def atI {α:Type} (xs:List α) (i:Int):Option α:=(ixN xs.length i).bind fun j=>xs[j]?
theorem Ny {n:Nat} {i:Int} {j:Nat} (h:ixN n i=some j):seqIndex? i n=some j/\j < n/\-(n:Int)<=i/\i < n:=by
 unfold ixN at h
 by_cases h0:0<=i
 ·rw [if_pos h0] at h
  by_cases h1:i < n
  ·rw [if_pos h1] at h
   have e:i.toNat=j:=Θo h
   exact ⟨by rw [seqIndex_of h0 h1,e],by omega,by omega,h1⟩
  ·rw [if_neg h1] at h; cases h
 ·rw [if_neg h0] at h
  by_cases h1:-(n:Int)<=i
  ·rw [if_pos h1] at h
   have e:(i + n).toNat=j:=Θo h
   exact ⟨by rw [seqIndex_neg (by omega) h1,e],by omega,h1,by omega⟩
  ·rw [if_neg h1] at h; cases h
theorem Nh {α:Type} {xs:List α} {i:Int} {v:α} (h:atI xs i=some v):∃j,seqIndex? i xs.length=some j/\xs[j]? = some v/\j < xs.length/\-(xs.length:Int)<=i/\i < xs.length:=by
 unfold atI at h
 cases e:ixN xs.length i with
 | none=>rw [e] at h; cases h
 | some j=>
  rw [e] at h
  obtain ⟨h1,h2,h3,h4⟩:=Ny e
  exact ⟨j,h1,h,h2,h3,h4⟩
theorem C4 {α:Type} {xs:List α} {j:Nat} {v:α} (h:xs[j]? = some v):atI xs (j:Int)=some v:=by
 have hj:j < xs.length:=(Ze_.mp h).1
 have e:ixN xs.length (j:Int)=some j:=by
  unfold ixN
  rw [if_pos (by omega),if_pos (by omega)]; simp
 unfold atI; rw [e]; exact h
noncomputable def Xw (b:Expr):Prop:=∀o i,subscripted b false o i=operate [o,i] (getItem o i)
noncomputable def IxR (X:Cx) (r:R2):Prop:=
 ∀(value slice:Expr) (pins:List (Addr × Obj)) (s:Shared) (σ:St) (H:Hp) (x y:V) (v u:Value) (Q:VK),Inv X pins σ H s->RelV x v->RelV y u->r x y H Q->
  subscripted slice false v u=operate [v,u] (getItem v u)->wpAny (model X.prog X.w) X.A (subscriptTail value slice v u) (EP X pins σ Q) X.xe s
noncomputable def MtR (X:Cx) (id:String) (r:V->List V->Hp->VK->Prop):Prop:=
 ∀(pins:List (Addr × Obj)) (s:Shared) (σ:St) (H:Hp) (x:V) (xs:List V) (v:Value) (us:List Value) (Q:VK),Inv X pins σ H s->RelV x v->Vals xs us->r x xs H Q->
  wpAny (model X.prog X.w) X.A (call (.builtin id) (v :: us)) (EP X pins σ Q) X.xe s
section
variable {X:Cx} {a b:Expr} {ta tb:TE} {pos:Pos}
theorem D7 {r:R2} (hr:IxR X r) (ha:PE X a ta) (hb:PE X b tb) (hs:Xw b):PE X (.Subscript a b pos) (tOp r ta tb):=by
 intro pins s σ H Q I h
 exact Subscript_ (Abe ha hb I h fun v u s2 x y H2 I2 rx ry q=>hr a b pins s2 σ H2 x y v u Q I2 rx ry q (hs _ _))
noncomputable def Zp (K:Θf):R2:=fun x y H Q=>∃p xs i v,x = .ref p/\y = .int i/\SqL K H p xs/\atI xs i=some v/\Q v H
noncomputable def Ad5 (K:Θf):R2:=fun x y H Q=>∃p xs i v,x = .ref p/\y = .int i/\SqT K H p xs/\atI xs i=some v/\Q v H
theorem Yf:IxR X (Zp X.K):=by
 intro value slice pins s σ H x y v u Q I rx ry h hs
 obtain ⟨p,xs,i,z,rfl,rfl,hq,he,q⟩:=h
 cases rx
 obtain ⟨t,rfl⟩:=ry
 obtain ⟨its,r,pl,hz⟩:=I.list hq
 obtain ⟨j,h1,h2,h3,h4,h5⟩:=Nh he
 obtain ⟨w,ew,rw'⟩:=r.get h2
 have hl:=r.length
 have hn:=Hc
 have fin:EP X pins σ Q w s:=⟨z,H,I,rw',q⟩
 by_cases h0:0<=i
 ·have hj:i.toNat=j:=by
   rw [seqIndex_of h0 h5] at h1
   exact Θo h1
  exact item_listR pl.isList h0 (by omega) (by rw [hj]; simpa using ew) fin hs
 ·have hj:(i + (its.toArray.size:Int)).toNat=j:=by
   rw [seqIndex_neg (by omega) h4] at h1
   rw [Zx_,<-hl]
   exact Θo h1
  exact subscriptTail_builtinR (x:=w) pl.isList.typeIs slot_list_getitem.lookup
   (wpAny_getItem_list_neg (Q:=fun r s'=>r=w/\EP X pins σ Q r s') pl.isList (by omega) (by rw [List.size_toArray] <;> omega) (by omega) (by rw [hj]; simpa using ew) ⟨rfl,fin⟩) hs
theorem Abs:IxR X (Ad5 X.K):=by
 intro value slice pins s σ H x y v u Q I rx ry h hs
 obtain ⟨p,xs,i,z,rfl,rfl,hq,he,q⟩:=h
 cases rx
 obtain ⟨t,rfl⟩:=ry
 obtain ⟨its,r,pl,hz⟩:=I.tuple hq
 obtain ⟨j,h1,h2,h3,h4,h5⟩:=Nh he
 obtain ⟨w,ew,rw'⟩:=r.get h2
 have hl:=r.length
 have hn:=Hc
 have fin:EP X pins σ Q w s:=⟨z,H,I,rw',q⟩
 exact subscriptTail_builtinR (x:=w) pl.typeIs slot_tuple_getitem.lookup
  (getItem_tuple (j:=j) (Q:=fun r s'=>r=w/\EP X pins σ Q r s') pl (by omega) (by omega) (by rw [List.size_toArray,<-hl]; exact h1) (by simpa using ew) ⟨rfl,fin⟩) hs
theorem Lv (its:List Value) (n j:Nat) (u:Value):Obj.mapSeq (·.setIfInBounds j u) { cls:=.type "list",data:=.seq its.toArray n }={ cls:=.type "list",data:=.seq (its.set j u).toArray n }:=by
 simp [Obj.mapSeq]
theorem Inv.lst {pins:List (Addr × Obj)} {σ:St} {H:Hp} {s:Shared} {p:Addr} {xs:List V} (I:Inv X pins σ H s) (h:H p=some (.lst xs)) :
  ∃(its:List Value) (n:Nat),Vals xs its/\s.heap.get? p=some { cls:=.type "list",data:=.seq its.toArray n }/\xs.length<=sizeLine:=by
 obtain ⟨z,its,n,r,e⟩:=I.hok p _ h
 exact ⟨its,n,r,e,z⟩
theorem Inv.lstUpd {pins:List (Addr × Obj)} {σ:St} {H:Hp} {s:Shared} {p:Addr} {xs ys:List V} {its its':List Value} {n n':Nat} {f:Obj->Obj} (I:Inv X pins σ H s) (h:H p=some (.lst xs))
  (ho:s.heap.get? p=some { cls:=.type "list",data:=.seq its.toArray n }) (hf:f { cls:=.type "list",data:=.seq its.toArray n }={ cls:=.type "list",data:=.seq its'.toArray n' }) (r:Vals ys its') (hz:ys.length<=sizeLine) (t:Nat) :
  Inv X pins σ (upd H p (.lst ys)) { s with heap:=s.heap.update p f,toks:=t }:=by
 have e:(s.heap.update p f).get? p=some { cls:=.type "list",data:=.seq its'.toArray n' }:=by
  rw [Heap.get?_update_self f ho (by rw [hf] <;> rfl),hf]
 refine I.write (x:=p) (e:=p) (by rw [h]; trivial) (.inl rfl) (fun b u hb q=>(Heap.get?_update_other _ _ (Ne.symm hb)).trans q) ⟨_,e⟩ ?_
 exact ⟨hz,its',n',r,e⟩
noncomputable def Ad7:V->V->V->Hp->(Hp->Prop)->Prop:=fun o i v H Q=>∃p xs k j,o = .ref p/\i = .int k/\H p=some (.lst xs)/\ixN xs.length k=some j/\Q (upd H p (.lst (xs.set j v)))
theorem Kk:Adk X Ad7:=by
 intro pins s σ H o i v ov iv u Q I ro ri rv h
 obtain ⟨p,xs,k,j,rfl,rfl,hp,hj,q⟩:=h
 cases ro
 obtain ⟨t,rfl⟩:=ri
 obtain ⟨its,n,r,ho,hz⟩:=I.lst hp
 obtain ⟨h1,h2,h3,h4⟩:=Ny hj
 have hl:=r.length
 have hn:=Hc
 have I':Inv X pins σ (upd H p (.lst (xs.set j v))) { s with heap:=s.heap.update p (Obj.mapSeq (·.setIfInBounds j u)) }:=
  I.lstUpd hp ho (Lv its n j u) (r.set rv j) (by rw [List.length_set]; exact hz) s.toks
 by_cases h0:0<=k
 ·have hk:k.toNat=j:=by
   rw [seqIndex_of h0 h4] at h1
   exact Θo h1
  exact PySem.W.ki_setAt ho h0 (by omega) (by rw [Zx_,<-hl]; exact h4) (by rw [hk]; exact ⟨_,I',q⟩)
 ·have hk:(k + (its.toArray.size:Int)).toNat=j:=by
   rw [seqIndex_neg (by omega) h3] at h1
   rw [Zx_,<-hl]
   exact Θo h1
  exact PySem.W.ki_setBack ho (by omega) (by rw [Zx_,<-hl]; exact h3) (by omega) (by rw [hk]; exact ⟨_,I',q⟩)
theorem Ih (lo hi:Option Int) (n:Nat):(sliceBounds lo hi none n).1=((HT.sIx n 0 lo:Nat):Int)/\(sliceBounds lo hi none n).2.1=((HT.sIx n n hi:Nat):Int)/\(sliceBounds lo hi none n).2.2=1:=by
 refine ⟨?_,?_,rfl⟩
 ·cases lo with
  | none=>simp [sliceBounds,HT.sIx]
  | some i=>
   simp only [sliceBounds,HT.sIx,Option.getD_none,show (1:Int) > 0 by decide,if_true]
   by_cases h:i < 0
   ·simp only [h,if_true] <;> omega
   ·simp only [h,if_false] <;> omega
 ·cases hi with
  | none=>simp [sliceBounds,HT.sIx]
  | some i=>
   simp only [sliceBounds,HT.sIx,Option.getD_none,show (1:Int) > 0 by decide,if_true]
   by_cases h:i < 0
   ·simp only [h,if_true] <;> omega
   ·simp only [h,if_false] <;> omega
theorem Fe (its:List Value) (lo hi:Option Int):slicePick its.toArray lo hi none=((its.drop (HT.sIx its.length 0 lo)).take (HT.sIx its.length its.length hi - HT.sIx its.length 0 lo)).toArray:=by
 obtain ⟨h1,h2,h3⟩:=Ih lo hi its.toArray.size
 unfold slicePick
 rw [h1,h2,h3]
 simp only [sliceRange_one,pick_run,List.size_toArray] <;> rfl
noncomputable def Aex (K:Θf):V->Option Int->Option Int->Hp->VK->Prop:=fun x lo hi H Q=>∃a xs,x = .ref a/\SqL K H a xs/\∀p,H p=none->Q (.ref p) (upd H p (.lst (Fa xs lo hi)))
theorem Q5:SlR X (Aex X.K):=by
 intro pins s σ H x v vl vu lo hi sl Q I rx hs pl pu h
 obtain ⟨a,xs,rfl,hx,q⟩:=h
 cases rx
 obtain ⟨its,r,ht,hz⟩:=I.list hx
 have hlen:=r.length
 refine ⟨"list",_,slot_list_getitem.lookup,ht.isList.typeIs,?_⟩
 refine wpAny_getItem_list_slice ht.isList hs pl pu .none (by simp) ?_ (by rw [List.size_toArray] <;> omega)
 rw [Fe,<-hlen]
 refine ⟨.ref s.heap.objs.size,_,I.laid (t':=s.toks) (o:=.lst (Fa xs lo hi)) (fun b ob q=>Zc_ _ q) (Zd_ _) ?_,rfl,q _ (I.hok.fresh (Zd_ _))⟩
 exact ⟨Zo_ (Jh xs lo hi) hz,_,0,(r.drop (HT.sIx xs.length 0 lo)).take (HT.sIx xs.length xs.length hi - HT.sIx xs.length 0 lo),Zm_ _ rfl⟩
noncomputable def Aav:V->Bool
 | .non=>true
 | .bl _=>true
 | .int _=>true
 | .str _=>true
 | _=>false
noncomputable def eqV:V->V->Bool
 | .non,.non=>true
 | .bl a,.bl b=>a == b
 | .bl a,.int b=>(if a then 1 else 0) == b
 | .int a,.bl b=>a == (if b then 1 else 0)
 | .int a,.int b=>a == b
 | .str a,.str b=>a == b
 | _,_=>false
theorem Abm {A:Around} {s:Shared} {y x:V} {u v:Value} (ry:RelV y u) (rx:RelV x v) (fy:Aav y=true) (fx:Aav x=true):SeqAt.EqAt A s u v (eqV y x):=by
 cases y with
 | non=>
  cases ry
  cases x with
  | non=>cases rx; exact SeqAt.EqAt.same _
  | bl b=>cases rx; exact SeqAt.EqAt.none_bool b
  | int b=>obtain ⟨t,rfl⟩:=rx; exact SeqAt.EqAt.none_int b t
  | str b=>obtain ⟨t,rfl⟩:=rx; exact SeqAt.EqAt.none_str b t
  | _=>exact absurd (show false=true from fx) Zf_
 | bl a=>
  cases ry
  cases x with
  | non=>cases rx; exact SeqAt.EqAt.bool_none a
  | bl b=>cases rx; exact SeqAt.EqAt.bool_bool a b
  | int b=>obtain ⟨t,rfl⟩:=rx; exact SeqAt.EqAt.bool_int a b t
  | str b=>obtain ⟨t,rfl⟩:=rx; exact SeqAt.EqAt.bool_str a b t
  | _=>exact absurd (show false=true from fx) Zf_
 | int a=>
  obtain ⟨t',rfl⟩:=ry
  cases x with
  | non=>cases rx; exact SeqAt.EqAt.int_none a t'
  | bl b=>cases rx; exact SeqAt.EqAt.int_bool a t' b
  | int b=>obtain ⟨t,rfl⟩:=rx; exact SeqAt.EqAt.int_int a t' b t
  | str b=>obtain ⟨t,rfl⟩:=rx; exact SeqAt.EqAt.int_str a t' b t
  | _=>exact absurd (show false=true from fx) Zf_
 | str a=>
  obtain ⟨t',rfl⟩:=ry
  cases x with
  | non=>cases rx; exact SeqAt.EqAt.str_none a t'
  | bl b=>cases rx; exact SeqAt.EqAt.str_bool a t' b
  | int b=>obtain ⟨t,rfl⟩:=rx; exact SeqAt.EqAt.str_int a t' b t
  | str b=>obtain ⟨t,rfl⟩:=rx; exact SeqAt.EqAt.str_str a t' b t
  | _=>exact absurd (show false=true from fx) Zf_
 | _=>exact absurd (show false=true from fy) Zf_
theorem Gk:P3 X (.builtin "len") (fun xs H Q=>∃p ys,xs=[.ref p]/\(SqL X.K H p ys\/SqT X.K H p ys)/\Q (.int ys.length) H):=by
 intro pins s σ H xs us Q I r h
 obtain ⟨p,ys,rfl,hq,q⟩:=h
 obtain ⟨u,rfl,rx⟩:=W0 r
 cases rx
 have hn:=Hc
 rcases hq with hq | hq
 ·obtain ⟨its,r',pl,hz⟩:=I.list hq
  have hlen:=r'.length
  exact Calls.call_len_list pl.isList (by simp only [List.size_toArray] <;> omega) ⟨.int ys.length,H,I.tok _,⟨s.toks + 1,by rw [List.size_toArray,hlen]⟩,q⟩
 ·obtain ⟨its,r',pl,hz⟩:=I.tuple hq
  have hlen:=r'.length
  exact len_tuple pl (by simp only [List.size_toArray] <;> omega) ⟨.int ys.length,H,I.tok _,⟨s.toks + 1,by rw [List.size_toArray,hlen]⟩,q⟩
theorem Gm:P3 X (.type "list") (fun xs H Q=>∃p ys,xs=[.ref p]/\(SqL X.K H p ys\/SqT X.K H p ys)/\∀l,H l=none->Q (.ref l) (upd H l (.lst ys))):=by
 intro pins s σ H xs us Q I r h
 obtain ⟨p,ys,rfl,hq,q⟩:=h
 obtain ⟨u,rfl,rx⟩:=W0 r
 cases rx
 have fin:∀(its:List Value),Vals ys its->ys.length<=sizeLine->∀(h':Heap) (c':Nat),(∀b o',s.heap.get? b=some o'->h'.get? b=some o')->
   h'.get? s.heap.objs.size=some { cls:=.type "list",dict:=none,data:=.seq its.toArray c',slots:=#[] }->EP X pins σ Q (.ref s.heap.objs.size) { s with heap:=h' }:=fun its r' hz h' c' kp e=>
  ⟨.ref s.heap.objs.size,_,I.laid (t':=s.toks) kp (Zd_ _) (show ObjOk X.prog X.w _ h' _ (.lst ys) from ⟨hz,its,c',r',e⟩),rfl,q _ (I.hok.fresh (Zd_ _))⟩
 rcases hq with hq | hq
 ·obtain ⟨its,r',pl,hz⟩:=I.list hq
  have hlen:=r'.length
  obtain ⟨o,ho,hc,n,hd⟩:=pl.isList
  exact call_list_seq p (.inl rfl) ho hc hd (fun h' c' kp e=>fin its r' hz h' c' kp e) (by simp only [List.size_toArray] <;> omega)
 ·obtain ⟨its,r',pl,hz⟩:=I.tuple hq
  have hlen:=r'.length
  obtain ⟨o,ho,hc,n,hd⟩:=pl
  exact call_list_seq p (.inr rfl) ho hc hd (fun h' c' kp e=>fin its r' hz h' c' kp e) (by simp only [List.size_toArray] <;> omega)
theorem Ez:P3 X (.type "tuple") (fun xs H Q=>∃p ys,xs=[.ref p]/\((SqL X.K H p ys/\∀l,H l=none->Q (.ref l) (upd H l (.tup ys)))\/(SqT X.K H p ys/\Q (.ref p) H))):=by
 intro pins s σ H xs us Q I r h
 obtain ⟨p,ys,rfl,h⟩:=h
 obtain ⟨u,rfl,rx⟩:=W0 r
 cases rx
 rcases h with ⟨hq,q⟩ | ⟨hq,q⟩
 ·obtain ⟨its,r',pl,hz⟩:=I.list hq
  have hlen:=r'.length
  refine call_tuple_list pl.isList (fun h' kp=>?_) (by simp only [List.size_toArray] <;> omega)
  have I1:Inv X pins σ H { s with heap:=h' }:=I.kept (t':=s.toks) kp
  have I2:Inv X pins σ (upd H h'.objs.size (.tup ys)) { s with heap:=h'.push { cls:=.type "tuple",data:=.seq its.toArray } }:=
   I1.laid (t':=s.toks) (fun b o e=>Zc_ _ e) (Zd_ _) (show ObjOk X.prog X.w _ _ _ (.tup ys) from ⟨hz,its,r',IsTup.new _ _⟩)
  exact ⟨.ref h'.objs.size,_,I2,rfl,q _ (I1.hok.fresh (Zd_ _))⟩
 ·obtain ⟨its,r',pl,hz⟩:=I.tuple hq
  exact call_tuple_same pl ⟨.ref p,H,I,rfl,q⟩
noncomputable def tyV (K:Θf) (T:String) (x:V) (H:Hp):Prop:=match x with
 | .str _=>T = "str"
 | .int _=>T = "int"
 | .ref p=>(T = "list"/\∃xs,SqL K H p xs)\/(T = "tuple"/\∃o,K.lookup p=some o/\o.cls = .type "tuple"/\o.dict=none)\/
   (T = "dict"/\((∃kvs,H p=some (.dK kvs))\/∃kvs,H p=some (.dT kvs)))\/(T = "set"/\∃S n,H p=some (.set S n))
 | _=>False
theorem Xk {pins:List (Addr × Obj)} {σ:St} {H:Hp} {s:Shared} {T:String} {x:V} {v:Value} (I:Inv X pins σ H s) (r:RelV x v) (ty:tyV X.K T x H) :
  s.TypeIs v T/\∀a,v = .ref a->∃ob,s.heap.get? a=some ob/\ob.dict=none:=by
 cases x with
 | str z=>
  obtain ⟨t,rfl⟩:=r
  cases (show T = "str" from ty)
  exact ⟨typeIs_str s z t,fun _ e=>nomatch e⟩
 | int i=>
  obtain ⟨t,rfl⟩:=r
  cases (show T = "int" from ty)
  exact ⟨typeIs_int s i t,fun _ e=>nomatch e⟩
 | ref p=>
  cases r
  rcases ty with ⟨rfl,xs,hq⟩ | ⟨rfl,o,hk,hc,hd⟩ | ⟨rfl,hk⟩ | ⟨rfl,S,n,hk⟩
  ·obtain ⟨its,_,pl,_⟩:=I.list hq
   refine ⟨pl.isList.typeIs,fun a e=>?_⟩
   cases e
   obtain ⟨o,n,e,c,hd,_⟩:=pl
   exact ⟨o,e,hd⟩
  ·refine ⟨⟨o,I.kIn p o hk,hc⟩,fun a e=>?_⟩
   cases e
   exact ⟨o,I.kIn _ o hk,hd⟩
  ·have z:∃o,s.heap.get? p=some o/\o.ExactDict:=by
    rcases hk with ⟨kvs,hk⟩ | ⟨kvs,hk⟩
    ·obtain ⟨_,_,_,_,o,_,_,e,ex,_⟩:=I.hok p _ hk
     exact ⟨o,e,ex⟩
    ·obtain ⟨_,_,_,_,o,_,_,e,ex,_⟩:=I.hok p _ hk
     exact ⟨o,e,ex⟩
   obtain ⟨o,e,ex⟩:=z
   refine ⟨⟨o,e,ex.1⟩,fun a e2=>?_⟩
   cases e2
   exact ⟨o,e,ex.2.1⟩
  ·obtain ⟨o,_,_,_,e,ex,_⟩:=I.hok p _ hk
   refine ⟨⟨o,e,ex.1⟩,fun a e2=>?_⟩
   cases e2
   exact ⟨o,e,ex.2.1⟩
 | _=>exact False.elim ty
noncomputable def Ae1 (K:Θf) (T:String) (r:V->List V->Hp->VK->Prop) (to:TE):TE:=fun σ H Q=>to σ H fun x H1=>tyV K T x H1/\r x [] H1 Q
noncomputable def tBM (K:Θf) (T:String) (r:V->List V->Hp->VK->Prop) (to:TE) (t:TA):TE:=fun σ H Q=>to σ H fun x H1=>tyV K T x H1/\t σ H1 fun xs H2=>r x xs H2 Q
variable {o e:Expr} {es:List Expr} {to:TE} {t:TA} {name:Str} {apos cpos:Pos} {T id:String} {r:V->List V->Hp->VK->Prop}
theorem Vh (pa:PlainAttrs T) (slot:Slot T name id) (hty:typeOf (.builtin id)=pure (.type "method_descriptor")) (hm:MtR X id r) (ho:PE X o to)
  (hbase:attributeBase o name X.env (eval o X.env)=eval o X.env:=by rfl) (hline:(apos.endLine == cpos.line)=true:=by rfl):PE X (.Call (.Attribute o name apos) [] [] cpos) (Ae1 X.K T r to):=by
 intro pins s σ H Q I h
 refine wpAny_Call_method0_late hbase hline (thn (ho pins s σ H _ I h) fun v s1 ⟨x,H1,I1,r1,ty,q1⟩=>?_)
 obtain ⟨h1,h2⟩:=Xk I1 r1 ty
 exact ⟨T,id,pa,slot,hty,h1,h2,Calls.callWith_builtin rfl (PySem.evalArgs_none (hm pins s1 σ H1 x [] v [] Q I1 r1 .nil q1))⟩
theorem Ah (pa:PlainAttrs T) (slot:Slot T name id) (hty:typeOf (.builtin id)=pure (.type "method_descriptor")) (hm:MtR X id r) (ho:PE X o to) (ha:PA X (e :: es) t)
  (hbase:attributeBase o name X.env (eval o X.env)=eval o X.env:=by rfl)
  (hfew:((backTo cpos (starEach (e :: es) X.env)).all (fun x=>!x.1) && (backToKw cpos (keywordEach [] X.env)).all (fun x=>x.1.isSome)
   && decide ((e :: es).length + ([]:List Keyword).length + (if ([]:List Keyword).isEmpty then 0 else 1) < 30))=true:=by rfl)
  (hline:(apos.endLine == cpos.line)=true:=by rfl) (hs:starEach (e :: es) X.env=(false,eval e X.env) :: starEach es X.env:=by rfl) (hplain:(backTo cpos (starEach es X.env)).any (·.1)=false:=by rfl) :
  PE X (.Call (.Attribute o name apos) (e :: es) [] cpos) (tBM X.K T r to t):=by
 intro pins s σ H Q I h
 refine wpAny_Call_method_late hbase hfew hline rfl (thn (ho pins s σ H _ I h) fun v s1 ⟨x,H1,I1,r1,ty,q1⟩=>?_)
 obtain ⟨h1,h2⟩:=Xk I1 r1 ty
 refine ⟨T,id,pa,slot,hty,h1,h2,?_⟩
 have hA:=ha cpos pins s1 σ H1 _ I1 q1
 rw [hs] at hA ⊢
 refine Calls.callWith_builtin (by show (false || (backTo cpos (starEach es X.env)).any (·.1))=false; rw [hplain] <;> rfl) (Calls.evalArgs_plain ?_)
 exact thn hA fun us s2 ⟨vs,H2,I2,r2,q2⟩=>hm pins s2 σ H2 x vs v us Q I2 r1 r2 q2
end
noncomputable def MtM (X:Cx) (id:String) (r:V->List V->Hp->VK->Prop):Prop:=
 ∀(pins:List (Addr × Obj)) (s:Shared) (σ:St) (H:Hp) (x:V) (xs:List V) (v:Value) (us:List Value) (Q:VK),Inv X pins σ H s->RelV x v->Vals xs us->r x xs H Q->
  wpAny (model X.prog X.w) X.A (call (.builtin id) (v :: us)) (EP X pins σ Q) X.xe s
theorem Vals.one:∀{x:V} {us:List Value},Vals [x] us->∃u,us=[u]/\RelV x u
 | _,_,.cons r .nil=>⟨_,rfl,r⟩
theorem Vals.zero:∀{us:List Value},Vals [] us->us=[]
 | _,.nil=>rfl
theorem Vals.dropLast {xs:List V} {us:List Value} (h:Vals xs us):Vals xs.dropLast us.dropLast:=by
 induction h with
 | nil=>exact .nil
 | cons r t ih=>
  cases t with
  | nil=>exact .nil
  | cons q t'=>exact .cons r ih
theorem Vals.rep {xs:List V} {us:List Value} (h:Vals xs us):∀k:Nat,Vals (List.replicate k xs).flatten (List.replicate k us).flatten
 | 0=>.nil
 | k + 1=>by
  rw [List.replicate_succ,List.replicate_succ,List.flatten_cons,List.flatten_cons]
  exact Vals.append h (Vals.rep h k)
theorem Lk {α:Type} (l:List α):l.eraseIdx (l.length - 1)=l.dropLast:=by
 induction l with
 | nil=>rfl
 | cons a r ih=>
  cases r with
  | nil=>rfl
  | cons b r=>
   have e:(a :: b :: r).length - 1=((b :: r).length - 1) + 1:=by
    have h1:(a :: b :: r).length=r.length + 2:=rfl
    have h2:(b :: r).length=r.length + 1:=rfl
    omega
   rw [e,List.eraseIdx_cons_succ,ih]
   all_goals rfl
theorem Aa (its:List Value):∀(k:Nat) (acc:List Value),
  List.foldl (fun x1 x2=>x1++x2) acc.toArray (List.replicate k its.toArray)=(acc++(List.replicate k its).flatten).toArray
 | 0,acc=>by simp
 | k + 1,acc=>by
  have e:acc.toArray++its.toArray=(acc++its).toArray:=by simp
  have e2:(acc++its)++(List.replicate k its).flatten=acc++(List.replicate (k + 1) its).flatten:=by
   rw [List.replicate_succ,List.flatten_cons,Zy_]
  rw [<-e2,<-Aa its k (acc++its),<-e,List.replicate_succ,List.foldl_cons]
section
variable {X:Cx} {pins:List (Addr × Obj)} {σ:St} {H:Hp} {s:Shared} {l b:Addr} {xs ys zs:List V}
theorem Inv.lset {its its':List Value} {n:Nat} {f:Array Value->Array Value} {t':Nat} (I:Inv X pins σ H s) (hH:H l=some (.lst xs))
  (e:s.heap.get? l=some { cls:=.type "list",data:=.seq its.toArray n }) (hf:f its.toArray=its'.toArray) (hv:Vals ys its') (hz:ys.length<=sizeLine) :
  Inv X pins σ (upd H l (.lst ys)) { s with heap:=s.heap.update l (Obj.mapSeq f),toks:=t' }:=by
 have q:=PySem.IsL.update e f
 rw [hf] at q
 refine I.write (x:=l) (e:=l) (by rw [hH]; exact trivial) (.inl rfl) (fun b' u hb hu=>(Heap.get?_update_other s.heap (Obj.mapSeq f) (Ne.symm hb)).trans hu) ⟨_,q⟩ ?_
 exact ⟨hz,its',_,hv,q⟩
theorem Inv.lnew {its:List Value} {t':Nat} (I:Inv X pins σ H s) (hv:Vals ys its) (hz:ys.length<=sizeLine) :
  Inv X pins σ (upd H s.heap.objs.size (.lst ys)) { s with heap:=s.heap.push { cls:=.type "list",data:=.seq its.toArray },toks:=t' }:=
 I.laid (fun _ _ q=>Zc_ _ q) (Zd_ _) ⟨hz,its,0,hv,Zm_ _ rfl⟩
theorem Inv.fresh (I:Inv X pins σ H s):H s.heap.objs.size=none:=I.hok.fresh (Zd_ _)
theorem Inv.lstM (I:Inv X pins σ H s) (hH:H l=some (.lst xs)):xs.length<=sizeLine/\∃(its:List Value) (n:Nat),Vals xs its/\xs.length=its.length/\s.heap.get? l=some { cls:=.type "list",data:=.seq its.toArray n }:=by
 obtain ⟨z,its,n,r,e⟩:=I.hok l _ hH
 exact ⟨z,its,n,r,r.length,e⟩
theorem Jz {n:Nat} (h:n<=sizeLine):Builtin.List.listTooLong n=false:=by
 unfold Builtin.List.listTooLong
 exact decide_eq_false (by omega)
end
section
variable {X:Cx}
noncomputable def Ho:V->List V->Hp->VK->Prop:=fun x vs H Q=>∃l xs y,x = .ref l/\vs=[y]/\H l=some (.lst xs)/\xs.length < sizeLine/\Q .non (upd H l (.lst (xs++[y])))
theorem N2:MtM X "list.append" Ho:=by
 intro pins s σ H x vs v us Q I rx rv h
 obtain ⟨l,xs,y,rfl,rfl,hH,hz,q⟩:=h
 cases rx
 obtain ⟨u,rfl,ru⟩:=rv.one
 obtain ⟨z,its,n,r,hl,e⟩:=I.lstM hH
 refine call_meets F.slot_list_append ⟨_,e,rfl⟩ F.entry_list_append (F.args_list_append_2 _ _) (PySem.list_append l its.toArray n u (by rw [Zx_]; omega)) ⟨e,?_⟩
 refine ⟨.non,_,I.lset (its':=its++[u]) hH e (by simp) (r.append (.cons ru .nil)) ?_,rfl,q⟩
 rw [Zv_,List.length_singleton]
 omega
noncomputable def Zo:V->List V->Hp->VK->Prop:=fun x vs H Q=>∃l b xs zs,x = .ref l/\vs=[.ref b]/\H l=some (.lst xs)/\H b=some (.lst zs)/\xs.length + zs.length<=sizeLine/\Q .non (upd H l (.lst (xs++zs)))
theorem Qx:MtM X "list.extend" Zo:=by
 intro pins s σ H x vs v us Q I rx rv h
 obtain ⟨l,b,xs,zs,rfl,rfl,hH,hB,hz,q⟩:=h
 cases rx
 obtain ⟨u,rfl,ru⟩:=rv.one
 cases ru
 obtain ⟨z,its,n,r,hl,e⟩:=I.lstM hH
 obtain ⟨z2,its2,n2,r2,hl2,e2⟩:=I.lstM hB
 have hsz:its.toArray.size + its2.toArray.size<=sizeLine:=by rw [Zx_,Zx_]; omega
 have hlong:¬(!its.toArray.isEmpty && Builtin.List.listTooLong (its.toArray.size + its2.toArray.size))=true:=by
  rw [Jz hsz,Bool.and_false]
  exact Zf_
 refine call_meets F.slot_list_extend ⟨_,e,rfl⟩ F.entry_list_extend (F.args_list_extend_2 _ _)
  (AutoSeq1.list_extend_list_list_0 l its.toArray n b its2.toArray n2 hlong (by rw [Zx_]; omega) (by omega)) ⟨e,e2,?_⟩
 refine ⟨.non,_,I.lset (its':=its++its2) hH e (by simp) (r.append r2) ?_,rfl,q⟩
 rw [Zv_]
 omega
noncomputable def Aev:V->List V->Hp->VK->Prop:=fun x vs H Q=>∃l xs y,x = .ref l/\vs=[]/\H l=some (.lst xs)/\xs[xs.length - 1]? = some y/\Q y (upd H l (.lst xs.dropLast))
theorem Ab0:MtM X "list.pop" Aev:=by
 intro pins s σ H x vs v us Q I rx rv h
 obtain ⟨l,xs,y,rfl,rfl,hH,hy,q⟩:=h
 cases rx
 have hus:=rv.zero
 subst hus
 obtain ⟨z,its,n,r,hl,e⟩:=I.lstM hH
 obtain ⟨u,hu,ru⟩:=r.get hy
 have hy':its.toArray[its.toArray.size - 1]? = some u:=by
  show its.toArray[its.length - 1]? = some u
  rw [<-Array.getElem?_toList,<-hl]
  exact hu
 refine call_meets F.slot_list_pop ⟨_,e,rfl⟩ F.entry_list_pop (F.args_list_pop_1 _) (MeetsSeq.list_pop_last l its.toArray n u hy' (by rw [Zx_]; omega)) ⟨e,?_⟩
 refine ⟨y,_,I.lset (its':=its.dropLast) hH e ?_ r.dropLast ?_,ru,q⟩
 ·show its.toArray.eraseIdxIfInBounds (its.toArray.size - 1)=its.dropLast.toArray
  rw [Zx_,List.eraseIdxIfInBounds_toArray,Lk]
 ·rw [List.length_dropLast]
  omega
noncomputable def Aeu:R2:=fun x y H Q=>∃l b xs zs,x = .ref l/\y = .ref b/\H l=some (.lst xs)/\H b=some (.lst zs)/\xs.length + zs.length<=sizeLine/\∀p,H p=none->Q (.ref p) (upd H p (.lst (xs++zs)))
theorem X4:OpR X (binaryOp .Add) Aeu:=by
 intro pins s σ H x y v u Q I rx ry h
 obtain ⟨l,b,xs,zs,rfl,rfl,hH,hB,hz,q⟩:=h
 cases rx
 cases ry
 obtain ⟨z,its,n,r,hl,e⟩:=I.lstM hH
 obtain ⟨z2,its2,n2,r2,hl2,e2⟩:=I.lstM hB
 refine PySem.P.add_list e e2 ?_ (by rw [Zx_,Zx_]; omega)
 have ea:its.toArray++its2.toArray=(its++its2).toArray:=by simp
 rw [ea]
 exact ⟨.ref _,_,I.lnew (t':=s.toks) (r.append r2) (by rw [Zv_]; omega),rfl,q _ I.fresh⟩
noncomputable def Aew:R2:=fun x y H Q=>∃l k xs,x = .ref l/\y = .int k/\H l=some (.lst xs)/\-(2 ^ 63)<=k/\k < 2 ^ 63/\xs.length * k.toNat<=sizeLine/\
 ∀p,H p=none->Q (.ref p) (upd H p (.lst (List.replicate k.toNat xs).flatten))
theorem Yl {α:Type} (xs:List α) (k:Nat):(List.replicate k xs).flatten.length=k * xs.length:=by
 induction k with
 | zero=>simp
 | succ k ih=>rw [List.replicate_succ,List.flatten_cons,Zv_,ih,Nat.succ_mul,Nat.add_comm]
theorem Acg:OpR X (binaryOp .Mult) Aew:=by
 intro pins s σ H x y v u Q I rx ry h
 obtain ⟨l,k,xs,rfl,rfl,hH,h1,h2,hz,q⟩:=h
 cases rx
 obtain ⟨t,rfl⟩:=ry
 obtain ⟨z,its,n,r,hl,e⟩:=I.lstM hH
 have hlen:its.toArray.size * k.toNat<=sizeLine:=by rw [Zx_,<-hl]; exact hz
 have hcap:¬its.toArray.size * k.toNat > (2 ^ 63 - 1) / 8:=by
  have:(sizeLine:Nat)<=(2 ^ 63 - 1) / 8:=by decide
  omega
 have hfit:¬(!Builtin.List.listFitsIndex k)=true:=by
  rw [fitsIndex_both h1 h2]
  exact Zf_
 have hlong:¬Builtin.List.listTooLong (its.toArray.size * k.toNat)=true:=by
  rw [Jz hlen]
  exact Zf_
 have hnew:List.foldl (fun x1 x2=>x1++x2) #[] (List.replicate (if its.toArray.isEmpty=true then 0 else k.toNat) its.toArray)=(List.replicate k.toNat its).flatten.toArray:=by
  have f0:∀m:Nat,List.foldl (fun x1 x2=>x1++x2) #[] (List.replicate m its.toArray)=(List.replicate m its).flatten.toArray:=fun m=>by
   have:=Aa its m []
   rw [List.nil_append] at this
   exact this
  rw [f0]
  cases its with
  | nil=>simp
  | cons a r'=>rw [if_neg (by simp)]
 refine wpAny_binaryOp_repeat_ref (T:="list") (U:="int") (by decide) ⟨_,e,rfl⟩ (fun s'=>typeIs_int s' k t) noFill_list_mul F.fills_int_mul F.slot_int_rmul repeat_list F.slot_int_index.lookup
  (call_meets F.slot_int_rmul (typeIs_int s k t) F.entry_int_rmul (F.args_int_rmul_2 _ _) (int___rmul___int_list k t l its.toArray n)
   ⟨e,rfl,⟨_,e,rfl⟩,call_meets F.slot_list_mul ⟨_,e,rfl⟩ F.entry_list_mul (F.args_list_mul_2 _ _) (AutoListH.list___mul___list_int_3 l its.toArray n k t hfit hcap hlong) ⟨e,?_⟩⟩)
 rw [hnew]
 exact ⟨.ref _,_,I.lnew (t':=s.toks) (r.rep k.toNat) (by rw [Yl,Nat.mul_comm]; exact hz),rfl,q _ I.fresh⟩
end
section
variable {prog:Program} {w:World} {A:Around} {E:Value->Shared->Prop} {s:Shared}
end
section
variable {X:Cx}
end
end L2
namespace Att
open PySem PySem.W PySem.Calls PyProof.Rows
theorem Cj {P:Params} {h:Heap}:∀(ns:List Int) (vs:List Value),WellAll P h vs (ns.map WData.int)->IntsAre vs ns:=by
 intro ns
 induction ns with
 | nil=>
  intro vs w
  rw [List.map_nil] at w
  cases w
  exact .nil
 | cons n ns ih=>
  intro vs w
  rw [List.map_cons] at w
  cases w with
  | cons a b=>
   cases a
   exact .cons _ _ (ih _ b)
theorem Se {l:OpenLaw} {n:Nat} (hn:l.most=some n) {P:Params} {h:Heap} {args:List WData} {vals:List Value}
  (hpre:l.row.toRowW.claim.pre args=true) (hwl:WellAll P h vals args) :
  ∃a vs ns,vals=[Value.ref a]/\args=[WData.list (ns.map WData.int)]/\h.get? a=some { cls:=.type "list",data:=.seq vs.toArray }/\IntsAre vs ns/\ns.length<=n:=by
 have hsh:WShape.hasAll [] args [.list .int]=true:=(pre_splitW hpre).1
 have hc:l.pre.holds [] { args:=args }=true:=(pre_splitW hpre).2
 obtain ⟨d,r,rfl,h1,h2⟩:=hasAllW_cons hsh
 obtain rfl:=hasAllW_nil h2
 obtain ⟨xs,rfl,h3⟩:=hasW_list h1
 obtain ⟨ns,rfl⟩:=items_int h3
 have hlen:ns.length<=n:=by
  unfold OpenLaw.pre at hc
  have h4:(WTm.not (.lt (.lit (.int (n:Int))) (.len (.arg 0)))).holds [] { args:=[.list (ns.map .int)] }=true:=by
   have h4:=(holds_andW hc).1
   rw [hn] at h4
   exact h4
  have h5:=condW_of h4 (w_not (w_lt w_lit (w_len_list (w_arg rfl))))
  rw [Θl] at h5
  refine Nat.le_of_not_lt fun q=>?_
  have q':(n:Int) < ((ns.length:Nat):Int):=by omega
  first
   | (rw [Zr_ q'] at h5; exact absurd h5 (by decide))
   | (simp at h5; omega)
 cases hwl with
 | cons w1 w2=>
  cases w2
  cases w1 with
  | list ho hall=>exact ⟨_,_,ns,rfl,rfl,ho,Cj ns _ hall,hlen⟩
theorem Rt (l:OpenLaw) (args:List WData):l.row.toRowW.claim.post args (.bool true) args=true:=
 postW_of (r:=l.row.toRowW) (X:=(true == true))
  (show WShape.has [] (.bool true) .bool=true by first | rfl | decide | simp [WShape.has,WShape.arms,WShape.armsAll])
  (show (WTm.eq .res (.lit (.bool true))).value [] { args:=args,res:=some (.bool true),after:=args }=some (.bool (true == true)) from w_eq_bool (w_res rfl) w_lit) rfl
theorem attach_call {l:OpenLaw} {n:Nat} {q:Program} {loose:List Str} {XP:(Str->Option Value)->Heap->Prop} {YP:World->Heap->Prop} {d:DefRec}
  (hn:l.most=some n) (hdf:d.params.defaults=[])
  (call:∀(w:World) (s₀ s₁:Shared) (mg mb:Str->Option Value) (fa:Addr) (o:Obj) (pm cd doc:Value) (a:Addr) (vs:List Value) (ns:List Int),
   Ground q loose [] XP w s₀ mg mb s₁.heap->YP w s₁.heap->
   s₁.heap.get? fa=some o->o.data = .func (docDef d.name d.params d.body d.scope pm cd doc)->s₁.heap.CodeRec cd d.name->mg d.name=some (.ref fa)->
   s₁.heap.get? a=some { cls:=.type "list",data:=.seq vs.toArray }->IntsAre vs ns->ns.length<=n->s₁.gens = #[]->
   codeAny (model l.prog w) callerA (.call (.ref fa) ⟨[.ref a],[]⟩) (fun r s'=>r = .ok (.ret (.bool true))/\OldK s₁.heap s'.heap/\s'.os=s₁.os/\AllBare s'.gens) s₁) :
  WalkO q loose XP YP l.row.toRowW d [] (fun f vs=>PySem.call f vs):=by
 intro w s₀ s₁ mg mb G Y fa o pm cd doc dV kV ho hd hcd hD hmg hg args vals as hpre hlay hrd hwl hlo
 obtain rfl:dV = .none:=Dflts.none hD hdf
 obtain rfl:kV = .none:=Dflts.noKw hD
 obtain ⟨a,vs,ns,rfl,rfl,hobj,hints,hlen⟩:=Se hn hpre hwl
 refine enter_call (codeAny_mono (call w s₀ s₁ mg mb fa o pm cd doc a vs ns G Y ho (fd_plain hd) hcd hmg hobj hints hlen hg) fun r s' hq=>?_)
 obtain ⟨rfl,h2,h3,h4⟩:=hq
 exact ⟨.inl ⟨.bool true,.bool true,[],rfl,fun _=>rfl,.bool true,Rt l _,fun _=>⟨List.Pairwise.nil,fun _ hm=>(nomatch hm)⟩⟩,h2,h3,h4⟩
section
variable {prog:Program} {w:World} {A:Around} {E:Value->Shared->Prop} {s:Shared} {K:Frag}
end
end Att
namespace L2
open PySem PySem.Spec PyProof.Rows
theorem Cd:∀{vs:List Value} {ns:List Int},IntsAre vs ns->Vals (ns.map V.int) vs
 | _,_,.nil=>.nil
 | _,_,.cons n t h=>.cons ⟨t,rfl⟩ (Cd h)
noncomputable def Xv (H:Hp):Prop:=∀b,H b=none\/∃o xs,H b=some (.frz o (.lst xs))
theorem Ue {P:Program} {w:World} {K:Θf} {mg mb:Str->Option Value} {CX:CXT} {k:Nat} {fa a:Addr} {fd:FuncData} {x:Str} {sp:Sp} {s₁:Shared} {vs:List Value} {ns:List Int}
  (KX:K.In s₁.heap) (hns:s₁.heap.Ns mainGlobals mg) (hb:s₁.heap.Ns builtinsNs mb) (hbb:∀x:Str,x≠"__name__"->mb x=bootBuiltins x) (hlim:s₁.heap.NoLimit) (hg:s₁.gens = #[])
  (ha:s₁.heap.get? a=some { cls:=.type "list",data:=.seq vs.toArray }) (hi:IntsAre vs ns) (hl:ns.length<=sizeLine) (hr:Room k callerA)
  (F:∀base:Heap,K.In base->base.Ns mainGlobals mg->FnOk P w K mg base CX k fa fd [x] sp) (hbind:∀(s:Shared) (u:Value),BindsTo s fd ⟨[u],[]⟩ [(x,u)])
  (hsp:∀H:Hp,Xv H->SqL K H a (ns.map V.int)->sp [.ref a] H (fun v _=>v = .bl true) fun _ _ _=>False)
  (hCX:∀H e s',CX [] H s₁ (fun _ _ _=>False) e s'->False) :
  codeAny (model P w) callerA (.call (.ref fa) ⟨[.ref a],[]⟩) (fun r s'=>r = .ok (.ret (.bool true))/\OldK s₁.heap s'.heap/\s'.os=s₁.os/\AllBare s'.gens) s₁:=by
 have rv:=Cd hi
 have lenV:=hi.length
 have core:∀H:Hp,Xv H->SqL K H a (ns.map V.int)->HOk P w H s₁.heap->(∀b,H b≠none->b=a)->(H a≠none->K.lookup a=none)->
   codeAny (model P w) callerA (.call (.ref fa) ⟨[.ref a],[]⟩) (fun r s'=>r = .ok (.ret (.bool true))/\OldK s₁.heap s'.heap/\s'.os=s₁.os/\AllBare s'.gens) s₁:=by
  intro H hO hS hok hA hK
  have base_of:∀{b:Addr} {o:Obj},s₁.heap.get? b=some o->H b=none->(Gw s₁.heap H).get? b=some o:=fun e n=>Tv e n
  have noA:∀{b:Addr} {o:Obj} {es:Array DictEntry} {ep:Nat},s₁.heap.get? b=some o->o.data = .dict es ep->H b=none:=fun {b o es ep} e d=>by
   cases q:H b with
   | none=>rfl
   | some u=>
    have e':b=a:=hA b (by rw [q]; simp)
    subst e'
    rw [ha] at e; cases e
    have d':Data.seq vs.toArray _=Data.dict es ep:=d
    cases d'
  have nsK:∀{b:Addr} {m:Str->Option Value},s₁.heap.Ns b m->(Gw s₁.heap H).Ns b m:=fun {b m} ⟨o,es,ep,e,d,r⟩=>⟨o,es,ep,base_of e (noA e d),d,r⟩
  have hKb:K.In (Gw s₁.heap H):=fun b o e=>base_of (KX b o e) (by
   cases q:H b with
   | none=>rfl
   | some u=>
    have e':b=a:=hA b (by rw [q]; simp)
    subst e'
    rw [hK (by rw [q]; simp)] at e; cases e)
  have hM:Mod K mg (Gw s₁.heap H):=⟨hKb,nsK hns,⟨mb,nsK hb,hbb⟩,let ⟨mc,h1,h2⟩:=hlim; ⟨mc,nsK h1,h2⟩⟩
  have e0:Env0 P w K mg (Gw s₁.heap H) callerA [] s₁ H:=⟨rfl,hM,fun b o e=>Yp e,Nat.le_of_eq (Qe _ _),trivial,fun b hb=>absurd (show b∈([]:List Addr) from hb) (by simp),hok,.of_eq hg⟩
  refine codeAny_mono ((F _ hKb (nsK hns)).run callerA [] s₁ H ⟨[.ref a],[]⟩ [.ref a] [.ref a] _ _ hr e0 (hbind s₁ (.ref a)) (.cons rfl .nil) (hsp H hO hS)) fun r s' h=>?_
  cases r with
  | error e=>exact (hCX H e s' h).elim
  | ok fl=>
   cases fl with
   | next=>exact False.elim h
   | brk=>exact False.elim h
   | cont=>exact False.elim h
   | ret u=>
    obtain ⟨v,H',os,bare,un,hok',r',q⟩:=h
    have q':v = .bl true:=q
    subst q'
    obtain rfl:u=Value.bool true:=r'
    refine ⟨rfl,OldK.of_keep fun b o e=>?_,os,bare⟩
    cases q:H b with
    | none=>exact un.keep b o e q (by intro z; exact absurd (show b∈([]:List Addr) from z) (by simp)) (by simp)
    | some u=>
     rcases hO b with z | ⟨ob,xs,z⟩
     ·rw [q] at z; cases z
     ·have z2:=un.frzs b ob _ z
      obtain ⟨e1,_⟩:=hok b _ z
      obtain ⟨e2,_⟩:=hok' b _ z2
      rw [e] at e1; cases e1
      exact e2
 cases hk:K.lookup a with
 | some o=>
  have e:=KX a o hk
  rw [ha] at e
  cases e
  refine core (fun _=>none) (fun _=>.inl rfl) (.inr ⟨_,vs.toArray,_,hk,rfl,rfl,rfl,by rw [List.size_toArray,lenV]; exact hl,by simpa using rv⟩) (fun b u z=>by have z':(none:Option HO)=some u:=z; cases z') (fun b z=>absurd rfl z) fun z=>absurd rfl z
 | none=>
  refine core (fun b=>if b=a then some (.frz { cls:=.type "list",data:=.seq vs.toArray } (.lst (ns.map V.int))) else none) (fun b=>?_) (.inl (.inr ⟨{ cls:=.type "list",data:=.seq vs.toArray },if_pos rfl⟩)) (fun b u z=>?_) (fun b z=>?_) fun _=>hk
  ·by_cases hb:b=a
   ·exact .inr ⟨_,_,if_pos hb⟩
   ·exact .inl (if_neg hb)
  ·by_cases hb:b=a
   ·have z':=(if_pos hb).symm.trans z
    cases z'
    subst hb
    exact ⟨ha,by rw [Θl]; exact hl,vs,_,rv,ha⟩
   ·have z':=(if_neg hb).symm.trans z
    cases z'
  ·by_cases hb:b=a
   ·exact hb
   ·exact absurd (if_neg hb) z
theorem walk_of {l:PySem.W.OpenLaw} {n k:Nat} {q:Program} {loose:List Str} {XP:(Str->Option Value)->Heap->Prop} {YP:World->Heap->Prop} {d:DefRec} {K:Params->Θf} {CX:World->CXT} {sp:World->Sp} {x:Str}
  (hn:l.most=some n) (hn2:n<=sizeLine) (hdf:d.params.defaults=[]) (hr:Room k callerA)
  (hY:∀(w:World) (h:Heap),YP w h->(K w.params).In h)
  (F:∀(w:World) (mg:Str->Option Value) (fa:Addr) (h:Heap),(K w.params).In h->h.Ns mainGlobals mg->mg d.name=some (.ref fa)->
   ∃fd:FuncData,(∀(s:Shared) (u:Value),BindsTo s fd ⟨[u],[]⟩ [(x,u)])/\
    ∀base:Heap,(K w.params).In base->base.Ns mainGlobals mg->FnOk l.prog w (K w.params) mg base (CX w) k fa fd [x] (sp w))
  (hsp:∀(w:World) (H:Hp) (a:Addr) (ns:List Int),ns.length<=n->Xv H->SqL (K w.params) H a (ns.map V.int)->sp w [.ref a] H (fun v _=>v = .bl true) fun _ _ _=>False)
  (hCX:∀(w:World) (H:Hp) (s:Shared) (e:Value) (s':Shared),CX w [] H s (fun _ _ _=>False) e s'->False) :
  PySem.W.WalkO q loose XP YP l.row.toRowW d [] (fun f vs=>PySem.call f vs):=by
 refine Att.attach_call hn hdf fun w s₀ s₁ mg mb fa o pm cd doc a vs ns G Y ho hd hcd hmg hobj hints hlen hg=>?_
 have KX:=hY w _ Y
 obtain ⟨fd,hb,hF⟩:=F w mg fa _ KX G.T.g hmg
 exact Ue KX G.T.g G.T.b G.T.builtins G.T.nolimit hg hobj hints (Zo_ hlen hn2) hr hF hb (fun H hO hS=>hsp w H a ns hlen hO hS) fun H e s'=>hCX w H s₁ e s'
noncomputable def W5 (s:Stmt):Arguments:=match s with
 | .FunctionDef _ a _ _ _ _ _ _ _ _=>a
 | _=>{ posonlyargs:=[],args:=[],vararg:=none,kwonlyargs:=[],kw_defaults:=[],kwarg:=none,defaults:=[] }
noncomputable def T6 (s:Stmt):List Stmt:=match s with
 | .FunctionDef _ _ b _ _ _ _ _ _ _=>b
 | _=>[]
noncomputable def C3 (s:Stmt):Scope:=match s with
 | .FunctionDef _ _ _ _ _ _ sc _ _ _=>sc
 | _=>{ kind:=.function,names:=[],isGenerator:=false,isCoroutine:=false }
noncomputable abbrev CX0:CXT:=fun _ _ _ _ _ _=>False
noncomputable abbrev E0:XK:=fun _ _ _=>False
theorem C8 {X:Cx}:Ld CX0 X E0:=fun _ _ _ _ _ _ _ h=>h.elim
structure Fun (K:Θf) (x qual:Str) (st:Stmt) (f:Addr) (fd:FuncData):Prop where
 ex:∃(oc:Value) (od:Option Addr) (kV doc pm:Value) (an:Option Addr) (cdv ct:Value) (osl:Array (Option Value)),
  fd=PySem.W.fnOf x qual (W5 st) (T6 st) (C3 st) .none kV doc pm an cdv ct/\K.lookup f=some ⟨oc,od,.func fd,osl⟩/\PySem.W.codeIn K cdv qual=true
 kp:Θk K f
section
variable {P:Program} {w:World} {K:Θf} {mg:Str->Option Value} {base:Heap}
theorem Fun.ok {x qual:Str} {st:Stmt} {f:Addr} {fd:FuncData} {N ps:List Str} {k:Nat} {sp:Sp} (F:Fun K x qual st f fd) (S:FnScope N ps (C3 st)) (len:∀vs H Q E,sp vs H Q E->vs.length=ps.length)
  (hbody:∀(cdv:Value) (A:Around) (outer:List Env) (s:Shared) (H:Hp) (vs:List V) (Q:VK) (E:XK),Room k (A.deeper (envOfC qual (C3 st) s.heap.objs.size f cdv))->sp vs H Q E->
   ∃t,PSs (Gq CX0 P w K mg base N qual (C3 st) f cdv A outer s H E).nox (T6 st) t/\t { nx:=fun _ H'=>Q .non H',rt:=Q } (start N vs) H):FnOk P w K mg base CX0 (k + 1) f fd ps sp:=by
 obtain ⟨oc,od,kV,doc,pm,an,cdv,ct,osl,rfl,lk,hcd⟩:=F.ex
 refine Aaw lk hcd S len fun A outer s H vs Q E hr hsp=>?_
 obtain ⟨t,h,q⟩:=hbody cdv A outer s H vs Q E hr hsp
 exact ⟨t,h.nox,q⟩
theorem Fun.binds {x qual:Str} {st:Stmt} {f:Addr} {fd:FuncData} {ps:List Str} (F:Fun K x qual st f fd)
  (h:∀(kV doc pm:Value) (an:Option Addr) (cdv ct:Value) (us:List Value),us.length=ps.length->bindArgs (PySem.W.fnOf x qual (W5 st) (T6 st) (C3 st) .none kV doc pm an cdv ct) ⟨us,[]⟩=pure (ps.zip us)):Binds K fd ps []:=by
 obtain ⟨oc,od,kV,doc,pm,an,cdv,ct,osl,rfl,lk,hcd⟩:=F.ex
 exact .all (h kV doc pm an cdv ct)
theorem Tp {x qual:Str} {st:Stmt} {f:Addr} {oc:Value} {od an:Option Addr} {osl:Array (Option Value)} {kV doc pm cdv ct:Value} (l:K.lookup f=some ⟨oc,od,.func (PySem.W.fnOf x qual (W5 st) (T6 st) (C3 st) .none kV doc pm an cdv ct),osl⟩)
  (c:PySem.W.codeIn K cdv qual=true) (k:PySem.W.keepIn K (.ref f)=true):Fun K x qual st f (PySem.W.fnOf x qual (W5 st) (T6 st) (C3 st) .none kV doc pm an cdv ct):=⟨⟨oc,od,kV,doc,pm,an,cdv,ct,osl,rfl,l,c⟩,k⟩
end
theorem Jp {A:Around} {k:Nat} (hr:Room k A):A.units + 1 < cLine:=Nat.lt_of_le_of_lt (Nat.add_le_add_left (by decide:1<=64) _) hr.units
theorem E2 {n:Nat} (h:n<=1000):n < sizeLine:=Nat.lt_of_le_of_lt h (by decide)
section
variable {X:Cx}
theorem pv (i:Nat) {x:Str} {pos:Pos} (hN:X.N[i]? = some x:=by rfl) (hv:Vis X.env.scope x:=by first | exact Or.inl rfl | exact Or.inr (Or.inl rfl) | exact Or.inr (Or.inr rfl)) (hd:(x == ("__debug__":Str))=false:=by decide)
  (hcd:(x == ("__classdict__":Str))=false:=by decide):PE X (.Name x pos) (Mw i):=Acn hN hv hd hcd
end
theorem V1 {A B:Prop} (h:B):if false=true then A else B:=by
 rw [if_neg Zf_]
 exact h
theorem Y1 {A B:Prop} (h:A):if true=true then A else B:=by
 rw [if_pos rfl]
 exact h
theorem M9 {c A B:Prop} [Decidable c] (h1:c->A) (h2:¬c->B):if c then A else B:=by
 by_cases h:c
 ·rw [if_pos h]
  exact h1 h
 ·rw [if_neg h]
  exact h2 h
noncomputable def Same (H H':Hp):Prop:=∀b o,H b=some o->H' b=some o
theorem Same.refl (H:Hp):Same H H:=fun _ _ h=>h
theorem Same.trans {H H1 H2:Hp} (a:Same H H1) (b:Same H1 H2):Same H H2:=fun c o h=>b c o (a c o h)
theorem Same.free {H H':Hp} (e:Same H H') {l:Addr} (h:H' l=Option.none):H l=Option.none:=by
 cases q:H l with
 | none=>rfl
 | some o=>
  rw [e l o q] at h
  cases h
theorem Same.seq {K:Θf} {H H':Hp} {a:Addr} {xs:List V} (e:Same H H') (h:SqL K H a xs):SqL K H' a xs:=by
 rcases h with (h | ⟨o,h⟩) | h
 ·exact .inl (.inl (e _ _ h))
 ·exact .inl (.inr ⟨o,e _ _ h⟩)
 ·exact .inr h
end L2
set_option maxHeartbeats 4000000
namespace L2
open PySem PySem.Spec PyProof.Rows
noncomputable def clF (cells:List (Str × Addr)):List (Str × NameKind)->List (Str × Addr)->List (Str × Addr)
 | [],cs=>cs
 | (n,k) :: r,cs=>clF cells r (if k == .free then (match cells.lookup n with | some c=>(n,c) :: cs | none=>cs) else cs)
theorem Nl {cells:List (Str × Addr)}:∀(names:List (Str × NameKind)) (cs:List (Str × Addr)) (n:Str) (c:Addr),(n,c)∈clF cells names cs->(n,c)∈cs\/(cells.lookup n=some c/\(n,NameKind.free)∈names)
 | [],cs,n,c,h=>.inl h
 | (m,k) :: r,cs,n,c,h=>by
  rcases Nl r _ n c h with q | ⟨q,z⟩
  ·by_cases hk:(k == NameKind.free)=true
   ·rw [if_pos hk] at q
    have hk':k = .free:=by simpa using hk
    cases e:cells.lookup m with
    | none=>rw [e] at q; exact .inl q
    | some d=>
     rw [e] at q
     rcases Zg_.mp q with z | z
     ·cases z; exact .inr ⟨e,by rw [hk']; exact Θc⟩
     ·exact .inl z
   ·rw [if_neg hk] at q; exact .inl q
  ·exact .inr ⟨q,Θd _ z⟩
theorem Nm {cells:List (Str × Addr)}:∀(names:List (Str × NameKind)) (cs:List (Str × Addr)),∀p∈cs,p∈clF cells names cs
 | [],cs,p,h=>h
 | (m,k) :: r,cs,p,h=>by
  refine Nm r _ p ?_
  by_cases hk:(k == NameKind.free)=true
  ·rw [if_pos hk]
   cases cells.lookup m with
   | none=>exact h
   | some d=>exact Θd _ h
  ·rw [if_neg hk]; exact h
theorem Ax {cells:List (Str × Addr)}:∀(names:List (Str × NameKind)) (cs:List (Str × Addr)) (n:Str) (c:Addr),(n,NameKind.free)∈names->cells.lookup n=some c->(n,c)∈clF cells names cs
 | [],_,_,_,h,_=>nomatch h
 | (m,k) :: r,cs,n,c,h,e=>by
  rcases Zg_.mp h with z | z
  ·cases z
   refine Nm r _ _ ?_
   rw [if_pos (by rfl),e]
   exact Θc
  ·exact Ax r _ n c z e
theorem G7 {β:Type}:∀{l:List (Str × β)} {n:Str} {c:β},(n,c)∈l->∃d,l.lookup n=some d
 | (m,d) :: r,n,c,h=>by
  cases e:n == m with
  | true=>exact ⟨d,by simp [List.lookup_cons,e]⟩
  | false=>
   have e':n≠m:=by simpa using e
   rcases Zg_.mp h with z | z
   ·cases z; exact absurd rfl e'
   ·obtain ⟨q,hq⟩:=G7 z
    exact ⟨q,by simp [List.lookup_cons,e,hq]⟩
theorem G6 {cells:List (Str × Addr)} {names:List (Str × NameKind)} {n:Str} {c:Addr} (h:(clF cells names []).lookup n=some c):cells.lookup n=some c/\(n,NameKind.free)∈names:=by
 rcases Nl names [] n c (PySem.mem_of_lookup h) with z | z
 ·cases z
 ·exact z
theorem Ak {env:Env} {scope:Scope} (hf:∀n,(n,NameKind.free)∈scope.names->∃c,env.cells.lookup n=some c):closureFor scope env=pure (clF env.cells scope.names []):=by
 have go:∀(l:List (Str × NameKind)) (cs:List (Str × Addr)),(∀n,(n,NameKind.free)∈l->∃c,env.cells.lookup n=some c)->
   (forIn l cs (fun x r=>match x with | (name,kind)=>if (kind == NameKind.free)=true then do
    let y <-cellOf env name
    pure (ForInStep.yield ((name,y) :: r)) else pure (ForInStep.yield r)):Sem (List (Str × Addr)))=pure (clF env.cells l cs):=by
  intro l
  induction l with
  | nil=>intro cs _; rfl
  | cons x r ih=>
   intro cs h
   obtain ⟨n,k⟩:=x
   rw [List.forIn_cons]
   by_cases hk:(k == NameKind.free)=true
   ·have hk':k = .free:=by simpa using hk
    obtain ⟨c,e⟩:=h n (by rw [hk']; exact Θc)
    have ec:cellOf env n=pure c:=by unfold cellOf; rw [e]
    simp only [hk,if_true,ec,pure_bind]
    rw [ih _ fun m hm=>h m (Θd _ hm)]
    show _=pure (clF env.cells r _)
    rw [if_pos hk,e]
   ·have hk':(k == NameKind.free)=false:=by simpa using hk
    have e1:=ih cs fun m hm=>h m (Θd _ hm)
    show (((if (k == NameKind.free)=true then _ else pure (ForInStep.yield cs)):Sem _) >>= _)=_
    rw [if_neg hk,pure_bind]
    refine Eq.trans e1 ?_
    show _=pure (clF env.cells r _)
    rw [if_neg hk]
 unfold closureFor
 have:=go scope.names [] hf
 rw [bind_pure]
 exact this
structure CScope (X:Cx) (xs:List Str) (sc:Scope):Prop where
 kind:sc.kind = .function
 nocell:∀y∈sc.names,y.2≠.cell
 names:∀y∈sc.names,y.2 = .local->sc.names.lookup y.1=some .local
 own:∀x∈xs,sc.names.lookup x=some .local
 sep:∀y∈X.N,sc.names.lookup y≠some .local
 frees:∀y∈sc.names,y.2 = .free->X.env.kindOf y.1=some .cell\/X.env.kindOf y.1=some .free
 nd:(xs++X.N).Nodup
noncomputable def cxC (X:Cx) (xs:List Str) (sc:Scope) (ex:List Addr) (s:Shared) (H:Hp):Cx where
 prog:=X.prog
 w:=X.w
 K:=X.K
 mg:=X.mg
 base:=X.base
 A:=X.A
 N:=xs++X.N
 s₀:=s
 H₀:=H
 env:=compEnvC sc (clF X.env.cells sc.names []) s.heap.objs.size X.env
 outer:=X.stack
 stack:=X.stack
 ex:=ex
 fn:=fun _=>false
 calm:=X.calm
 pn:=[]
 xe:=fun _ _=>False
theorem N0 (env:Env) (x:Str):∀names:List (Str × NameKind),
  (names.map fun (n,k)=>if (k == NameKind.free && env.scope.kind == .function && env.kindOf n == some .cell) then (n,NameKind.cell) else (n,k)).lookup x =
   (names.lookup x).map fun k=>if (k == NameKind.free && env.scope.kind == .function && env.kindOf x == some .cell) then NameKind.cell else k
 | []=>rfl
 | (n,k) :: r=>by
  have ih:=N0 env x r
  show List.lookup x ((if (k == NameKind.free && env.scope.kind == .function && env.kindOf n == some .cell)=true then (n,NameKind.cell) else (n,k)) :: _)=_
  cases hx:x == n with
  | true=>
   have e:x=n:=by simpa using hx
   subst e
   by_cases hc:(k == NameKind.free && env.scope.kind == .function && env.kindOf x == some .cell)=true
   ·rw [if_pos hc]
    simp only [List.lookup_cons,hx,Option.map_some]
    rw [if_pos hc]
   ·rw [if_neg hc]
    simp only [List.lookup_cons,hx,Option.map_some]
    rw [if_neg hc]
  | false=>
   by_cases hc:(k == NameKind.free && env.scope.kind == .function && env.kindOf n == some .cell)=true
   ·rw [if_pos hc]; simp only [List.lookup_cons,hx]; exact ih
   ·rw [if_neg hc]; simp only [List.lookup_cons,hx]; exact ih
theorem Ky {sc:Scope} {env:Env} {x:Str} (h:Vis (relabel sc env) x) (hl:sc.names.lookup x≠some .local) (hc:∀y∈sc.names,y.2≠.cell) :
  (x,NameKind.free)∈sc.names/\((relabel sc env).names.lookup x=some .cell\/(relabel sc env).names.lookup x=some .free):=by
 have e:(relabel sc env).names.lookup x=_:=N0 env x sc.names
 unfold Vis at h
 rw [e] at h
 cases k:sc.names.lookup x with
 | none=>rw [k] at h; simp at h
 | some v=>
  have mem:=PySem.mem_of_lookup k
  have nl:v≠.local:=fun z=>hl (by rw [k,z])
  have ncl:v≠.cell:=fun z=>hc _ mem z
  rw [k] at h
  rw [e,k]
  simp only [Option.map_some] at h ⊢
  by_cases hv:v = .free
  ·subst hv
   refine ⟨mem,?_⟩
   split
   ·exact .inl rfl
   ·exact .inr rfl
  ·have:(v == NameKind.free)=false:=by simpa using hv
   simp only [this,Bool.false_and] at h
   rcases h with h | h | h
   ·exact absurd (Θo h) nl
   ·exact absurd (Θo h) ncl
   ·exact absurd (Θo h) hv
section
variable {X:Cx} {pins:List (Addr × Obj)} {σ:St} {H:Hp} {s:Shared} {xs:List Str} {sc:Scope} {ex:List Addr}
theorem CScope.cells (S:CScope X xs sc) (ok:X.Ok):∀n,(n,NameKind.free)∈sc.names->∃c,X.env.cells.lookup n=some c:=fun n h=>ok.has n (S.frees _ h rfl)
theorem Abh (S:CScope X xs sc) (I:Inv X pins σ H s) (he:∀b∈ex,b < s.heap.objs.size/\b∉frs X.stack/\(∀x c,X.env.cells.lookup x=some c->c≠b)/\X.base.get? b=none):(cxC X xs sc ex s H).Ok:=by
 refine ⟨I.ok.mod,S.kind,I.ok.glob,I.ok.blt,Zd_ _,fun x y c h1 h2=>?_,fun x hx=>?_,fun _ _ h=>(by cases h),I.ok.hd,I.ok.frames,.inl rfl,fun b hb=>⟨Zs_ (he b hb).1,fun x c h=>(he b hb).2.2.1 x c (G6 h).1⟩,fun b o e=>?_,?_,fun b o e hb=>?_,fun b hb=>(he b hb).2.1,I.stack,I.stkFree⟩
 ·exact I.ok.inj x y c (G6 h1).1 (G6 h2).1
 ·have hv:(relabel sc X.env).names.lookup x=some .cell\/(relabel sc X.env).names.lookup x=some .free:=hx
  have q:(x,NameKind.free)∈sc.names:=by
   have e:(relabel sc X.env).names.lookup x=_:=N0 X.env x sc.names
   rw [e] at hv
   cases k:sc.names.lookup x with
   | none=>rw [k] at hv; simp at hv
   | some v=>
    have mem:=PySem.mem_of_lookup k
    rw [k] at hv
    simp only [Option.map_some] at hv
    by_cases hvf:v = .free
    ·rw [hvf] at mem; exact mem
    ·have:(v == NameKind.free)=false:=by simpa using hvf
     simp only [this,Bool.false_and] at hv
     rcases hv with h | h
     ·exact absurd (Θo h) (S.nocell _ mem)
     ·exact absurd (Θo h) hvf
  obtain ⟨c,e⟩:=S.cells I.ok x q
  exact G7 (Ax sc.names [] x c q e)
 ·exact I.bs b o e
 ·exact Zo_ I.ok.bsz I.sz
 ·have q:X.base.get? b=none:=(he b hb).2.2.2
  have e':X.base.get? b=some o:=e
  rw [q] at e'; cases e'
theorem Tz {h₁:Heap} {tk:Nat} (S:CScope X xs sc) (I:Inv X pins σ H s) (he:∀b∈ex,b < s.heap.objs.size/\b∉frs X.stack/\(∀x c,X.env.cells.lookup x=some c->c≠b)/\X.base.get? b=none)
  (hn:h₁.Ns s.heap.objs.size (fun _=>none)) (hk:∀b o,s.heap.get? b=some o->h₁.get? b=some o) :
  Inv (cxC X xs sc ex s H) [] (List.replicate xs.length none++σ) H { s with heap:=h₁,toks:=tk }:=by
 have I1:Inv X pins σ H { s with heap:=h₁,toks:=tk }:=I.kept hk
 refine ⟨Abh S I he,rfl,I.bare,Un.kept hk,⟨_,hn,fun i x v h1 h2 h3=>?_⟩,fun x c h=>I1.cell x c (G6 h).1,I.hok.fresh (Nat.le_refl _),fun x c h=>I.freeC x c (G6 h).1,fun p hp=>absurd (show p∈([]:List (Addr × Obj)) from hp) (by simp),I.hok.kept hk,?_⟩
 ·have h1':(xs++X.N)[i]? = some x:=h1
  by_cases hi:i < xs.length
  ·rw [List.getElem?_append_left (by simpa using hi),List.getElem?_replicate,if_pos hi] at h2
   cases h2
  ·have hi':xs.length<=i:=Nat.le_of_not_lt hi
   rw [List.getElem?_append_right (by simpa using hi')] at h2
   rw [ZD hi'] at h1'
   rw [List.length_replicate] at h2
   have hm:x∈X.N:=Θe h1'
   obtain ⟨hf,hkd⟩:=Ky h3 (S.sep x hm) S.nocell
   have hko:=S.frees _ hf rfl
   obtain ⟨m,_,hl⟩:=I1.loc
   obtain ⟨u,r,l⟩:=hl (i - xs.length) x v h1' h2 (by
    rcases hko with z | z
    ·exact .inr (.inl z)
    ·exact .inr (.inr z))
   refine ⟨u,r,.inr ⟨hkd,?_⟩⟩
   rcases l with ⟨z,_⟩ | ⟨_,c,ec,hc⟩
   ·rcases hko with q | q <;> (rw [q] at z; cases z)
   ·obtain ⟨d,ed⟩:=G7 (Ax sc.names [] x c hf ec)
    have:c=d:=by
     have:=(G6 ed).1
     rw [ec] at this
     exact Θo this
    subst this
    exact ⟨c,ed,hc⟩
 ·show (List.replicate xs.length none++σ).length=(xs++X.N).length
  rw [Zv_,Zv_,List.length_replicate,I.len]
end
section
variable {prog:Program} {w:World} {A:Around} {R:Result->Shared->Prop} {s:Shared}
theorem Jg {elt target iter:Expr} {ifs:List Expr} {scope:Scope} {pos:Pos} {it acc:Value} {env:Env} (I:Nat->Shared->Prop)
  (turn:∀n s,I n s->wpAny (model prog w) A (pyNext it) (fun r s₁=>match r with
   | none=>R (.ok .next) s₁
   | some v=>wpAny (model prog w) A (letOwnedTupleGo target it v) (fun _ s₁'=>wpAny (model prog w) A (assign target env v) (fun _ s₂=>
     wpAny (model prog w) A (forIn ifs true fun c r=>if r=true then do let ok <-isTrue c env (eval c env); pure (ForInStep.yield ok) else pure (ForInStep.yield r)) (fun ok s₃=>
      if ok=true then wpAny (model prog w) A (eval elt env) (fun x s₄=>
       wpAny (model prog w) A (call (.builtin "list.append") [acc,x]) (fun _ s₅=>∃m,m < n/\I m s₅) (fun _ _=>False) s₄) (fun _ _=>False) s₃
      else ∃m,m < n/\I m s₃) (fun _ _=>False) s₂) (fun _ _=>False) s₁') (fun _ _=>False) s₁) (fun _ _=>False) s)
  (n:Nat) (h:I n s) :
  codeAny (model prog w) A (.compLoop (.ListComp elt [⟨target,iter,ifs,0⟩] scope pos) 0 it acc env) R s:=by
 refine codeAny_loop rfl I (fun n s hI=>?_) n h
 show wpAny _ A ((compTurn (.ListComp elt [⟨target,iter,ifs,0⟩] scope pos) 0 it acc env).onRaise (fun x=>do noteFrame x env; theTreesLotGoes x)) _ _ s
 refine wpAny_noted ?_
 rw [compTurn_list]
 refine Za_ (wpAny_standAt (Za_ (wpAny_mono (turn n s hI) (fun r s₁ h₁=>?_) fun _ _ h'=>h'.elim)))
 cases r with
 | none=>exact Zb_ h₁
 | some v=>
  refine Za_ (wpAny_mono h₁ (fun _ s₁' h₁'=>?_) fun _ _ h'=>h'.elim)
  refine Za_ (wpAny_mono h₁' (fun _ s₂ h₂=>Za_ (wpAny_mono h₂ (fun ok s₃ h₃=>?_) fun _ _ h'=>h'.elim)) fun _ _ h'=>h'.elim)
  cases ok with
  | false=>exact Zb_ ⟨rfl,h₃⟩
  | true=>
   exact Za_ (Za_ (wpAny_mono h₃ (fun x s₄ h₄=>Za_ (wpAny_mono h₄ (fun _ s₅ h₅=>Zb_ (Zb_ ⟨rfl,h₅⟩)) fun _ _ h'=>h'.elim)) fun _ _ h'=>h'.elim))
end
noncomputable def PTs (X:Cx) (ifs:List Expr) (t:TT):Prop:=
 ∀(pins:List (Addr × Obj)) (s:Shared) (σ:St) (H:Hp) (Q:Bool->Hp->Prop),Inv X pins σ H s->t σ H Q->
  wpAny (model X.prog X.w) X.A (forIn ifs true fun c r=>if r=true then do let ok <-isTrue c X.env (eval c X.env); pure (ForInStep.yield ok) else pure (ForInStep.yield r)) (TP X pins σ Q) X.xe s
noncomputable def Ae9:TT:=fun _ H Q=>Q true H
theorem N3 {X:Cx}:PTs X [] Ae9:=fun _ _ _ H _ I h=>wpAny_tests_nil ⟨H,I,h⟩
theorem Bl {X:Cx} {c:Expr} {t:TT} (h:PT X c t):PTs X [c] t:=fun pins s σ H Q I q=>wpAny_tests_one (h pins s σ H Q I q)
section
variable {X:Cx} {pins:List (Addr × Obj)} {σ:St} {H:Hp} {s2:Shared} {tg iter elt:Expr} {ifs:List Expr} {sc:Scope} {pos:Pos} {xs:List Str} {g:TG} {tc:TT} {te:TE} {J:It} {fp:List Addr} {it:Addr} {tn:Nat->Heap->Prop}
theorem HOk.adopt {P:Program} {w:World} {H:Hp} {h:Heap} {a:Addr} {xs:List V} {its:List Value} {n:Nat} (x:HOk P w H h) (hn:H a=none) (hz:xs.length<=sizeLine) (r:Vals xs its) (e:h.get? a=some { cls:=.type "list",data:=.seq its.toArray n }) :
  HOk P w (upd H a (.lst xs)) h:=fun b u q=>by
 by_cases hb:b=a
 ·subst hb; rw [A8] at q; cases q; exact ⟨hz,its,n,r,e⟩
 ·rw [C9 hb] at q
  exact (x b u q).stay (fun c v _ q=>q) (fun c q=>by rw [C9 (C7 q hn)]; exact q) fun c xs q=>by rw [C9 (C7 q hn)]; exact q
theorem Fn {X':Cx} {RR:Value->Addr->Result->Shared->Prop} {kk tk:Nat} {H3 h₁:Heap} (hg':PG X' tg g) (ht':PTs X' ifs tc) (he':PE X' elt te)
  (I:Inv X pins σ H s2) (T:Turn X.prog X.w X.K tg J fp it tn) (st:tn 0 s2.heap) (f2:∀b∈fp,FpOk X pins H b)
  (W:Nat->Nat->List V->Hp->Prop) (w0:∃m,W 0 m [] H) (F:List V->Hp->Prop)
  (turn:∀i m acc H,W i m acc H->(J.stop i H/\acc.length<=sizeLine/\F acc H)\/
   (J.go i H/\acc.length < sizeLine/\∃N:List V->Hp->Prop,(∀acc' H',N acc' H'->∃m',m' < m/\W (i + 1) m' acc' H')/\∀x H',J.yld i H x H'->g x (List.replicate kk none++σ) H' fun σ2 H2=>σ2.drop kk=σ/\tc σ2 H2 fun c H3=>
    if c=true then te σ2 H3 fun y H4=>N (acc++[y]) H4 else N acc H3))
  (fin:∀D C s' acc H',(∃m,s'.heap.Ns C m)->FpOk X pins (upd H' D (.lst acc)) C->F acc H'->H' D=none->Inv X pins σ (upd H' D (.lst acc)) s'->RR (.ref D) C (.ok .next) s')
  (hH3:s2.heap.push { cls:=.type "list",dict:=none,data:=.seq ([]:List Value).toArray }=H3) (k1:∀b o,H3.get? b=some o->h₁.get? b=some o)
  (I4:Inv X pins σ H { s2 with heap:=H3 }->(∀b∈(s2.heap.objs.size :: fp),b < H3.objs.size/\b∉frs X.stack/\(∀x c,X.env.cells.lookup x=some c->c≠b)/\X.base.get? b=none)->Inv X' [] (List.replicate kk none++σ) H { s2 with heap:=h₁,toks:=tk })
  (cell1:∀x c,X'.env.cells.lookup x=some c->c=H3.objs.size + 1\/X.env.cells.lookup x=some c)
  (eX:X'.ex=s2.heap.objs.size :: fp/\X'.env.locals=H3.objs.size/\X'.fs=frs X.stack/\X'.pn=[]/\X'.prog=X.prog/\X'.w=X.w/\X'.K=X.K/\X'.calm=true/\X'.A=X.A/\(X'.xe=fun _ _=>False)/\X'.s₀.heap=H3/\X'.H₀=H/\X'.s₀.os=s2.os) :
  codeAny (model X.prog X.w) X.A (.compStart (.ListComp elt [⟨tg,iter,ifs,0⟩] sc pos) 0 (.ref it) (.ref s2.heap.objs.size) X'.env) (RR (.ref s2.heap.objs.size) H3.objs.size) { s2 with heap:=h₁,toks:=tk }:=by
 obtain ⟨eXex,eXloc,eXfs,eXpn,eP,ew,eK,ec,eA,exe,hs0,hH0,hos⟩:=eX
 have hC:H3.objs.size=s2.heap.objs.size + 1:=by rw [<-hH3,Heap.size_push]
 have hDC:s2.heap.objs.size≠H3.objs.size:=by rw [hC]; exact Zs_ (Nat.lt_succ_self _)
 have old3:∀b o,s2.heap.get? b=some o->H3.get? b=some o:=fun b o e=>hH3 ▸ Zc_ _ e
 have fpLt:∀b∈fp,b < s2.heap.objs.size:=fun b hb=>by
  obtain ⟨o,e,_⟩:=T.obj _ _ st b hb
  exact Zn_ e
 have hnofr:∀b,s2.heap.objs.size<=b->b∉frs X.stack:=fun b hb z=>by
  rcases Zg_.mp (I.stkSub b z) with q | q
  ·exact absurd (Zq_ I.lt hb) (by rw [q]; exact Nat.lt_irrefl _)
  ·exact I.nofs hb q
 have hnocell:∀b,s2.heap.objs.size<=b->∀x c,X.env.cells.lookup x=some c->c≠b:=fun b hb x c e z=>by
  obtain ⟨v,q⟩:=I.cell x c e
  exact absurd (Zq_ q.lt (by rw [z]; exact hb)) (Nat.lt_irrefl _)
 have hnobase:∀b,s2.heap.objs.size<=b->X.base.get? b=none:=fun b hb=>Heap.get?_none_of_le (Zo_ (Zo_ I.ok.bsz I.sz) hb)
 have fpfr:∀b∈fp,b∉frs X.stack:=fun b hb z=>by
  rcases Zg_.mp (I.stkSub b z) with q | q
  ·exact (f2 b hb).2.1 q
  ·exact (f2 b hb).2.2.1 q
 have fpbase:∀b∈fp,X.base.get? b=none:=fun b hb=>by
  rcases (f2 b hb).2.2.2.1 with z | z
  ·cases e:X.base.get? b with
   | none=>rfl
   | some o=>exact absurd z (I.ok.noex b o e)
  ·exact Heap.get?_none_of_le (Zo_ I.ok.bsz z)
 have hex:∀b∈(s2.heap.objs.size :: fp),b < H3.objs.size/\b∉frs X.stack/\(∀x c,X.env.cells.lookup x=some c->c≠b)/\X.base.get? b=none:=fun b hb=>by
  rcases Zg_.mp hb with z | z
  ·subst z
   exact ⟨by rw [hC]; exact Nat.lt_succ_self _,hnofr _ (Zd_ _),hnocell _ (Zd_ _),hnobase _ (Zd_ _)⟩
  ·exact ⟨by rw [hC]; exact Nat.lt_succ_of_lt (fpLt b z),fpfr b z,(f2 b z).2.2.2.2.1,fpbase b z⟩
 have I4:=I4 (I.kept old3) hex
 have hDn:H s2.heap.objs.size=none:=I.hok.fresh (Zd_ _)
 have hDobj:h₁.get? s2.heap.objs.size=some { cls:=.type "list",data:=.seq (([]:List Value)).toArray 0 }:=k1 _ _ (hH3 ▸ Zm_ _ rfl)
 have st1:tn 0 h₁:=T.keep _ _ _ st fun b _ o e=>k1 b o (old3 b o e)
 obtain ⟨m0,w0⟩:=w0
 have loop:∀s₃:Shared,s₃={ s2 with heap:=h₁,toks:=tk }->
   codeAny (model X.prog X.w) X.A (.compLoop (.ListComp elt [⟨tg,iter,ifs,0⟩] sc pos) 0 (.ref it) (.ref s2.heap.objs.size) X'.env) (RR (.ref s2.heap.objs.size) H3.objs.size) s₃:=by
  rintro s₃ rfl
  refine Jg (fun n s'=>∃i acc its k H',Inv X' [] (List.replicate kk none++σ) H' s'/\tn i s'.heap/\(∀b∈fp,H' b=none)/\H' s2.heap.objs.size=none/\Vals acc its/\
   s'.heap.get? s2.heap.objs.size=some { cls:=.type "list",data:=.seq its.toArray k }/\W i n acc H') ?_ m0
   ⟨0,[],[],0,H,I4,st1,fun b hb=>(f2 b hb).1,hDn,.nil,hDobj,w0⟩
  rintro n s' ⟨i,acc,its,k,H',I',st',fr',hD',rv,hobj,w'⟩
  have fpok:∀{o:Obj} {H'':Hp},(∀b∈fp,H'' b=none)->∀b∈fp,FpOk X' [(s2.heap.objs.size,o)] H'' b:=fun {o H''} hn b hb=>by
   refine ⟨hn b hb,by rw [eXloc,hC]; exact Zs_ (Nat.lt_succ_of_lt (fpLt b hb)),by rw [eXfs]; exact fpfr b hb,.inl (by rw [eXex]; exact Θd _ hb),fun x c e=>?_,fun p hp=>?_⟩
   ·rcases cell1 x c e with z | z
    ·rw [z,hC]
     exact Nat.ne_of_gt (Nat.lt_succ_of_lt (Nat.lt_succ_of_lt (fpLt b hb)))
    ·exact (f2 b hb).2.2.2.2.1 x c z
   ·rw [eXpn] at hp
    have:p=(s2.heap.objs.size,o):=by simpa using hp
    rw [this]
    exact Nat.ne_of_gt (fpLt b hb)
  have pinD:∀{H'':Hp} {s'':Shared} {σ'':St} {o:Obj},Inv X' [] σ'' H'' s''->s''.heap.get? s2.heap.objs.size=some o->(∀v,o.data≠.cell v)->H'' s2.heap.objs.size=none->Inv X' [(s2.heap.objs.size,o)] σ'' H'' s'':=fun {H'' s'' σ'' o} J e d hn=>
   J.pins_of fun p hp=>by
    have:p=(s2.heap.objs.size,o):=by simpa using hp
    rw [this]
    exact ⟨e,hn,by rw [eXloc]; exact hDC,by rw [eXfs]; exact hnofr _ (Zd_ _),d⟩
  have J:=pinD I' hobj (fun v=>by intro z; cases z) hD'
  rw [<-eP,<-ew,<-eA]
  rcases turn i n acc H' w' with ⟨stop,hz,hF⟩ | ⟨go,hz,N,hN,step⟩
  ·have q1:wpAny (model X'.prog X'.w) X'.A (pyNext (.ref it)) (fun r s1=>r=none/\Inv X' [(s2.heap.objs.size,{ cls:=.type "list",data:=.seq its.toArray k })] (List.replicate kk none++σ) H' s1) (fun _ _=>False) s':=by
    have:=T.done X' eP ew eK ec i _ s' _ H' (fun _ _=>False) J (fpok fr') st' stop
    rw [eP,ew]; exact this
   refine thn q1 fun r s1 h1=>?_
   obtain ⟨hr,J1⟩:=h1
   subst hr
   have e1:=J1.pin (s2.heap.objs.size,{ cls:=.type "list",data:=.seq its.toArray k }) (Zh_ _ Θc)
   have un:Un (frs X.stack) (s2.heap.objs.size :: fp) H H' H3 s1.heap:=by
    have:=J1.base
    rw [eXfs,eXex,hH0,hs0] at this
    exact this
   have hok1:HOk X.prog X.w H' s1.heap:=by have:=J1.hok; rw [eP,ew] at this; exact this
   obtain ⟨mC,hmC,_⟩:=J1.loc
   have hmC':s1.heap.Ns H3.objs.size mC:=by rw [eXloc] at hmC; exact hmC
   have hCfree:H' H3.objs.size=none:=by have:=J1.free; rw [eXloc] at this; exact this
   refine fin _ _ s1 acc H' ⟨mC,hmC'⟩ ?_ hF e1.2.1 ?_
   ·refine I.fpOk (by rw [hC]; exact Nat.le_succ _) ?_
    rw [C9 (Ne.symm hDC)]
    exact hCfree
   ·refine I.call' (ch:=fp) (J1.os.trans hos) ?_ (hok1.adopt e1.2.1 hz rv e1.1) J1.bare fun b hb=>⟨(f2 b hb).2.2.2.1,(f2 b hb).2.1,(f2 b hb).2.2.2.2.1,(f2 b hb).2.2.2.2.2⟩
    have below:∀b o,s2.heap.get? b=some o->b≠s2.heap.objs.size:=fun b o e=>Zs_ (Zn_ e)
    have nin:∀b o,s2.heap.get? b=some o->b∉fp->b∉s2.heap.objs.size :: fp:=fun b o e hb z=>(Zg_.mp z).elim (below b o e) hb
    have trkne:∀b u,H b=some u->b≠s2.heap.objs.size:=fun b u e z=>by rw [z,hDn] at e; cases e
    refine ⟨fun b o e n hf hb=>un.keep b o (old3 b o e) n hf (nin b o e hb),fun b o e n hf hb=>un.slot b o (old3 b o e) n hf (nin b o e hb),fun b o e n hb=>?_,fun b o e hb=>un.there b o (old3 b o e) (nin b o e hb),fun b ys e=>?_,fun b o u e=>?_,fun b ps e=>?_⟩
    ·rw [C9 (below b o e)]; exact un.free b o (old3 b o e) n (nin b o e hb)
    ·rw [C9 (trkne b _ e)]; exact un.tups b ys e
    ·rw [C9 (trkne b _ e)]; exact un.frzs b o u e
    ·rw [C9 (trkne b _ e)]; exact un.tbls b ps e
  ·have q1:=T.item X' eP ew eK ec i _ s' _ H' (fun _ _=>False) J (fpok fr') st' go
   rw [<-eP,<-ew] at q1
   have q2:=q1
   refine thn q2 fun r s1 h1=>?_
   obtain ⟨u,hr,h4⟩:=h1
   subst hr
   dsimp only
   refine thn h4 fun _ s5 ⟨x,H5,J5,r5,y5,st5,fr5⟩=>?_
   have J5':=J5.pinned (fpok fr5) (T.obj _ _ st5)
   have q5:=hg' _ s5 _ H5 x u _ J5' r5 (step x H5 y5)
   rw [exe] at q5
   refine thn q5 fun _ s6 ⟨σ6,H6,J6,hσ,q6⟩=>?_
   have q7:=ht' _ s6 σ6 H6 _ J6 q6
   rw [exe] at q7
   refine thn q7 fun ok s7 ⟨H7,J7,q7⟩=>?_
   have lenσ:∀{H8:Hp} {s8:Shared} {pl:List (Addr × Obj)},Inv X' pl σ6 H8 s8->(List.replicate kk none++σ).length=σ6.length:=fun {H8 s8 pl} J8=>J6.len.symm ▸ I4.len
   have weak:∀{H8:Hp} {s8:Shared} {pl:List (Addr × Obj)},Inv X' pl σ6 H8 s8->Inv X' pl (List.replicate kk none++σ) H8 s8:=fun {H8 s8 pl} J8=>by
    refine J8.weak (lenσ J8) fun j v e=>?_
    by_cases hj:j < kk
    ·rw [List.getElem?_append_left (by simpa using hj),List.getElem?_replicate,if_pos hj] at e
     cases e
    ·have hj':kk<=j:=Nat.le_of_not_lt hj
     rw [List.getElem?_append_right (by simpa using hj'),List.length_replicate,<-hσ,List.getElem?_drop] at e
     rw [<-e]
     congr 1
     omega
   have back:∀{H8:Hp} {s8:Shared},Inv X' ([(s2.heap.objs.size,{ cls:=.type "list",data:=.seq its.toArray k })]++Ek fp s5.heap) σ6 H8 s8->
     Inv X' [] (List.replicate kk none++σ) H8 s8/\tn (i + 1) s8.heap/\(∀b∈fp,H8 b=none)/\H8 s2.heap.objs.size=none/\s8.heap.get? s2.heap.objs.size=some { cls:=.type "list",data:=.seq its.toArray k }:=fun {H8 s8} J8=>by
    have eD:=J8.pin (s2.heap.objs.size,{ cls:=.type "list",data:=.seq its.toArray k }) (Zh_ _ (Zt_ _ Θc))
    refine ⟨(weak J8).pins_of fun p hp=>absurd hp (by simp),T.keep _ _ _ st5 fun b hb o e=>(J8.pin (b,o) (List.mem_append_right _ (List.mem_append_right _ (X0 hb e)))).1,fun b hb=>?_,eD.2.1,eD.1⟩
    obtain ⟨o,e,d⟩:=T.obj _ _ st5 b hb
    exact (J8.pin (b,o) (Zh_ _ (Zh_ _ (X0 hb e)))).2.1
   cases ok with
   | false=>
    simp only [Bool.false_eq_true,if_false] at q7 ⊢
    obtain ⟨m',hm,w7⟩:=hN _ _ q7
    obtain ⟨a1,a2,a3,a4,a5⟩:=back J7
    exact ⟨m',hm,i + 1,acc,its,k,H7,a1,a2,a3,a4,rv,a5,w7⟩
   | true=>
    simp only [if_true] at q7 ⊢
    have q8:=he' _ s7 σ6 H7 _ J7 q7
    rw [exe] at q8
    refine thn q8 fun u8 s8 ⟨y,H8,J8,r8,q9⟩=>?_
    obtain ⟨m',hm,w8⟩:=hN _ _ q9
    obtain ⟨a1,a2,a3,a4,a5⟩:=back J8
    have hits:its.length=acc.length:=rv.length.symm
    refine wpAny_list_append_plain (hsz:=by show its.toArray.size<=sizeLine; rw [Zx_,hits]; exact Nat.le_of_lt hz) ⟨k,a5⟩ fun h9 hl9 hs9=>?_
    obtain ⟨k9,e9⟩:=hl9
    refine ⟨m',hm,i + 1,acc++[y],its++[u8],k9,H8,?_,?_,a3,a4,rv.append (.cons r8 .nil),?_,w8⟩
    ·exact a1.turned (t':=s8.toks) (fun b o hb e=>hs9.extBut b o hb e) a4 (by rw [eXloc]; exact hDC) (.inl (by rw [eXex]; exact Θc)) (fun x c e=>by
      rcases cell1 x c e with z | z
      ·rw [z,hC]; exact Nat.ne_of_gt (Nat.lt_succ_of_lt (Nat.lt_succ_self _))
      ·exact hnocell _ (Nat.le_refl _) x c z) (fun p hp=>by rw [eXpn] at hp; simp at hp)
    ·exact T.keep _ _ _ a2 fun b hb o e=>hs9.extBut b o (Zs_ (fpLt b hb)) e
    ·rw [e9]
     congr 2
     simp
 exact codeAny_compStart_list (loop _ rfl) (T.self X.A 0 _ _ _ st1 (loop _ rfl))
theorem Fm {E:Value->Shared->Prop} {RR:Value->Addr->Result->Shared->Prop} (S:CScope X xs sc) (hcalm:X.calm=true)
  (hg:∀ex s3 H3,PG (cxC X xs sc ex s3 H3) tg g) (ht:∀ex s3 H3,PTs (cxC X xs sc ex s3 H3) ifs tc) (he:∀ex s3 H3,PE (cxC X xs sc ex s3 H3) elt te)
  (I:Inv X pins σ H s2) (T:Turn X.prog X.w X.K tg J fp it tn) (st:tn 0 s2.heap) (f2:∀b∈fp,FpOk X pins H b)
  (W:Nat->Nat->List V->Hp->Prop) (w0:∃m,W 0 m [] H) (F:List V->Hp->Prop)
  (turn:∀i m acc H,W i m acc H->(J.stop i H/\acc.length<=sizeLine/\F acc H)\/
   (J.go i H/\acc.length < sizeLine/\∃N:List V->Hp->Prop,(∀acc' H',N acc' H'->∃m',m' < m/\W (i + 1) m' acc' H')/\∀x H',J.yld i H x H'->g x (List.replicate xs.length none++σ) H' fun σ2 H2=>σ2.drop xs.length=σ/\tc σ2 H2 fun c H3=>
    if c=true then te σ2 H3 fun y H4=>N (acc++[y]) H4 else N acc H3))
  (fin:∀D C s' acc H',(∃m,s'.heap.Ns C m)->FpOk X pins (upd H' D (.lst acc)) C->F acc H'->H' D=none->Inv X pins σ (upd H' D (.lst acc)) s'->RR (.ref D) C (.ok .next) s') :
  wpAny (model X.prog X.w) X.A (newList []) (fun acc s3=>wpAny (model X.prog X.w) X.A (newFunctionEnv sc X.env.globals (clF X.env.cells sc.names []) [] X.env.qual none .none (some X.env)) (fun cenv s4=>
   codeAny (model X.prog X.w) X.A (.compStart (.ListComp elt [⟨tg,iter,ifs,0⟩] sc pos) 0 (.ref it) acc { cenv with scope:=relabel sc X.env }) (RR acc cenv.locals) s4) E s3) E s2:=by
 refine wpAny_newObj_type (wpAny_newFunctionEnv S.nocell (by intro y hy; simp at hy) (fun h₁ hns₁ hsb₁=>?_) S.kind)
 dsimp only at hns₁ hsb₁ ⊢
 generalize hH3:s2.heap.push { cls:=.type "list",dict:=none,data:=.seq ([]:List Value).toArray }=H3 at hns₁ hsb₁ ⊢
 have k1:∀b o,H3.get? b=some o->h₁.get? b=some o:=fun b o e=>hsb₁.extBut b o (Zs_ (Zn_ e)) (Zc_ _ e)
 exact Fn (X':=cxC X xs sc (s2.heap.objs.size :: fp) { s2 with heap:=H3 } H) (hg _ _ _) (ht _ _ _) (he _ _ _) I T st f2 W w0 F turn fin hH3 k1 (fun I3 hex=>Tz S I3 hex hns₁ k1) (fun x c e=>.inr (G6 e).1) ⟨rfl,rfl,rfl,rfl,rfl,rfl,rfl,hcalm,rfl,rfl,rfl,rfl,rfl⟩
end
noncomputable def LCW (n:Nat) (J:It) (g:TG) (tc:TT) (te:TE) (σ:St) (H1:Hp) (F:List V->Hp->Prop):Prop:=
 ∃W:Nat->Nat->List V->Hp->Prop,(∃m,W 0 m [] H1)/\∀i m acc H,W i m acc H->(J.stop i H/\acc.length<=sizeLine/\F acc H)\/
  (J.go i H/\acc.length < sizeLine/\∃N:List V->Hp->Prop,(∀acc' H',N acc' H'->∃m',m' < m/\W (i + 1) m' acc' H')/\∀x H',J.yld i H x H'->g x (List.replicate n none++σ) H' fun σ2 H2=>σ2.drop n=σ/\tc σ2 H2 fun c H3=>
   if c=true then te σ2 H3 fun y H4=>N (acc++[y]) H4 else N acc H3)
noncomputable def tLC (n:Nat) (wi:TI) (g:TG) (tc:TT) (te:TE):TE:=fun σ H Q=>wi σ H fun J H1=>LCW n J g tc te σ H1 fun acc H=>∀p,H p=none->Q (.ref p) (upd H p (.lst acc))
section
variable {X:Cx} {tg iter elt:Expr} {ifs:List Expr} {sc:Scope} {pos:Pos} {xs:List Str} {wi:TI} {g:TG} {tc:TT} {te:TE}
theorem FpOk.turn {pins:List (Addr × Obj)} {σ:St} {H:Hp} {s:Shared} {C:Addr} {h':Heap} (f:FpOk X pins H C) (I:Inv X pins σ H s) (hs:Heap.SameBut C s.heap h'):Inv X pins σ H { s with heap:=h' }:=
 I.turned (t':=s.toks) (fun b o hb e=>hs.extBut b o hb e) f.1 f.2.1 f.2.2.2.1 f.2.2.2.2.1 f.2.2.2.2.2
theorem M1 (S:CScope X xs sc) (hc:X.calm=true) (hi:PI X tg iter wi) (hg:∀ex s3 H3,PG (cxC X xs sc ex s3 H3) tg g) (ht:∀ex s3 H3,PTs (cxC X xs sc ex s3 H3) ifs tc) (he:∀ex s3 H3,PE (cxC X xs sc ex s3 H3) elt te)
  (hs:∀x,foldedSetIterable iter X.env x=pure x:=by intro _; rfl):PE X (.ListComp elt [⟨tg,iter,ifs,0⟩] sc pos) (tLC xs.length wi g tc te):=by
 intro pins s σ H Q I h
 rw [eval_ListComp]
 refine wpAny_comprehension_free (use:=none) rfl hs (Ak (S.cells I.ok)) S.kind S.names (thn (hi pins s σ H _ I h) fun v s1 h1=>thn h1 fun itv s2 h2=>?_)
 obtain ⟨it,fp,tn,J,H2,e,I2,T,st2,f2,W,w0,turn⟩:=h2
 subst e
 refine Fm (RR:=fun acc C=>compPost (model X.prog X.w) X.A X.xe none (EP X pins σ Q) acc C) S hc hg ht he I2 T st2 f2 W w0 _ turn fun D C s' acc H' hns fC hF hD IF=>?_
 obtain ⟨m,hm⟩:=hns
 exact ⟨m,hm,fun h' hs'=>⟨.ref D,_,fC.turn IF hs',rfl,hF D hD⟩⟩
theorem Op {i:Nat} {y:Str} {pos' spos:Pos} (S:CScope X xs sc) (hc:X.calm=true) (hN:X.N.Nodup) (hy:X.N[i]? = some y) (hk:X.env.scope.names.lookup y=some .local)
  (hi:PI X tg iter wi) (hg:∀ex s3 H3,PG (cxC X xs sc ex s3 H3) tg g) (ht:∀ex s3 H3,PTs (cxC X xs sc ex s3 H3) ifs tc) (he:∀ex s3 H3,PE (cxC X xs sc ex s3 H3) elt te)
  (hsw:swapsWith (.ListComp elt [⟨tg,iter,ifs,0⟩] sc pos) (some (.Name y pos')) spos.line X.env=pure true:=by rfl)
  (hs:∀x,foldedSetIterable iter X.env x=pure x:=by intro _; rfl):PS X (.Assign [.Name y pos'] (.ListComp elt [⟨tg,iter,ifs,0⟩] sc pos) spos) (Ac8 (tLC xs.length wi g tc te) (Tq i)):=by
 intro pins s σ H D I h
 rw [exec_Assign_Name_used _ _ _ _ hsw]
 refine Za_ (wpAny_standAt (Za_ ?_))
 show wpAny _ X.A (do let _ <-comprehension (.ListComp elt [⟨tg,iter,ifs,0⟩] sc pos) sc X.env _ (newList []) false (eval iter X.env) (some (assign (.Name y pos') X.env))) _ _ s
 refine Za_ (wpAny_mono (wpAny_comprehension_free (use:=some (assign (.Name y pos') X.env)) (Q:=fun _ s'=>SP X pins D .next s') rfl hs (Ak (S.cells I.ok)) S.kind S.names
  (thn (hi pins s σ H _ I h) fun v s1 h1=>thn h1 fun itv s2 h2=>?_)) (fun _ s' hq=>Zb_ (Zb_ hq)) fun _ _ e=>e)
 obtain ⟨it,fp,tn,J,H2,e,I2,T,st2,f2,W,w0,turn⟩:=h2
 subst e
 refine Fm (RR:=fun acc C=>compPost (model X.prog X.w) X.A X.xe (some (assign (.Name y pos') X.env)) (fun _ s'=>SP X pins D .next s') acc C) S hc hg ht he I2 T st2 f2 W w0 _ turn fun D' C s' acc H' hns fC hF hD IF=>?_
 obtain ⟨m,hm⟩:=hns
 refine wpAny_assign_Name (Gb (v:=.ref D') IF hN hy (.inl hk) rfl (fun s'' I'' hsb=>?_) (.inr hk))
 obtain ⟨a,hsb,ha⟩:=hsb
 have hne:C≠a:=by
  rcases ha with z | z
  ·rw [z]; exact fC.2.1
  ·exact fun q=>fC.2.2.2.2.1 y a z q.symm
 refine ⟨m,hm.sameBut hsb hne,fun h' hs'=>⟨_,_,fC.turn I'' hs',hF D' hD⟩⟩
end
theorem W9 {K:Θf} {a:Addr} {xs:List V} {n:Nat} {g:TG} {tc:TT} {te:TE} {σ:St} {H:Hp} {F:List V->Hp->Prop} (Pv:Nat->List V->Hp->Prop) (hn:xs.length<=1000000) (h0:Pv 0 [] H)
  (hl:∀i acc H,i<=xs.length->Pv i acc H->SqL K H a xs/\acc.length<=i)
  (hs:∀i x acc H,xs[i]? = some x->Pv i acc H->g x (List.replicate n none++σ) H fun σ2 H2=>σ2.drop n=σ/\tc σ2 H2 fun c H3=>if c=true then te σ2 H3 fun y H4=>Pv (i + 1) (acc++[y]) H4 else Pv (i + 1) acc H3)
  (hd:∀acc H,Pv xs.length acc H->F acc H):LCW n (Itl K a) g tc te σ H F:=by
 have sz:(1000000:Nat) < sizeLine:=by rw [sizeLine_eq]; decide
 refine ⟨fun i m acc H=>m=xs.length - i/\i<=xs.length/\Pv i acc H,⟨xs.length,by simp,Nat.zero_le _,h0⟩,?_⟩
 rintro i m acc H ⟨rfl,hi,p⟩
 have q:=hl i acc H hi p
 by_cases hlt:i < xs.length
 ·refine .inr ⟨⟨xs,xs[i],q.1,by simp [hlt]⟩,by omega,Pv (i + 1),fun acc' H' p'=>⟨xs.length - (i + 1),by omega,rfl,hlt,p'⟩,fun x H' y=>?_⟩
  obtain ⟨e,y⟩:=y
  subst e
  exact hs i x acc _ (y xs q.1) p
 ·have e:i=xs.length:=by omega
  subst e
  exact .inl ⟨⟨xs,q.1,Zd_ _⟩,by omega,hd acc H p⟩
theorem Jv {lo:Int} {k:Nat} {n:Nat} {g:TG} {tc:TT} {te:TE} {σ:St} {H:Hp} {F:List V->Hp->Prop} (Pv:Nat->List V->Hp->Prop) (hn:k<=1000000) (h0:Pv 0 [] H)
  (hl:∀i acc H,i<=k->Pv i acc H->acc.length<=i)
  (hs:∀i acc H,i < k->Pv i acc H->g (.int (lo + i)) (List.replicate n none++σ) H fun σ2 H2=>σ2.drop n=σ/\tc σ2 H2 fun c H3=>if c=true then te σ2 H3 fun y H4=>Pv (i + 1) (acc++[y]) H4 else Pv (i + 1) acc H3)
  (hd:∀acc H,Pv k acc H->F acc H):LCW n (Itr lo k) g tc te σ H F:=by
 have sz:(1000000:Nat) < sizeLine:=by rw [sizeLine_eq]; decide
 refine ⟨fun i m acc H=>m=k - i/\i<=k/\Pv i acc H,⟨k,by simp,Nat.zero_le _,h0⟩,?_⟩
 rintro i m acc H ⟨rfl,hi,p⟩
 have q:=hl i acc H hi p
 by_cases hlt:i < k
 ·refine .inr ⟨hlt,by omega,Pv (i + 1),fun acc' H' p'=>⟨k - (i + 1),by omega,rfl,hlt,p'⟩,fun x H' y=>?_⟩
  obtain ⟨e,y⟩:=y
  subst e y
  exact hs i acc _ hlt p
 ·have e:i=k:=by omega
  subst e
  exact .inl ⟨Zd_ _,by omega,hd acc H p⟩
section
variable {prog:Program} {w:World} {A:Around} {E:Value->Shared->Prop} {s:Shared}
end
section
variable {X:Cx} {pos:Pos}
theorem Jc:P3 X (.builtin "isinstance") (fun xs H Q=>∃x n t b,xs=[x,.ty n]/\TyOf X.K H x t/\PySem.W.kitOne X.K t (.type n)=some b/\Q (.bl b) H):=by
 intro pins s σ H xs us Q I r h
 obtain ⟨x,n,t,b,rfl,ty,e,q⟩:=h
 obtain ⟨u,v,rfl,rx,ry⟩:=Aa8 r
 obtain rfl:v=Value.type n:=ry
 exact Qk I rx ty e fun tk=>⟨.bl b,H,I.tok tk,rfl,q⟩
theorem Qw:MtR X "int.bit_length" (fun x xs H Q=>∃i,x = .int i/\xs=[]/\Q (.int ((Builtin.Int.intBits i:Nat):Int)) H):=by
 intro pins s σ H x xs v us Q I rx rs h
 obtain ⟨i,rfl,rfl,q⟩:=h
 obtain ⟨t,rfl⟩:=rx
 cases rs
 exact call_int_bit_length ⟨.int _,H,I.tok _,⟨_,rfl⟩,q⟩
noncomputable def Zn (K:Θf) (neg:Bool):R2:=fun x y H Q=>∃(a b:Addr) (ns ms:List Int),x = .ref a/\y = .ref b/\SqL K H a (ns.map V.int)/\SqL K H b (ms.map V.int)/\Q (.bl (if neg then !decide (ns=ms) else decide (ns=ms))) H
theorem Acd (hu:X.A.units + 64 < cLine):OpR X (compareOp .Eq) (Zn X.K false):=by
 intro pins s σ H x y v u Q I rx ry h
 obtain ⟨a,b,ns,ms,rfl,rfl,h1,h2,q⟩:=h
 cases rx; cases ry
 obtain ⟨its,rv,pl,_⟩:=I.list h1
 obtain ⟨its',rv',pl',_⟩:=I.list h2
 exact PySem.W.eq_intsK pl.isList (P6 rv) pl'.isList (P6 rv') hu ⟨.bl _,H,I,rfl,q⟩
theorem Acf (hu:X.A.units + 64 < cLine):OpR X (compareOp .NotEq) (Zn X.K true):=by
 intro pins s σ H x y v u Q I rx ry h
 obtain ⟨a,b,ns,ms,rfl,rfl,h1,h2,q⟩:=h
 cases rx; cases ry
 obtain ⟨its,rv,pl,_⟩:=I.list h1
 obtain ⟨its',rv',pl',_⟩:=I.list h2
 exact PySem.W.ne_intsK pl.isList (P6 rv) pl'.isList (P6 rv') hu ⟨.bl _,H,I,rfl,q⟩
end
noncomputable def But (st:Addr) (H H':Hp):Prop:=∀b o,H b=some o->b≠st->H' b=some o
theorem But.refl (st:Addr) (H:Hp):But st H H:=fun _ _ h _=>h
theorem But.trans {st:Addr} {H H1 H2:Hp} (a:But st H H1) (b:But st H1 H2):But st H H2:=fun c o h n=>b c o (a c o h n) n
theorem But.put (st:Addr) (H:Hp) (o:HO):But st H (upd H st o):=fun b u e n=>by rw [C9 n]; exact e
theorem Same.but {st:Addr} {H H':Hp} (e:Same H H'):But st H H':=fun b o h _=>e b o h
theorem Same.new {H:Hp} {p:Addr} {o:HO} (h:H p=none):Same H (upd H p o):=fun b u e=>by rw [C9 (C7 e h)]; exact e
theorem But.new {st:Addr} {H:Hp} {p:Addr} {o:HO} (h:H p=none):But st H (upd H p o):=(Same.new h).but
theorem K9 {x:Int} {n:Nat} (h0:0<=x) (h1:x < (n:Int)):∃r:Nat,x=(r:Int)/\r < n:=⟨x.toNat,by omega,by omega⟩
theorem Ac7 (m:Nat):(1:Int) * 2 ^ (m:Int).toNat=((2 ^ m:Nat):Int):=by simp
theorem Tg {m:Nat} (h:m<=1000):Xu 1 (m:Int):=⟨by omega,by omega,by decide⟩
theorem Abd {a b n:Nat} (h:a < n):a&&&b < n:=Nat.lt_of_le_of_lt Nat.and_le_left h
theorem W3 (a b:Nat):Builtin.bitAnd (a:Int) (b:Int)=((a&&&b:Nat):Int):=by
 simp [Builtin.bitAnd]
theorem Dl (x:Int):Builtin.bitNot (Builtin.bitNot x)=x:=by unfold Builtin.bitNot; omega
theorem Fk (a b:Nat):Builtin.bitOr (a:Int) (b:Int)=((a|||b:Nat):Int):=by
 have ha:¬0<=Builtin.bitNot (a:Int):=by unfold Builtin.bitNot; omega
 have hb:¬0<=Builtin.bitNot (b:Int):=by unfold Builtin.bitNot; omega
 unfold Builtin.bitOr
 simp only [Builtin.bitAnd,ha,hb,decide_false,Dl,Int.toNat_natCast]
theorem Cg (k:Nat):((2:Int) ^ k)=((2 ^ k:Nat):Int):=by simp
noncomputable def Ado (N xs:List Str) (osc sc:Scope):Bool:=
 decide (sc.kind = .function) && sc.names.all (fun y=>decide (y.2≠.cell)) && sc.names.all (fun y=>decide (y.2≠.local) || decide (sc.names.lookup y.1=some .local)) && xs.all (fun x=>decide (sc.names.lookup x=some .local)) &&
  N.all (fun y=>decide (sc.names.lookup y≠some .local)) && sc.names.all (fun y=>decide (y.2≠.free) || (decide (osc.names.lookup y.1=some .cell) || decide (osc.names.lookup y.1=some .free))) && decide ((xs++N).Nodup)
theorem cs {X:Cx} {xs:List Str} {sc:Scope} (N:List Str) (osc:Scope) (hN:X.N=N) (ho:X.env.scope=osc) (h:Ado N xs osc sc=true):CScope X xs sc:=by
 unfold Ado at h
 simp only [Bool.and_eq_true,List.all_eq_true,decide_eq_true_eq,Bool.or_eq_true] at h
 obtain ⟨⟨⟨⟨⟨⟨h1,h2⟩,h3⟩,h4⟩,h5⟩,h6⟩,h7⟩:=h
 refine ⟨h1,h2,fun y hy e=>?_,h4,by rw [hN]; exact h5,fun y hy e=>?_,by rw [hN]; exact h7⟩
 ·rcases h3 y hy with z | z
  ·exact absurd e z
  ·exact z
 ·rcases h6 y hy with z | z
  ·exact absurd e z
  ·show X.env.scope.names.lookup y.1=_\/X.env.scope.names.lookup y.1=_
   rw [ho]; exact z
theorem He (x:Int) {m:Int} (h:0 < m):0<=x % m:=Int.emod_nonneg _ (by omega)
theorem Hd (x:Int) {m:Int} (h:0 < m):x % m < m:=Int.emod_lt_of_pos _ h
noncomputable def vN (k:Nat):V:=V.int (k:Int)
noncomputable def E3 (a k:Nat):Bool:=decide (a / 2 ^ k % 2=1)
noncomputable def Jb (a:Nat):Nat:=Builtin.Int.intBits (a:Int)
noncomputable def L1 (a:Nat):List Nat:=(List.range (Jb a)).filter (E3 a)
theorem Ct (l:List Nat):(l.map fun (k:Nat)=>(k:Int)).map V.int=l.map vN:=by rw [List.map_map]; rfl
theorem Dp {a:Nat} (h:a < 2 ^ 20):Jb a<=20:=by
 unfold Jb Builtin.Int.intBits
 split
 ·omega
 ·rename_i z
  have h0:a≠0:=by intro e; subst e; exact z rfl
  have:a.log2 < 20:=(Nat.log2_lt h0).mpr h
  show (a:Int).natAbs.log2 + 1<=20
  rw [Int.natAbs_natCast]
  omega
theorem Gs (a b:Nat):decide (V.int (a:Int)=V.int (b:Int))=decide (a=b):=by
 rw [Az,Bool.eq_iff_iff,beq_iff_eq,decide_eq_true_iff]
 exact Int.ofNat_inj
noncomputable def Xa:Sp:=fun vs H Q _=>∃a k:Nat,vs=[vN a,vN k]/\Q (.bl (E3 a k)) H
noncomputable def Mt:Sp:=fun vs H Q _=>∃a:Nat,vs=[vN a]/\a < 2 ^ 20/\∀p,H p=none->Q (.ref p) (upd H p (.lst ((L1 a).map vN)))
noncomputable def Db:Sp:=fun vs H Q _=>∃m:Nat,vs=[vN m]/\m<=1000/\Q (vN (2 ^ m - 1)) H
theorem Abp (a k:Nat):decide (V.int (Builtin.bitAnd ((a:Int) / 2 ^ (k:Int).toNat) 1)=V.int 1)=E3 a k:=by
 have e:((a:Int) / 2 ^ (k:Int).toNat)=((a / 2 ^ k:Nat):Int):=by
  rw [Int.toNat_natCast,Cg]; omega
 rw [e,show (1:Int)=((1:Nat):Int) from rfl,W3,Gs,Nat.and_one_is_mod]
 rfl
theorem V5 (p:Nat->Bool) (i:Nat):(List.range (i + 1)).filter p=(List.range i).filter p++(if p i=true then [i] else []):=by
 rw [List.range_succ,List.filter_append]
 congr 1
 cases h:p i <;> simp [h]
section
variable {X:Cx} {K:Θf}
theorem E4 (h:X.K=K):IxR X (Zp K):=h ▸ Yf
theorem D2 (h:X.K=K):IxR X (Ad5 K):=h ▸ Abs
theorem G0 (h:X.K=K):P3 X (.builtin "len") (fun xs H Q=>∃p ys,xs=[.ref p]/\(SqL K H p ys\/SqT K H p ys)/\Q (.int ys.length) H):=h ▸ Gk
theorem Te (h:X.K=K):P3 X (.builtin "isinstance") (fun xs H Q=>∃x n t b,xs=[x,.ty n]/\TyOf K H x t/\PySem.W.kitOne K t (.type n)=some b/\Q (.bl b) H):=h ▸ Jc
theorem K7 (h:X.K=K):P3 X (.type "list") (fun xs H Q=>∃p ys,xs=[.ref p]/\(SqL K H p ys\/SqT K H p ys)/\∀l,H l=none->Q (.ref l) (upd H l (.lst ys))):=h ▸ Gm
theorem Q6 (h:X.K=K):P3 X (.type "tuple") (fun xs H Q=>∃p ys,xs=[.ref p]/\((SqL K H p ys/\∀l,H l=none->Q (.ref l) (upd H l (.tup ys)))\/(SqT K H p ys/\Q (.ref p) H))):=h ▸ Ez
theorem Zc (h:X.K=K) (hu:X.A.units + 64 < cLine):OpR X (compareOp .Eq) (Zn K false):=h ▸ Acd hu
theorem Ze (h:X.K=K) (hu:X.A.units + 64 < cLine):OpR X (compareOp .NotEq) (Zn K true):=h ▸ Acf hu
theorem E7 {tg l:Expr} {tl:TE} (h:X.K=K) (hl:PE X l tl):PI X tg l (Aax K tl):=h ▸ Zk hl
theorem Zl {tg l:Expr} {tl:TE} (h:X.K=K) (hl:PE X l tl):PI X tg l (Adx K tl):=h ▸ Aco hl
end
noncomputable def rN (C:Nat->Nat->Prop) (g:Nat->Nat->V):R2:=fun x y H Q=>∃i j:Nat,x=vN i/\y=vN j/\C i j/\Q (g i j) H
noncomputable def rN0 (g:Nat->Nat->V):R2:=fun x y H Q=>∃i j:Nat,x=vN i/\y=vN j/\Q (g i j) H
section
variable {X:Cx}
theorem OpR.mono {f:Value->Value->Sem Value} {r r':R2} (h:OpR X f r) (k:∀x y H Q,r' x y H Q->r x y H Q):OpR X f r':=fun pins s σ H x y v u Q I rx ry q=>h pins s σ H x y v u Q I rx ry (k x y H Q q)
theorem X2:OpR X (binaryOp .Add) (rN0 fun i j=>vN (i + j)):=op_add.mono fun x y H Q ⟨i,j,h1,h2,q⟩=>⟨i,j,h1,h2,by show Q (V.int ((i:Int) + j)) H; rw [<-Int.natCast_add]; exact q⟩
theorem Zd:OpR X (binaryOp .Mult) (rN (fun i _=>i < 2 ^ 64) fun i j=>vN (i * j)):=op_mul.mono fun x y H Q ⟨i,j,h1,h2,h,q⟩=>⟨i,j,h1,h2,.inl ⟨by omega,by omega⟩,by show Q (V.int ((i:Int) * j)) H; rw [<-Int.natCast_mul]; exact q⟩
theorem Vf:OpR X (binaryOp .Mod) (rN (fun _ j=>0 < j) fun i j=>vN (i % j)):=op_mod.mono fun x y H Q ⟨i,j,h1,h2,h,q⟩=>⟨i,j,h1,h2,by omega,by show Q (V.int ((i:Int) % j)) H; rw [<-Int.natCast_emod]; exact q⟩
theorem Ft:OpR X (binaryOp .FloorDiv) (rN (fun _ j=>0 < j/\j < 1073741824) fun i j=>vN (i / j)):=op_fdiv.mono fun x y H Q ⟨i,j,h1,h2,h,q⟩=>⟨i,j,h1,h2,⟨by omega,by omega⟩,by show Q (V.int ((i:Int) / j)) H; rw [<-Int.natCast_ediv]; exact q⟩
theorem op_shlN:OpR X (binaryOp .LShift) (rN (fun i j=>j<=1000/\i < 2 ^ 64) fun i j=>vN (i * 2 ^ j)):=op_shl.mono fun x y H Q ⟨i,j,h1,h2,h,q⟩=>⟨i,j,h1,h2,⟨by omega,by omega,by rw [Int.natAbs_natCast]; exact h.2⟩,by
 show Q (V.int ((i:Int) * 2 ^ (j:Int).toNat)) H
 rw [Int.toNat_natCast,Cg,<-Int.natCast_mul]; exact q⟩
theorem Hh:OpR X (binaryOp .LShift) (fun x y H Q=>∃j:Nat,x = .int 1/\y=vN j/\j<=1000/\Q (vN (2 ^ j)) H):=op_shlN.mono fun x y H Q ⟨j,h1,h2,h,q⟩=>⟨1,j,h1,h2,⟨h,by decide⟩,by show Q (vN (1 * 2 ^ j)) H; rw [Nat.one_mul]; exact q⟩
theorem X3:OpR X (binaryOp .BitAnd) (rN0 fun i j=>vN (i&&&j)):=op_and.mono fun x y H Q ⟨i,j,h1,h2,q⟩=>⟨i,j,h1,h2,by show Q (V.int (Builtin.bitAnd (i:Int) j)) H; rw [W3]; exact q⟩
theorem Bw:OpR X (binaryOp .BitOr) (rN0 fun i j=>vN (i|||j)):=op_or.mono fun x y H Q ⟨i,j,h1,h2,q⟩=>⟨i,j,h1,h2,by show Q (V.int (Builtin.bitOr (i:Int) j)) H; rw [Fk]; exact q⟩
theorem Bu:OpR X (compareOp .Eq) (rN0 fun i j=>.bl (decide (i=j))):=op_eq.mono fun x y H Q ⟨i,j,h1,h2,q⟩=>by
 subst h1 h2
 refine ⟨rfl,?_⟩
 show Q (V.bl (decide (V.int (i:Int)=V.int (j:Int)))) H
 rw [Gs]; exact q
theorem Bv:OpR X (compareOp .NotEq) (rN0 fun i j=>.bl (!decide (i=j))):=op_ne.mono fun x y H Q ⟨i,j,h1,h2,q⟩=>by
 subst h1 h2
 refine ⟨rfl,?_⟩
 show Q (V.bl (!decide (V.int (i:Int)=V.int (j:Int)))) H
 rw [Gs]; exact q
theorem dlt (i j:Nat):decide ((i:Int) < (j:Int))=decide (i < j):=by rw [decide_eq_decide]; omega
theorem Ve:OpR X (compareOp .Lt) (rN0 fun i j=>.bl (decide (i < j))):=op_lt.mono fun x y H Q ⟨i,j,h1,h2,q⟩=>⟨i,j,h1,h2,by show Q (V.bl (decide ((i:Int) < j))) H; rw [dlt]; exact q⟩
theorem Eh:OpR X (compareOp .Gt) (rN0 fun i j=>.bl (decide (j < i))):=op_gt.mono fun x y H Q ⟨i,j,h1,h2,q⟩=>⟨i,j,h1,h2,by show Q (V.bl (decide ((j:Int) < i))) H; rw [dlt]; exact q⟩
end
theorem O7 {k:Nat} {n:Nat} {g:TG} {tc:TT} {te:TE} {σ:St} {H:Hp} {F:List V->Hp->Prop} (Pv:Nat->List V->Hp->Prop) (hn:k<=1000000) (h0:Pv 0 [] H)
  (hl:∀i acc H,i<=k->Pv i acc H->acc.length<=i)
  (hs:∀i acc H,i < k->Pv i acc H->g (vN i) (List.replicate n none++σ) H fun σ2 H2=>σ2.drop n=σ/\tc σ2 H2 fun c H3=>if c=true then te σ2 H3 fun y H4=>Pv (i + 1) (acc++[y]) H4 else Pv (i + 1) acc H3)
  (hd:∀acc H,Pv k acc H->F acc H):LCW n (Itr 0 k) g tc te σ H F:=
 Jv Pv hn h0 hl (fun i acc H hi p=>by rw [Int.zero_add]; exact hs i acc H hi p) hd
theorem U3 {n:Nat} {g:TG} {tb:TS} {D:Ends} {σ:St} {H:Hp} (Pv:Nat->St->Hp->Prop) (h0:Pv 0 σ H)
  (hs:∀i σ H,i < n->Pv i σ H->g (vN i) σ H fun σ2 H2=>tb { D with nx:=Pv (i + 1),ct:=Pv (i + 1),bk:=D.nx } σ2 H2) (hd:∀σ H,Pv n σ H->D.nx σ H) :
  ∃W:Nat->Nat->St->Hp->Prop,(∃m,W 0 m σ H)/\∀i m σ H,W i m σ H->
   ((Itr 0 n).stop i H/\D.nx σ H)\/((Itr 0 n).go i H/\∃N:St->Hp->Prop,(∀σ' H',N σ' H'->∃m',m' < m/\W (i + 1) m' σ' H')/\∀x H',(Itr 0 n).yld i H x H'->g x σ H' fun σ2 H2=>tb { D with nx:=N,ct:=N,bk:=D.nx } σ2 H2):=
 Qc (lo:=0) Pv h0 (fun i σ H hi p=>by rw [Int.zero_add]; exact hs i σ H hi p) hd
section
variable {X:Cx} {K:Θf}
theorem Gn (h:X.K=K):P3 X (.builtin "sorted") (fun xs H Q=>∃(p:Addr) (ns:List Int),xs=[.ref p]/\SqL K H p (ns.map V.int)/\ns.length < 64/\∀(l:Addr) (ns':List Int),H l=none->ns'.Perm ns->ns'.Pairwise (·<=·)->Q (.ref l) (upd H l (.lst (ns'.map V.int)))):=by
 subst h
 intro pins s σ H xs us Q I r h
 obtain ⟨p,ns,rfl,hq,h64,q⟩:=h
 obtain ⟨u,rfl,rx⟩:=W0 r
 cases rx
 obtain ⟨its,rv,pl,hz⟩:=I.list hq
 refine sorted_ints pl.isList (P6 rv) (by rw [<-rv.length,Θl]; exact h64) fun out ns' a1 a2 a3=>?_
 obtain ⟨e,he⟩:=sortedAll_at s.heap its out
 refine ⟨.ref (s.heap.objs.size + 1),_,I.laid (t':=s.toks) (fun b o=>sortedAll_old) (Nat.le_succ _) (show ObjOk X.prog X.w _ _ _ (.lst (ns'.map V.int)) from ⟨?_,out.toList,e,Cd a1,by simpa using he⟩),rfl,q _ ns' (I.hok.fresh (Nat.le_succ _)) a2 a3⟩
 rw [Θl,a2.length_eq]
 exact Nat.le_of_lt (E2 (by omega))
noncomputable abbrev Cx.withN (X:Cx) (N':List Str):Cx:={ X with N:=N' }
theorem Cx.Ok.withN {X:Cx} (ok:X.Ok) (N':List Str):(X.withN N').Ok:=
 ⟨ok.mod,ok.kind,ok.glob,ok.blt,ok.above,ok.inj,ok.has,ok.cab,ok.hd,ok.frames,ok.stk,ok.exf,ok.bs,ok.bsz,ok.noex,ok.exfs,ok.funs,ok.frf⟩
theorem Cx.Ok.ofN {X:Cx} {N':List Str} (ok:(X.withN N').Ok):X.Ok:=
 ⟨ok.mod,ok.kind,ok.glob,ok.blt,ok.above,ok.inj,ok.has,ok.cab,ok.hd,ok.frames,ok.stk,ok.exf,ok.bs,ok.bsz,ok.noex,ok.exfs,ok.funs,ok.frf⟩
theorem Zi {e:Expr} {t:TE} (j:Nat) (hv:¬Vis X.env.scope "") (h:PE (X.withN (X.N.set j "")) e t):PE X e (fun σ H Q=>(∀v,σ[j]?≠some (some v))/\t σ H Q):=by
 intro pins s σ H Q I ⟨hd,hw⟩
 have I':Inv (X.withN (X.N.set j "")) pins σ H s:=by
  refine ⟨I.ok.withN _,I.os,I.bare,I.base,?_,I.cell,I.free,I.freeC,I.pin,I.hok,by rw [I.len]; simp⟩
  obtain ⟨m,h1,h2⟩:=I.loc
  refine ⟨m,h1,fun i x v e1 e2 e3=>?_⟩
  by_cases hj:j=i
  ·subst hj; exact absurd e2 (hd v)
  ·exact h2 i x v (by rwa [show (X.withN (X.N.set j "")).N=X.N.set j "" from rfl,List.getElem?_set_ne hj] at e1) e2 e3
 refine thn (h pins s σ H Q I' hw) fun u s' ⟨v,H',J,r,q⟩=>⟨v,H',?_,r,q⟩
 refine ⟨J.ok.ofN,J.os,J.bare,J.base,?_,J.cell,J.free,J.freeC,J.pin,J.hok,I.len⟩
 obtain ⟨m,h1,h2⟩:=J.loc
 refine ⟨m,h1,fun i x v e1 e2 e3=>?_⟩
 by_cases hj:j=i
 ·subst hj; exact absurd e2 (hd v)
 ·exact h2 i x v (by rwa [show (X.withN (X.N.set j "")).N=X.N.set j "" from rfl,List.getElem?_set_ne hj]) e2 e3
end
noncomputable def SqF (K:Θf) (H:Hp) (a:Addr) (ns:List Int):Prop:=(∃o,H a=some (.frz o (.lst (ns.map V.int))))\/
 ∃(o:Obj) (its:Array Value) (n:Nat),K.lookup a=some o/\o.cls = .type "list"/\o.dict=none/\o.data = .seq its n/\its.size<=sizeLine/\Vals (ns.map V.int) its.toList
theorem SqF.sq {K:Θf} {H:Hp} {a:Addr} {ns:List Int} (h:SqF K H a ns):SqL K H a (ns.map V.int):=by
 rcases h with ⟨o,h⟩ | h
 ·exact .inl (.inr ⟨o,h⟩)
 ·exact .inr h
theorem SqF.of {K:Θf} {H:Hp} {a:Addr} {ns:List Int} (hO:Xv H) (h:SqL K H a (ns.map V.int)):SqF K H a ns:=by
 rcases h with (h | ⟨o,h⟩) | h
 ·rcases hO a with z | ⟨o,xs,z⟩
  ·rw [h] at z; cases z
  ·rw [h] at z; cases z
 ·exact .inl ⟨o,h⟩
 ·exact .inr h
theorem SqF.imp {K:Θf} {H H':Hp} {a:Addr} {ns:List Int} (h:SqF K H a ns) (e:∀o,H a=some (.frz o (.lst (ns.map V.int)))->H' a=some (.frz o (.lst (ns.map V.int)))):SqF K H' a ns:=by
 rcases h with ⟨o,h⟩ | h
 ·exact .inl ⟨o,e o h⟩
 ·exact .inr h
noncomputable def STF (K:Θf) (H:Hp) (st:Addr) (ns:List Int) (k:Nat):Prop:=∃sc,H st=some (.lst [.ref sc,.int (k:Int)])/\SqF K H sc ns
theorem STF.seq {K:Θf} {H H':Hp} {st sc:Addr} {ns:List Int} {v:V} (h:H st=some (.lst [.ref sc,v])) (hs:SqF K H sc ns) (b:But st H H'):SqF K H' sc ns:=
 hs.imp fun o z=>b _ _ z fun e=>by
  subst e
  rw [h] at z
  cases z
theorem STF.same {K:Θf} {H H':Hp} {st:Addr} {ns:List Int} {k:Nat} (h:STF K H st ns k) (e:Same H H'):STF K H' st ns k:=by
 obtain ⟨sc,h1,h2⟩:=h
 exact ⟨sc,e _ _ h1,h2.imp fun o z=>e _ _ z⟩
theorem STF.new {K:Θf} {H:Hp} {st p:Addr} {ns:List Int} {k:Nat} {o:HO} (h:STF K H st ns k) (hp:H p=none):STF K (upd H p o) st ns k:=h.same (Same.new hp)
theorem STF.start {K:Θf} {H:Hp} {a p:Addr} {ns:List Int} (h:SqF K H a ns) (hp:H p=none):STF K (upd H p (.lst [.ref a,.int 0])) p ns 0:=
 ⟨a,A8,h.imp fun o z=>(Same.new hp) _ _ z⟩
theorem STF.put {K:Θf} {H:Hp} {st p:Addr} {ns:List Int} {k:Nat} {xs ys:List V} (h:STF K H st ns k) (hp:H p=some (.lst xs)) (hn:p≠st):STF K (upd H p (.lst ys)) st ns k:=by
 obtain ⟨sc,h1,h2⟩:=h
 refine ⟨sc,by rw [C9 (Ne.symm hn)]; exact h1,h2.imp fun o z=>?_⟩
 rw [C9]
 ·exact z
 ·intro e
  subst e
  rw [hp] at z
  cases z
theorem STF.some {K:Θf} {H:Hp} {st:Addr} {ns:List Int} {k:Nat} (h:STF K H st ns k):∃o,H st=some o:=by
 obtain ⟨sc,h1,_⟩:=h
 exact ⟨_,h1⟩
theorem But.own {st p:Addr} {H H':Hp} {o:HO} (b:But st H H') (hp:H p=none):But st H (upd H' p o):=fun c u e n=>by
 rw [C9 (C7 e hp)]
 exact b c u e n
noncomputable def U9 (K:Θf):Sp:=fun vs H Q _=>∃(st:Addr) (ns:List Int) (k:Nat) (most:Int),vs=[.ref st,.int most]/\STF K H st ns k/\k<=1000000/\ns.length<=63/\0 < most/\
 ∀(r:Int) (H':Hp),0<=r->r < most->STF K H' st ns (k + 1)->But st H H'->Q (.int r) H'
noncomputable def Mu (K:Θf):Sp:=fun vs H Q _=>∃(st:Addr) (ns:List Int) (k m:Nat),vs=[.ref st,.int (m:Int)]/\STF K H st ns k/\k<=900000/\ns.length<=63/\1<=m/\m<=7/\
 ∀(r k':Nat) (H':Hp),r < 2 ^ m->k'<=k + 3->STF K H' st ns k'->But st H H'->Q (.int (r:Int)) H'
section
variable {X:Cx} {K:Θf}
theorem Adp (i j:Int):decide (V.int i=V.int j)=decide (i=j):=by
 rw [Az,Bool.eq_iff_iff,beq_iff_eq,decide_eq_true_iff]
theorem Acc:OpR X (compareOp .Eq) (rI0 fun i j=>.bl (decide (i=j))):=op_eq.mono fun x y H Q ⟨i,j,h1,h2,q⟩=>by
 subst h1 h2
 exact ⟨rfl,by rw [Adp]; exact q⟩
theorem Ace:OpR X (compareOp .NotEq) (rI0 fun i j=>.bl (!decide (i=j))):=op_ne.mono fun x y H Q ⟨i,j,h1,h2,q⟩=>by
 subst h1 h2
 exact ⟨rfl,by rw [Adp]; exact q⟩
theorem Abc (ns ms:List Int):((List.range (min ns.length ms.length)).all (fun j=>decide (ns.getD j 0=ms.getD j 0)) && ns.length == ms.length)=decide (ns=ms):=by
 rw [Bool.eq_iff_iff,Bool.and_eq_true,List.all_eq_true,beq_iff_eq,decide_eq_true_iff]
 constructor
 ·rintro ⟨h,hl⟩
  refine List.ext_getElem hl fun j h1 h2=>?_
  have:=Zj_ (h j (List.mem_range.mpr (by omega)))
  rw [Zu_,Θh h1,Zu_,Θh h2] at this
  exact this
 ·rintro rfl
  exact ⟨fun j _=>Zr_ rfl,rfl⟩
theorem Ps (bs:List Bool):((List.range bs.length).all fun i=>bs.getD i true)=bs.all id:=by
 rw [Bool.eq_iff_iff,List.all_eq_true,List.all_eq_true]
 constructor
 ·intro h b hb
  obtain ⟨i,hi,rfl⟩:=List.getElem_of_mem hb
  have:=h i (List.mem_range.mpr hi)
  rwa [Zu_,Θh hi] at this
 ·intro h i hi
  have hi':=List.mem_range.mp hi
  rw [Zu_,Θh hi']
  exact h _ (List.getElem_mem hi')
theorem Pw (h:X.K=K) (hc:X.calm=true):P3 X (.builtin "all") (fun xs H Q=>∃(p:Addr) (bs:List Bool),xs=[.ref p]/\SqL K H p (bs.map V.bl)/\Q (.bl (bs.all id)) H):=by
 subst h
 intro pins s σ H xs us Q I r h
 obtain ⟨p,bs,rfl,hq,q⟩:=h
 obtain ⟨u,rfl,rx⟩:=W0 r
 cases rx
 obtain ⟨its,rv,pl,hz⟩:=I.list hq
 have len:its.length=bs.length:=by rw [<-rv.length,Θl]
 refine call_all_walk (wpAny_pyIter_list pl.isList ⟨s.heap.objs.size,[s.heap.objs.size,p],[s.heap.objs.size],its.toArray.size,_,_,fun i=>bs.getD i true,rfl,Walks.list (A:=X.A.in1) (I.ok.hd hc) _ p (Zs_ pl.lt) its.toArray,⟨⟨_,Zm_ _ rfl,rfl,rfl⟩,pl.isList.push _⟩,fun i v s' Q' E' hP hQ=>?_,fun h' tk hk=>?_⟩)
 ·have hP':its[i]? = some v:=by simpa using hP
  have hi:i < bs.length:=by rw [<-len]; exact (Ze_.mp hP').1
  obtain ⟨c,e1,r1⟩:=rv.get (i:=i) (x:=V.bl bs[i]) (by rw [Θg,Θh hi]; rfl)
  rw [hP'] at e1
  obtain rfl:=Θo e1
  obtain rfl:v=Value.bool bs[i]:=r1
  refine wpAny_truthy_bool ?_
  have hQ':Q' (bs.getD i true) s':=hQ
  rwa [Zu_,Θh hi] at hQ'
 ·refine ⟨.bl (bs.all id),H,I.kept fun b o e=>hk b o (fun hm=>?_) (Zc_ _ e),?_,q⟩
  ·rw [Θs hm] at e
   exact Nat.lt_irrefl _ (Zn_ e)
  ·show _=Value.bool _
   rw [Zx_,len,Ps]
end
section
variable {prog:Program} {w:World} {A:Around} {E:Value->Shared->Prop} {s:Shared}
end
section
variable {X:Cx} {pins:List (Addr × Obj)} {σ:St} {H:Hp} {s:Shared}
theorem Inv.turnedL {t':Nat} {h':Heap} {ch:List Addr} (I:Inv X pins σ H s) (k:∀b o,b∉ch->s.heap.get? b=some o->h'.get? b=some o) (hf:∀b∈ch,FpOk X pins H b):Inv X pins σ H { s with heap:=h',toks:=t' }:=by
 have nit:∀b u,H b=some u->b∉ch:=fun b u e z=>by rw [(hf b z).1] at e; cases e
 refine I.step (g':=s.gens) (d':=s.drawn) (ch:=ch) (fun b hb=>?_) (fun b o _ _ hc e _=>k b o hc e) (fun b o _ _ hc e _=>⟨o.slots,k b o hc e⟩) (fun _ _ _ _ n=>n) (fun b o hc e=>⟨o,k b o hc e⟩) (fun _ _ e=>e) (fun _ _ _ e=>e) (fun b ps e=>⟨#[],by rw [e]; simp⟩) (fun m hm=>?_) (fun b u e=>?_) I.bare
 ·obtain ⟨f0,f1,f2,f3,f4,f5⟩:=hf b hb
  exact ⟨f3,f1,f4,f5⟩
 ·obtain ⟨o,es,ep,ho,r⟩:=hm
  exact ⟨o,es,ep,k _ o (fun z=>(hf _ z).2.1 rfl) ho,r⟩
 ·refine (I.hok b u e).stay (fun c v hc q=>k c v ?_ q) (fun _ q=>q) fun _ _ q=>q
  rcases hc with z | z
  ·rw [z]; exact nit b u e
  ·exact nit c _ z
end
theorem F1 {K:Θf} {H H1:Hp} {st p:Addr} {ns:List Int} {k:Nat} (S:STF K H1 st ns k) (B:But st H H1) (hp:H1 p=none):H p=none/\p≠st:=by
 have hn:p≠st:=fun e=>by
  obtain ⟨o,z⟩:=S.some
  rw [<-e,hp] at z; cases z
 refine ⟨?_,hn⟩
 cases e:H p with
 | none=>rfl
 | some o=>rw [B p o e hn] at hp; cases hp
theorem K4 {K:Θf} {H H1:Hp} {st t:Addr} {ns:List Int} {k:Nat} {xs:List V} (S:STF K H st ns k) (B:But st H H1) (h:H t=some (.tup xs)):H1 t=some (.tup xs):=
 B _ _ h fun e=>by
  obtain ⟨sc,h1,_⟩:=S
  rw [<-e,h] at h1; cases h1
noncomputable def RowsAt (H:Hp):List Addr->List (List Int)->Prop
 | [],[]=>True
 | t :: ts,r :: rs=>H t=some (.tup (r.map V.int))/\RowsAt H ts rs
 | _,_=>False
theorem RowsAt.imp {H H':Hp} (f:∀t xs,H t=some (.tup xs)->H' t=some (.tup xs)):∀{ts:List Addr} {rs:List (List Int)},RowsAt H ts rs->RowsAt H' ts rs
 | [],[],_=>trivial
 | t :: ts,r :: rs,⟨h,q⟩=>⟨f _ _ h,RowsAt.imp f q⟩
 | [],_ :: _,h=>h.elim
 | _ :: _,[],h=>h.elim
theorem RowsAt.len {H:Hp}:∀{ts:List Addr} {rs:List (List Int)},RowsAt H ts rs->ts.length=rs.length
 | [],[],_=>rfl
 | t :: ts,r :: rs,⟨_,q⟩=>by rw [ZA,ZA,q.len]
 | [],_ :: _,h=>h.elim
 | _ :: _,[],h=>h.elim
theorem RowsAt.get {H:Hp}:∀{ts:List Addr} {rs:List (List Int)} {i:Nat},RowsAt H ts rs->i < rs.length->∃t r,ts[i]? = some t/\rs[i]? = some r/\H t=some (.tup (r.map V.int))
 | [],[],i,_,h=>absurd h (Nat.not_lt_zero _)
 | t :: ts,r :: rs,0,⟨h,_⟩,_=>⟨t,r,rfl,rfl,h⟩
 | t :: ts,r :: rs,i + 1,⟨_,q⟩,h=>by
  obtain ⟨t',r',a,b,c⟩:=RowsAt.get q (by simpa using h)
  exact ⟨t',r',a,b,c⟩
 | [],_ :: _,_,h,_=>h.elim
 | _ :: _,[],_,h,_=>h.elim
theorem RowsAt.snoc {H:Hp} {t:Addr} {r:List Int} (e:H t=some (.tup (r.map V.int))):∀{ts:List Addr} {rs:List (List Int)},RowsAt H ts rs->RowsAt H (ts++[t]) (rs++[r])
 | [],[],_=>⟨e,trivial⟩
 | t' :: ts,r' :: rs,⟨h,q⟩=>⟨h,RowsAt.snoc e q⟩
 | [],_ :: _,h=>h.elim
 | _ :: _,[],h=>h.elim
theorem T9 {H:Hp} {p:Addr} {xs ys:List V} (hp:H p=some (.lst xs)):∀t zs,H t=some (.tup zs)->(upd H p (.lst ys)) t=some (.tup zs):=fun t zs e=>by
 rw [C9]
 ·exact e
 ·intro z
  rw [z,hp] at e; cases e
noncomputable def K6 (r1 r2:List Int) (s:Nat):List Int:=(List.range r1.length).map fun k=>if E3 s k=true then r1.getD k 0 else r2.getD k 0
noncomputable def Dg (r1 r2:List Int) (s:Nat):Bool:=((L1 s).map fun c=>decide (r1.getD c 0=r2.getD c 0)).all id
noncomputable def Yq (r1 r2:List Int) (s:Nat):List Nat:=(List.range r1.length).filter fun k=>E3 s k && !decide (r1.getD k 0=r2.getD k 0)
noncomputable def P5 (r1 r2:List Int) (s:Nat):Bool:=decide (Yq r1 r2 s=[])
theorem O8 {r:List Int} {k:Nat} (h:k < r.length):(r.map V.int)[k]? = some (V.int (r.getD k 0)):=by
 rw [Θg,Θh h,Zu_,Θh h]; rfl
noncomputable def Ij:Sp:=fun vs H Q _=>∃a k:Nat,vs=[vN a,vN k]/\k<=20/\Q (.bl (E3 a k)) H
noncomputable def Pd (K:Θf):Sp:=fun vs H Q _=>∃(a b:Addr) (r1 r2:List Int) (s:Nat),vs=[.ref a,.ref b,vN s]/\SqT K H a (r1.map V.int)/\SqT K H b (r2.map V.int)/\s < 2 ^ 20/\(∀c∈L1 s,c < r1.length/\c < r2.length)/\∀H',Same H H'->Q (.bl (Dg r1 r2 s)) H'
noncomputable def X6 (K:Θf):Sp:=fun vs H Q _=>∃(a b:Addr) (r1 r2:List Int) (s:Nat),vs=[.ref a,.ref b,vN s]/\SqT K H a (r1.map V.int)/\SqT K H b (r2.map V.int)/\r1.length=r2.length/\r1.length<=20/\
 ∀p H',Same H H'->H p=none->H' p=some (.tup ((K6 r1 r2 s).map V.int))->Q (.ref p) H'
noncomputable def Pc (K:Θf):Sp:=fun vs H Q _=>∃(a b:Addr) (r1 r2:List Int) (s:Nat),vs=[.ref a,.ref b,vN s]/\SqT K H a (r1.map V.int)/\SqT K H b (r2.map V.int)/\r1.length=r2.length/\r1.length<=20/\
 ∀H',Same H H'->Q (.bl (P5 r1 r2 s)) H'
noncomputable def Xc (K:Θf):Sp:=fun vs H Q _=>∃(st:Addr) (ns:List Int) (k:Nat),vs=[.ref st]/\STF K H st ns k/\k<=900000/\ns.length<=63/\
 ∀(pl:List Int) (p:Addr) (k':Nat) (H':Hp),1<=pl.length->pl.length<=4->k'<=k + 3->H p=none->H' p=some (.lst (pl.map V.int))->STF K H' st ns k'->But st H H'->Q (.ref p) H'
noncomputable def Wy (K:Θf):Sp:=fun vs H Q _=>∃(st:Addr) (ns:List Int) (k m n:Nat),vs=[.ref st,vN m,vN n]/\STF K H st ns k/\k<=800000/\ns.length<=63/\1<=m/\m<=7/\n<=16/\
 ∀(ts:List Addr) (rs:List (List Int)) (p:Addr) (k':Nat) (H':Hp),rs.length=n->(∀r∈rs,r.length=m)->k'<=k + 4 + 14 * n->H p=none->H' p=some (.lst (ts.map V.ref))->RowsAt H' ts rs->STF K H' st ns k'->But st H H'->Q (.ref p) H'
theorem Same.tupS {K:Θf} {H H':Hp} {a:Addr} {xs:List V} (e:Same H H') (h:SqT K H a xs):SqT K H' a xs:=by
 rcases h with (h | ⟨o,h⟩) | h
 ·exact .inl (.inl (e _ _ h))
 ·exact .inl (.inr ⟨o,e _ _ h⟩)
 ·exact .inr h
section
variable {κ:Type} [DecidableEq κ]
noncomputable def O2 (kvs:List (κ × V)) (k:κ):Option V:=(kvs.find? fun kv=>decide (kv.1=k)).map (·.2)
noncomputable def P2 (kvs:List (κ × V)) (k:κ) (v:V):List (κ × V):=
 if (kvs.any fun kv=>decide (kv.1=k))=true then kvs.map (fun kv=>if kv.1=k then (kv.1,v) else kv) else kvs++[(k,v)]
theorem M7 {p:κ × V} {r:List (κ × V)} {k:κ} (e:p.1=k):O2 (p :: r) k=some p.2:=by simp [O2,List.find?_cons,e]
theorem M6 {p:κ × V} {r:List (κ × V)} {k:κ} (e:¬p.1=k):O2 (p :: r) k=O2 r k:=by simp [O2,List.find?_cons,e]
theorem Z8 (k:κ):∀kvs:List (κ × V),(kvs.any fun kv=>decide (kv.1=k))=(O2 kvs k).isSome
 | []=>rfl
 | p :: r=>by
  rw [List.any_cons]
  by_cases e:p.1=k
  ·simp only [M7 e,decide_eq_true e,Bool.true_or,Option.isSome_some]
  ·rw [M6 e,decide_eq_false e,Bool.false_or]; exact Z8 k r
theorem Kw (k j:κ) (y:V):∀kvs:List (κ × V),O2 (kvs.map fun kv=>if kv.1=k then (kv.1,y) else kv) j=(O2 kvs j).map fun x=>if j=k then y else x
 | []=>rfl
 | p :: r=>by
  have ih:=Kw k j y r
  rw [List.map_cons]
  by_cases h:p.1=k
  ·rw [if_pos h]
   by_cases e:p.1=j
   ·rw [M7 (p:=(p.1,y)) e,M7 e,Option.map_some,if_pos (e.symm.trans h)]
   ·rw [M6 (p:=(p.1,y)) e,M6 e,ih]
  ·rw [if_neg h]
   by_cases e:p.1=j
   ·rw [M7 (p:=p) e,M7 e,Option.map_some,if_neg (fun z=>h (e.trans z))]
   ·rw [M6 (p:=p) e,M6 e,ih]
theorem Gg (k j:κ) (y:V):∀kvs:List (κ × V),O2 kvs k=none->O2 (kvs++[(k,y)]) j=if j=k then some y else O2 kvs j
 | [],_=>by
  by_cases e:k=j
  ·rw [if_pos e.symm]; exact M7 (p:=(k,y)) e
  ·rw [if_neg (fun z=>e z.symm)]; exact M6 (p:=(k,y)) e
 | p :: r,hn=>by
  rw [List.cons_append]
  have hk:¬p.1=k:=fun z=>by rw [M7 z] at hn; cases hn
  rw [M6 hk] at hn
  have ih:=Gg k j y r hn
  by_cases e:p.1=j
  ·rw [M7 e,M7 e,if_neg (fun z=>hk (e.trans z))]
  ·rw [M6 e,M6 e,ih]
theorem Xp (kvs:List (κ × V)) (k j:κ) (y:V):O2 (P2 kvs k y) j=if j=k then some y else O2 kvs j:=by
 unfold P2
 by_cases a:(kvs.any fun kv=>decide (kv.1=k))=true
 ·rw [if_pos a,Kw]
  rw [Z8] at a
  by_cases e:j=k
  ·obtain ⟨x,hx⟩:=Option.isSome_iff_exists.mp a
   rw [if_pos e,e,hx,Option.map_some,if_pos rfl]
  ·rw [if_neg e]
   cases O2 kvs j with
   | none=>rfl
   | some x=>rw [Option.map_some,if_neg e]
 ·rw [if_neg a]
  refine Gg k j y kvs ?_
  rw [Z8] at a
  cases q:O2 kvs k with
  | none=>rfl
  | some x=>rw [q] at a; exact (a rfl).elim
theorem Q7 (kvs:List (κ × V)) (k:κ) (v:V):(P2 kvs k v).length<=kvs.length + 1:=by
 unfold P2
 split
 ·rw [Θl]; omega
 ·rw [Zv_,ZA,List.length_nil]; omega
theorem Vq {kvs:List (κ × V)} {k:κ} (v:V) (h:O2 kvs k=none):P2 kvs k v=kvs++[(k,v)]:=by
 unfold P2
 rw [Z8,h]
 exact if_neg (by decide)
theorem RelO.isSome_eq {o:Option V} {u:Option Value} (r:RelO o u):o.isSome=u.isSome:=by
 cases o with
 | none=>cases u with
  | none=>rfl
  | some _=>exact (show False from r).elim
 | some _=>cases u with
  | none=>exact (show False from r).elim
  | some _=>rfl
theorem RelO.getD {o:Option V} {u:Option Value} {d:V} {d':Value} (r:RelO o u) (rd:RelV d d'):RelV (o.getD d) (u.getD d'):=by
 cases o with
 | none=>cases u with
  | none=>exact rd
  | some _=>exact (show False from r).elim
 | some _=>cases u with
  | none=>exact (show False from r).elim
  | some _=>exact r
theorem KV.val {kvs:List (κ × V)} {vs:List (κ × Value)} (r:KV kvs vs) (k:κ):RelO (O2 kvs k) (valueAt vs k):=by
 unfold KV at r
 induction r with
 | nil=>exact True.intro
 | @cons p q ps qs h t ih=>
  obtain ⟨h1,h2⟩:=h
  by_cases e:p.1=k
  ·have e':q.1=k:=h1.symm.trans e
   have b:valueAt (q :: qs) k=some q.2:=by simp [valueAt,List.find?_cons,e']
   rw [M7 e,b]; exact h2
  ·have e':¬q.1=k:=fun z=>e (h1.trans z)
   have b:valueAt (q :: qs) k=valueAt qs k:=by simp [valueAt,List.find?_cons,e']
   rw [M6 e,b]; exact ih
theorem KV.any {kvs:List (κ × V)} {vs:List (κ × Value)} (r:KV kvs vs) (k:κ):(kvs.any fun kv=>decide (kv.1=k))=vs.any fun kv=>decide (kv.1=k):=by
 unfold KV at r
 induction r with
 | nil=>rfl
 | cons h t ih=>rw [List.any_cons,List.any_cons,ih,h.1]
theorem KV.repl {kvs:List (κ × V)} {vs:List (κ × Value)} (r:KV kvs vs) (k:κ) {y:V} {u:Value} (ry:RelV y u) :
  KV (kvs.map fun kv=>if kv.1=k then (kv.1,y) else kv) (vs.map fun kv=>if kv.1=k then (kv.1,u) else kv):=by
 unfold KV at r ⊢
 induction r with
 | nil=>exact .nil
 | @cons p q ps qs h t ih=>
  rw [List.map_cons,List.map_cons]
  refine .cons ?_ ih
  obtain ⟨h1,h2⟩:=h
  by_cases e:p.1=k
  ·rw [if_pos e,if_pos (h1.symm.trans e)]; exact ⟨h1,ry⟩
  ·rw [if_neg e,if_neg (fun z=>e (h1.trans z))]; exact ⟨h1,h2⟩
theorem KV.put {kvs:List (κ × V)} {vs:List (κ × Value)} (r:KV kvs vs) (k:κ) {y:V} {u:Value} (ry:RelV y u):KV (P2 kvs k y) (stored vs k u):=by
 unfold P2 stored
 rw [r.any k]
 by_cases e:(vs.any fun kv=>decide (kv.1=k))=true
 ·rw [if_pos e,if_pos e]; exact r.repl k ry
 ·rw [if_neg e,if_neg e]; exact Paired.snoc r ⟨rfl,ry⟩
theorem KV.length {kvs:List (κ × V)} {vs:List (κ × Value)} (r:KV kvs vs):kvs.length=vs.length:=Paired.length r
end
theorem Oa {P:Program} {w:World} {k:Key} {u:Value} (r:RelV (kV k) u):(J0 P w).is k u=true:=by
 cases k with
 | inl i=>obtain ⟨t,e⟩:=(show ∃t,u=Value.int i t from r); subst e; exact Jw P w i t
 | inr x=>obtain ⟨t,e⟩:=(show ∃t,u=Value.str x t from r); subst e; exact Jx P w x t
theorem Fp {P:Program} {w:World}:∀{ks:List Key} {us:List Value},Vals (ks.map kV) us->ItemsAre (J0 P w) ks us
 | [],_,r=>by rw [List.map_nil] at r; cases r; exact .nil
 | k :: ks,_,r=>by
  rw [List.map_cons] at r
  cases r with
  | cons h t=>exact .cons (Oa h) (Fp t)
noncomputable abbrev KT (H:Hp):List (List Key × V)->List (List Key × Addr × Value)->Prop:=Paired fun p q=>p.1=q.1/\H q.2.1=some (.tup (p.1.map kV))/\RelV p.2 q.2.2
theorem KT.val {H:Hp} {kvs:List (List Key × V)} {xs:List (List Key × Addr × Value)} (r:KT H kvs xs) (k:List Key):RelO (O2 kvs k) ((atKey xs k).map (·.2)):=by
 induction r with
 | nil=>exact True.intro
 | @cons p q ps qs h t ih=>
  obtain ⟨h1,_,h2⟩:=h
  by_cases e:p.1=k
  ·have e':q.1=k:=h1.symm.trans e
   have b:atKey (q :: qs) k=some q.2:=by simp [atKey,List.find?_cons,e']
   rw [M7 e,b]; exact h2
  ·have e':¬q.1=k:=fun z=>e (h1.trans z)
   have b:atKey (q :: qs) k=atKey qs k:=by simp [atKey,List.find?_cons,e']
   rw [M6 e,b]; exact ih
theorem KT.repl {H:Hp} {kvs:List (List Key × V)} {xs:List (List Key × Addr × Value)} (r:KT H kvs xs) (k:List Key) {y:V} {u:Value} (ry:RelV y u) :
  KT H (kvs.map fun kv=>if kv.1=k then (kv.1,y) else kv) (xs.map (putAt k u)):=by
 induction r with
 | nil=>exact .nil
 | @cons p q ps qs h t ih=>
  rw [List.map_cons,List.map_cons]
  refine .cons ?_ ih
  obtain ⟨h1,h2,h3⟩:=h
  unfold putAt
  by_cases e:p.1=k
  ·rw [if_pos e,if_pos (h1.symm.trans e)]; exact ⟨h1,h2,ry⟩
  ·rw [if_neg e,if_neg (fun z=>e (h1.trans z))]; exact ⟨h1,h2,h3⟩
theorem KT.put {H:Hp} {kvs:List (List Key × V)} {xs:List (List Key × Addr × Value)} (r:KT H kvs xs) (k:List Key) {b:Addr} {y:V} {u:Value} (hb:H b=some (.tup (k.map kV))) (ry:RelV y u) :
  KT H (P2 kvs k y) (storedH xs k b u):=by
 have e:(kvs.any fun kv=>decide (kv.1=k))=(atKey xs k).isSome:=by
  rw [Z8,(r.val k).isSome_eq,Option.isSome_map]
 unfold P2 storedH
 rw [e]
 by_cases q:(atKey xs k).isSome=true
 ·rw [if_pos q,if_pos q]; exact r.repl k ry
 ·rw [if_neg q,if_neg q]; exact Paired.snoc r ⟨rfl,hb,ry⟩
theorem KT.keeps {H H':Hp} {kvs:List (List Key × V)} {xs:List (List Key × Addr × Value)} (r:KT H kvs xs) (ht:∀b ys,H b=some (.tup ys)->H' b=some (.tup ys)):KT H' kvs xs:=
 Paired.mapP r fun _ _ z=>⟨z.1,ht _ _ z.2.1,z.2.2⟩
section
variable {P:Program} {w:World} {H:Hp} {h:Heap} {a:Addr}
theorem Aa3 {u:HO} (ok:HOk P w H h) (e:Rd H a u):ObjOk P w H h a u:=e.ok ok
theorem Np {kvs:List (Key × V)} (ok:HOk P w H h) (e:Rd H a (.dK kvs)):kvs.length<=sizeLine/\(a == sysModules)=false/\∃vs,KV kvs vs/\h.DictOf (J0 P w) a vs:=
 show ObjOk P w H h a (.dK kvs) from Aa3 ok e
theorem Adq {kvs:List (Key × V)} (ok:HOk P w H h) (e:H a=some (.dK kvs)):kvs.length<=sizeLine/\(a == sysModules)=false/\∃vs,KV kvs vs/\h.DictOf (J0 P w) a vs:=Np ok (.inl e)
theorem Bs {ks:List Key} (ok:HOk P w H h) (e:H a=some (.tup (ks.map kV))):(tupleKind (J0 P w)).is h ks a:=by
 obtain ⟨_,its,r,o,h1,h2,n,h3⟩:=(show ObjOk P w H h a (.tup (ks.map kV)) from ok a _ e)
 exact ⟨o,its.toArray,n,h1,h2,h3,by simpa using Fp r⟩
theorem Nq {kvs:List (List Key × V)} (ok:HOk P w H h) (e:Rd H a (.dT kvs)):kvs.length<=sizeLine/\(a == sysModules)=false/\
  ∃xs,KT H kvs xs/\h.DictOfH (tupleKind (J0 P w)) a xs:=by
 obtain ⟨z,y,xs,r,o,es,ep,h1,h2,h3,h4,h5⟩:=(show ObjOk P w H h a (.dT kvs) from Aa3 ok e)
 refine ⟨z,y,xs,r,o,es,ep,h1,h2,h3,h4,fun x hx=>?_,h5⟩
 have all:∀{l:List (List Key × V)} {m:List (List Key × Addr × Value)},KT H l m->∀x∈m,(tupleKind (J0 P w)).is h x.1 x.2.1:=by
  intro l m q
  induction q with
  | nil=>intro x hx; exact nomatch hx
  | @cons p q ps qs hq t ih=>
   intro x hx
   rcases Zg_.mp hx with e | hx
   ·subst e
    exact Bs ok (by rw [<-hq.1]; exact hq.2.1)
   ·exact ih x hx
 exact all r x hx
theorem Ti {kvs:List (List Key × V)} (ok:HOk P w H h) (e:H a=some (.dT kvs)):kvs.length<=sizeLine/\(a == sysModules)=false/\
  ∃xs,KT H kvs xs/\h.DictOfH (tupleKind (J0 P w)) a xs:=Nq ok (.inl e)
end
noncomputable def DGet (H:Hp) (a:Addr) (y:V) (r:Option V):Prop:=
 (∃kvs k,Rd H a (.dK kvs)/\y=kV k/\r=O2 kvs k)\/∃kvs k b,Rd H a (.dT kvs)/\y = .ref b/\H b=some (.tup (k.map kV))/\r=O2 kvs k
noncomputable def DPut (H:Hp) (a:Addr) (y v:V) (H':Hp):Prop:=
 (∃kvs k,H a=some (.dK kvs)/\y=kV k/\kvs.length < sizeLine/\H' = upd H a (.dK (P2 kvs k v)))\/
 ∃kvs k b,H a=some (.dT kvs)/\y = .ref b/\H b=some (.tup (k.map kV))/\kvs.length < sizeLine/\H' = upd H a (.dT (P2 kvs k v))
theorem DGet.t {H:Hp} {a b:Addr} {kvs:List (List Key × V)} {k:List Key} (e:H a=some (.dT kvs)) (eb:H b=some (.tup (k.map kV))):DGet H a (.ref b) (O2 kvs k):=.inr ⟨kvs,k,b,.inl e,rfl,eb,rfl⟩
theorem DPut.t {H:Hp} {a b:Addr} {kvs:List (List Key × V)} {k:List Key} {v:V} (e:H a=some (.dT kvs)) (eb:H b=some (.tup (k.map kV))) (hl:kvs.length < sizeLine) :
  DPut H a (.ref b) v (upd H a (.dT (P2 kvs k v))):=.inr ⟨kvs,k,b,e,rfl,eb,hl,rfl⟩
section
variable {X:Cx} {pins:List (Addr × Obj)} {σ:St} {H:Hp} {s:Shared} {a:Addr} {y v:V} {u r:Value} {o:Option V} {A:Around} {E:Value->Shared->Prop}
theorem Inv.big (I:Inv X pins σ H s):sysModules < s.heap.objs.size:=by
 have h:mainGlobals < s.heap.objs.size:=(I.mod.glob.keeps I.bk).lt
 exact Nat.lt_trans (by decide) h
theorem Ya {Q:Value->Shared->Prop} (hu:A.units + 1 < cLine) (I:Inv X pins σ H s) (g:DGet H a y o) (ry:RelV y u) (h:∀s',Inv X pins σ H s'->Q (.bool (!o.isSome)) s') :
  wpAny (model X.prog X.w) A (compareOp .NotIn u (.ref a)) Q E s:=by
 rcases g with ⟨kvs,k,e,ey,l⟩ | ⟨kvs,k,b,e,ey,eb,l⟩
 ·subst ey
  obtain ⟨z,hd,vs,rel,dd⟩:=Np I.hok e
  refine wpAny_notIn_of (Oa ry) hd dd.mapOf ?_
  rw [<-(rel.val k).isSome_eq,<-l]
  exact h _ (I.tok _)
 ·subst ey
  cases (show u=Value.ref b from ry)
  obtain ⟨z,hd,xs,rel,dd⟩:=Nq I.hok e
  refine wpAny_notIn_heap (tupleKind_room_in1 hu) (Bs I.hok eb) hd dd ?_
  have q:=(rel.val k).isSome_eq
  rw [Option.isSome_map] at q
  rw [<-q,<-l]
  exact h _ (I.tok _)
theorem Cl {h':Heap} {t':Nat} {ob:HO} (I:Inv X pins σ H s) (mu:Mut (H a)) (hs:Heap.SameBut a s.heap h') (he:∃q,h'.get? a=some q) (new:ObjOk X.prog X.w (upd H a ob) h' a ob) :
  Inv X pins σ (upd H a ob) { s with heap:=h',toks:=t' }:=
 I.write (x:=a) (e:=a) mu (.inl rfl) (fun b q hb z=>(hs.2 b hb).trans z) he new
theorem Abk {P:Program} {w:World} {H':Hp} {h':Heap} {kvs:List (Key × V)} {vs:List (Key × Value)} (z:kvs.length<=sizeLine) (hd:(a == sysModules)=false) (rel:KV kvs vs) (dd:h'.DictOf (J0 P w) a vs) :
  ObjOk P w H' h' a (.dK kvs):=⟨z,hd,vs,rel,dd⟩
theorem Py {H':Hp} {Q:Unit->Shared->Prop} (hu:A.units + 1 < cLine) (I:Inv X pins σ H s) (g:DPut H a y v H') (ry:RelV y u) (rv:RelV v r) (h:∀s',Inv X pins σ H' s'->Q () s') :
  wpAny (model X.prog X.w) A (setItem (.ref a) u r) Q E s:=by
 rcases g with ⟨kvs,k,e,ey,l,eH⟩ | ⟨kvs,k,b,e,ey,eb,l,eH⟩
 ·subst ey eH
  obtain ⟨z,hd,vs,rel,dd⟩:=Adq I.hok e
  have hz:vs.length<=sizeLine:=by rw [<-rel.length]; exact z
  have hl:(P2 kvs k v).length<=sizeLine:=by have:=Q7 kvs k v; omega
  refine wpAny_setItem_pairs (hsz:=hz) (Oa ry) dd fun h' dd' hs=>h _ ?_
  have he:∃q,h'.get? a=some q:=let ⟨q,_,_,hq,_⟩:=dd'; ⟨q,hq⟩
  exact Cl I (by rw [e]; exact True.intro) hs he (Abk hl hd (rel.put k rv) dd')
 ·subst ey eH
  cases (show u=Value.ref b from ry)
  obtain ⟨z,hd,xs,rel,dd⟩:=Ti I.hok e
  have hz:xs.length<=sizeLine:=by rw [<-Paired.length rel]; exact z
  have hl:(P2 kvs k v).length<=sizeLine:=by have:=Q7 kvs k v; omega
  refine wpAny_setItem_heap (hsz:=hz) (tupleKind_room_in1 hu) (Bs I.hok eb) dd fun h' dd' hs=>h _ ?_
  obtain ⟨q,es,ep,hq,h2,h3,h4,_,h5⟩:=dd'
  refine Cl I (by rw [e]; exact True.intro) hs ⟨q,hq⟩ ⟨hl,hd,_,(rel.put k eb rv).keeps fun c ys ec=>?_,q,es,ep,hq,h2,h3,h4,h5⟩
  rw [C9 (P4 ec e (fun z=>nomatch z))]
  exact ec
end
section
variable {X:Cx} {pins:List (Addr × Obj)} {σ:St} {H:Hp} {s:Shared} {a:Addr} {kvs:List (Key × V)} {k:Key} {u:Value} {A:Around} {E:Value->Shared->Prop}
end
noncomputable def Aae (ty td:TE):TE:=fun σ H Q=>ty σ H fun y H1=>td σ H1 fun x H2=>∃a o,x = .ref a/\DGet H2 a y o/\Q (.bl (!o.isSome)) H2
noncomputable def Aed (td ty tv:TE):TS:=fun D σ H=>tv σ H fun v H1=>td σ H1 fun x H2=>ty σ H2 fun y H3=>∃a H4,x = .ref a/\DPut H3 a y v H4/\D.nx σ H4
section
variable {X:Cx} {o i e value:Expr} {pos pos' tpos:Pos} {td ty tv:TE}
theorem Rp (hu:X.A.units + 1 < cLine) (hi:PE X i ty) (ho:PE X o td):PC X .NotIn i o (Aae ty td):=by
 intro pins s σ H Q I h
 refine thn (hi pins s σ H _ I h) fun iv s1 ⟨y,H1,I1,ry,q1⟩=>thn (ho pins s1 σ H1 _ I1 q1) fun u s2 ⟨x,H2,I2,rx,a,ov,ex,g,q2⟩=>?_
 subst ex
 obtain rfl:u=Value.ref a:=rx
 exact Ya hu I2 g ry fun s3 I3=>⟨.bl (!ov.isSome),H2,I3,rfl,q2⟩
theorem Oq (hu:X.A.units + 1 < cLine) (ho:PE X o td) (hi:PE X i ty) (hv:PE X value tv) (hs:swapsWith value (some (.Subscript o i pos')) pos.line X.env=pure false) :
  PS X (.Assign [.Subscript o i pos'] value pos) (Aed td ty tv):=by
 intro pins s σ H D I h
 refine wpAny_Assign_Subscript (thn (hv pins s σ H _ I h) fun r s1 ⟨v,H1,I1,rv,q1⟩=>thn (ho pins s1 σ H1 _ I1 q1) fun u s2 ⟨x,H2,I2,rx,q2⟩=>thn (hi pins s2 σ H2 _ I2 q2) fun iv s3 ⟨y,H3,I3,ry,a,H4,ex,g,q3⟩=>?_) hs
 subst ex
 obtain rfl:u=Value.ref a:=rx
 exact Py hu I3 g ry rv fun s4 I4=>⟨σ,H4,I4,q3⟩
end
theorem Jj {P:Program} {w:World} {H:Hp} (h:Heap) (hb:sysModules < h.objs.size):ObjOk P w H (h.push { cls:=.type "dict",data:=.dict #[] }) h.objs.size (.dT []):=
 ⟨Zp_ _,beq_eq_false_iff_ne.mpr (Ne.symm (Zs_ hb)),[],.nil,_,#[],0,Zm_ _ rfl,⟨rfl,rfl,rfl⟩,rfl,rfl,List.nodup_nil⟩
noncomputable def Ada:TE:=fun _ H Q=>∀p,H p=none->Q (.ref p) (upd H p (.dT []))
section
variable {X:Cx} {pos:Pos}
theorem Ej:PE X (.Dict [] [] pos) Ada:=fun pins s σ H Q I h=>
 wpAny_Dict_empty ⟨.ref s.heap.objs.size,_,I.laid (a:=s.heap.objs.size) (o:=.dT []) (t':=s.toks) (fun _ _ q=>Zc_ _ q) (Zd_ _) (Jj s.heap I.big),rfl,h _ (I.hok.fresh (Zd_ _))⟩
end
structure M2 (X:Cx) (o:Expr) (m:Str) (apos:Pos) (e f:Expr) (cpos:Pos):Prop where
 base:attributeBase o m X.env (eval o X.env)=eval o X.env
 few:((backTo cpos (starEach [e,f] X.env)).all (fun x=>!x.1) && (backToKw cpos (keywordEach [] X.env)).all (fun x=>x.1.isSome)
  && decide (([e,f]:List Expr).length + ([]:List Keyword).length + (if ([]:List Keyword).isEmpty then 0 else 1) < 30))=true
 line:(apos.endLine == cpos.line)=true
 trees:backTo cpos (starEach [e,f] X.env)=[(false,eval e X.env),(false,eval f X.env)]
noncomputable def IsD (H:Hp) (a:Addr):Prop:=(∃kvs,Rd H a (.dK kvs))\/∃kvs,Rd H a (.dT kvs)
theorem Lp {X:Cx} {pins:List (Addr × Obj)} {σ:St} {H:Hp} {s:Shared} {a:Addr} (I:Inv X pins σ H s) (d:IsD H a) :
  s.TypeIs (.ref a) "dict"/\(∀b,Value.ref a = .ref b->∃ob,s.heap.get? b=some ob/\ob.dict=none)/\(a == sysModules)=false:=by
 rcases d with ⟨kvs,e⟩ | ⟨kvs,e⟩
 ·obtain ⟨_,hd,vs,_,dd⟩:=Np I.hok e
  refine ⟨dd.typeIs,fun b q=>?_,hd⟩
  cases q
  obtain ⟨ob,_,_,h1,h2,_⟩:=dd
  exact ⟨ob,h1,h2.2.1⟩
 ·obtain ⟨_,hd,xs,_,dd⟩:=Nq I.hok e
  refine ⟨dd.typeIs,fun b q=>?_,hd⟩
  cases q
  obtain ⟨ob,_,_,h1,h2,_⟩:=dd
  exact ⟨ob,h1,h2.2.1⟩
section
variable {X:Cx} {pins:List (Addr × Obj)} {σ:St} {H:Hp} {s:Shared} {a:Addr} {y d:V} {u r:Value} {o:Option V} {A:Around} {E:Value->Shared->Prop}
theorem Abj {Q:Value->Shared->Prop} (hu:A.units + 1 < cLine) (I:Inv X pins σ H s) (g:DGet H a y o) (ry:RelV y u) (rd:RelV d r) (h:∀w' s',Inv X pins σ H s'->RelV (o.getD d) w'->Q w' s') :
  wpAny (model X.prog X.w) A (call (.builtin "dict.get") [.ref a,u,r]) Q E s:=by
 rcases g with ⟨kvs,k,e,ey,l⟩ | ⟨kvs,k,b,e,ey,eb,l⟩
 ·subst ey
  obtain ⟨z,hd,vs,rel,dd⟩:=Np I.hok e
  refine call_meetsIn PySem.F.slot_dict_get dd.typeIs PySem.F.entry_dict_get (PySem.F.args_dict_get_3 _ _ _) (meets_dict_get_default (J0 X.prog X.w) a (Oa ry) hd r) ⟨_,dd.mapOf,h _ _ (I.tok _) ?_⟩
  rw [l]
  exact (rel.val k).getD rd
 ·subst ey
  cases (show u=Value.ref b from ry)
  obtain ⟨z,hd,xs,rel,dd⟩:=Nq I.hok e
  refine call_meetsIn PySem.F.slot_dict_get dd.typeIs PySem.F.entry_dict_get (PySem.F.args_dict_get_3 _ _ _) (meetsH_dict_get_default (tupleKind (J0 X.prog X.w)) a b hd r) ⟨tupleKind_room_in1 hu,k,xs,Bs I.hok eb,dd,h _ _ (I.tok _) ?_⟩
  rw [l]
  exact (rel.val k).getD rd
end
noncomputable def Ac9 (td ty tx:TE):TE:=fun σ H Q=>td σ H fun x H1=>∃a,x = .ref a/\IsD H1 a/\ty σ H1 fun y H2=>tx σ H2 fun z H3=>∃o,DGet H3 a y o/\Q (o.getD z) H3
section
variable {X:Cx} {o e f:Expr} {apos cpos:Pos} {td ty tx:TE}
theorem Vj (hu:X.A.units + 1 < cLine) (ho:PE X o td) (he:PE X e ty) (hf:PE X f tx) (m:M2 X o "get" apos e f cpos):PE X (.Call (.Attribute o "get" apos) [e,f] [] cpos) (Ac9 td ty tx):=by
 intro pins s σ H Q I h
 refine wpAny_Call_method m.base m.few m.line PySem.F.plainAttrs_dict PySem.F.slot_dict_get PySem.F.type_dict_get (thn (ho pins s σ H _ I h) fun u s1 ⟨x,H1,I1,rx,a,ex,d,q1⟩=>?_)
 subst ex
 obtain rfl:u=Value.ref a:=rx
 obtain ⟨t1,t2,_⟩:=Lp I1 d
 refine ⟨t1,t2,?_⟩
 rw [m.trees]
 refine Calls.callWith_builtin rfl (Calls.evalArgs_plain (Calls.spliced_cons (thn (he pins s1 σ H1 _ I1 q1) fun iv s2 ⟨y,H2,I2,ry,q2⟩=>
  Calls.spliced_cons (thn (hf pins s2 σ H2 _ I2 q2) fun fv s3 ⟨z,H3,I3,rz,ov,g,q3⟩=>Calls.spliced_nil ?_))))
 exact Abj hu I3 g ry rz fun w' s4 I4 rw'=>⟨_,H3,I4,rw',q3⟩
end
section
variable {X:Cx} {pins:List (Addr × Obj)} {σ:St} {H:Hp} {s:Shared} {a:Addr} {kvs:List (Key × V)} {A:Around} {E:Value->Shared->Prop}
end
section
variable {X:Cx} {pins:List (Addr × Obj)} {σ:St} {H:Hp} {s:Shared} {a:Addr} {y:V} {u:Value} {A:Around} {E:Value->Shared->Prop}
end
section
variable {prog:Program} {w:World} {A:Around} {E:Value->Shared->Prop} {s:Shared} {κ:Type} [DecidableEq κ] {kd:HeapKind prog w κ}
theorem sdH {d a:Addr} {xs:List (κ × Addr × Value)} {k:κ} {df:Value} {Q:Value->Shared->Prop} (hu:kd.room A) (hk:kd.is s.heap k a) (hm:s.heap.DictOfH kd d xs) (hz:xs.length<=sizeLine)
  (there:∀p,atKey xs k=some p->Q p.2 { s with toks:=s.toks + kd.draws k })
  (fresh:atKey xs k=none->∀g,g.DictOfH kd d (storedH xs k a df)->Heap.SameBut d s.heap g->Q df { s with heap:=g,toks:=s.toks + kd.draws k }):wpAny (model prog w) A (dictSetDefault d (.ref a) df) Q E s:=by
 obtain ⟨o,es,ep,ho,hc,hd,he,his,hn⟩:=hm
 unfold dictSetDefault
 try with_reducible refine wpAny_holding ?_
 refine Za_ (kd.pyHash hu hk (Za_ (wpAny_dictFind_heap (s:={ s with toks:=s.toks + kd.draws k }) hu hk ho hd he his hn (fun no=>?_) fun j p hj=>?_)))
 ·have none':atKey xs k=none:=atKey_none_of_get no
  have out:k∉xs.map (·.1):=not_mem_keys_of_get no
  refine Za_ (wpAny_rule (Za_ (wpAny_updateDictKeys (hz:=by rw [size_of_entries he]; exact hz) (s:={ s with toks:=s.toks + kd.draws k }) ho hd (Zb_ (fresh none' _ ?_ (Heap.SameBut.update ..))))))
  rw [storedH_new none']
  refine ⟨_,_,ep + 1,Heap.get?_update_self _ ho (Obj.isFreed_of_dict (Obj.data_mapDictKeys hd _)),hc.mapDictKeys _,Obj.data_mapDictKeys hd _,?_,fun x hx=>?_,?_⟩
  ·simp [he,entryOfKey]
  ·rcases Θa hx with hx | hx
   ·exact kd.keeps (his x hx) ho hd (Heap.SameBut.update ..)
   ·rw [Θs hx]
    exact kd.keeps hk ho hd (Heap.SameBut.update ..)
  ·rw [Zw_,List.nodup_append]
   refine ⟨hn,by simp,fun x hx y hy e=>out ?_⟩
   have hy':y=k:=by simpa using hy
   rw [<-hy',<-e]
   exact hx
 ·have e1:=atKey_of_get hn hj
  refine Za_ (wpAny_dictEntries (s:={ s with toks:=s.toks + kd.draws k }) ho hd ?_)
  rw [entry_at he j,hj]
  exact Za_ (wpAny_rule (Zb_ (there p e1)))
theorem Sf {d a:Addr} {df:Value} (hd:(d == sysModules)=false) :
  MeetsIn prog w (Builtin.«dict.setdefault» ⟨[.ref d,.ref a,df],[]⟩) (fun A R s=>kd.room A.in1/\∃k xs,kd.is s.heap k a/\s.heap.DictOfH kd d xs/\xs.length<=sizeLine/\
   (∀p,atKey xs k=some p->R (.ok (.ret p.2)) { s with toks:=s.toks + kd.draws k })/\
   (atKey xs k=none->∀g,g.DictOfH kd d (storedH xs k a df)->Heap.SameBut d s.heap g->R (.ok (.ret df)) { s with heap:=g,toks:=s.toks + kd.draws k })):=
 .of_wp fun A R s ⟨hu,k,xs,hk,hm,hz,h1,h2⟩=>by
  unfold Builtin.«dict.setdefault» Builtin.Dict.keyAndDefault
  refine Za_ (Za_ (wpAny_notOrdered_dict hm.typeIs (Zb_ ?_)))
  refine (show wpAny _ _ (if (d == sysModules)=true then _ else (dictSetDefault d (.ref a) df >>= _)) _ _ s from ?_)
  rw [hd,if_neg Zf_]
  exact Za_ (sdH hu hk hm hz (fun p e=>Zb_ ⟨p.2,rfl,h1 p e⟩) fun e g hg hs=>Zb_ ⟨df,rfl,h2 e g hg hs⟩)
end
noncomputable def Ae2 (td ty tx:TE):TE:=fun σ H Q=>td σ H fun x H1=>∃a,x = .ref a/\IsD H1 a/\ty σ H1 fun y H2=>tx σ H2 fun z H3=>∃kvs k b,H3 a=some (.dT kvs)/\y = .ref b/\H3 b=some (.tup (k.map kV))/\kvs.length < sizeLine/\
 (∀v,O2 kvs k=some v->Q v H3)/\(O2 kvs k=none->Q z (upd H3 a (.dT (P2 kvs k z))))
section
variable {X:Cx} {o e f:Expr} {apos cpos:Pos} {td ty tx:TE}
theorem Ack (hu:X.A.units + 1 < cLine) (ho:PE X o td) (he:PE X e ty) (hf:PE X f tx) (m:M2 X o "setdefault" apos e f cpos):PE X (.Call (.Attribute o "setdefault" apos) [e,f] [] cpos) (Ae2 td ty tx):=by
 intro pins s σ H Q I h
 refine wpAny_Call_method m.base m.few m.line PySem.F.plainAttrs_dict PySem.F.slot_dict_setdefault PySem.F.type_dict_setdefault (thn (ho pins s σ H _ I h) fun u s1 ⟨x,H1,I1,rx,a,ex,d,q1⟩=>?_)
 subst ex
 obtain rfl:u=Value.ref a:=rx
 obtain ⟨t1,t2,_⟩:=Lp I1 d
 refine ⟨t1,t2,?_⟩
 rw [m.trees]
 refine Calls.callWith_builtin rfl (Calls.evalArgs_plain (Calls.spliced_cons (thn (he pins s1 σ H1 _ I1 q1) fun iv s2 ⟨y,H2,I2,ry,q2⟩=>Calls.spliced_cons (thn (hf pins s2 σ H2 _ I2 q2) fun fv s3 ⟨z,H3,I3,rz,kvs,k,b,ea,ey,eb,hl,q3,q4⟩=>Calls.spliced_nil ?_))))
 subst ey
 obtain rfl:iv=Value.ref b:=ry
 obtain ⟨zz,hd,xs,rel,dd⟩:=Ti I3.hok ea
 have hz:xs.length<=sizeLine:=by rw [<-Paired.length rel]; exact zz
 have hv:=rel.val k
 refine call_meetsIn PySem.F.slot_dict_setdefault dd.typeIs PySem.F.entry_dict_setdefault (PySem.F.args_dict_setdefault_3 _ _ _) (Sf (kd:=tupleKind (J0 X.prog X.w)) hd) ⟨tupleKind_room_in1 hu,k,xs,Bs I3.hok eb,dd,hz,fun p ep=>?_,fun en g hg hs=>?_⟩
 ·rw [ep] at hv
  cases ev:O2 kvs k with
  | none=>rw [ev] at hv; exact hv.elim
  | some v=>
   rw [ev] at hv
   exact ⟨v,H3,I3.tok _,hv,q3 v ev⟩
 ·have ev:O2 kvs k=none:=by
   rw [en] at hv
   cases ev:O2 kvs k with
   | none=>rfl
   | some v=>rw [ev] at hv; exact hv.elim
  have hl':(P2 kvs k z).length<=sizeLine:=by have:=Q7 kvs k z; omega
  obtain ⟨qo,es,ep,hq,h2,h3,h4,_,h5⟩:=hg
  refine ⟨z,_,Cl (ob:=.dT (P2 kvs k z)) I3 (by rw [ea]; exact True.intro) hs ⟨qo,hq⟩ ⟨hl',hd,_,(rel.put k eb rz).keeps fun c ys ec=>?_,qo,es,ep,hq,h2,h3,h4,h5⟩,rz,q4 ev⟩
  rw [C9 (P4 ec ea (fun z=>nomatch z))]
  exact ec
end
section
variable {prog:Program} {w:World} {A:Around} {E:Value->Shared->Prop} {s:Shared}
theorem Aan {d:Addr} (hd:(d == sysModules)=false) :
  MeetsIn prog w (Builtin.«dict.values» ⟨[.ref d],[]⟩) (fun _ R s=>s.TypeIs (.ref d) "dict"/\R (.ok (.ret (.ref s.heap.objs.size))) { s with heap:=s.heap.push { cls:=.type "dict_values",data:=.fields #[.ref d] } }):=
 .of_wp fun A R s ⟨ty,h⟩=>by
  refine Za_ ?_
  unfold Builtin.Dict.noArgs
  refine Za_ (wpAny_notOrdered_dict ty (Zb_ ?_))
  refine (show wpAny _ _ (Builtin.Dict.showsAll d >>= _) _ _ s from ?_)
  unfold Builtin.Dict.showsAll
  rw [hd,if_neg Zf_]
  exact Za_ (Zb_ (Za_ (wpAny_newObj_type (Zb_ ⟨_,rfl,h⟩))))
theorem Xr {v d:Addr} {od:Obj} {es:Array DictEntry} {ep:Nat} {Q:Value->Shared->Prop} (hv:s.heap.IsValuesView v d) (eo:s.heap.get? d=some od) (dd:od.data = .dict es ep)
  (k:Q (.ref s.heap.objs.size) { s with heap:=s.heap.push { cls:=.type "dict_valueiterator",data:=.fields #[.ref d,.int 0 0,.int es.size 0,.int ep 0] } }):wpAny (model prog w) A (pyIter (.ref v)) Q E s:=by
 obtain ⟨ov,ev,cv,dv⟩:=id hv
 refine wpAny_pyIter_slot hv.typeIs F.slot_dict_values_iter (wpAny_call_entry F.slot_dict_values_iter hv.typeIs F.entry_dict_values_iter ?_ (F.args_dict_values_iter_1 _))
 unfold Builtin.«dict_values.__iter__» Builtin.Dict_items.dictOf Builtin.Dict_items.newIterator
 refine Za_ (Zb_ (Za_ (Za_ (wpAny_field ev dv (x:=.ref d) rfl (Zb_ (Za_ (Za_ (wpAny_dictEntries eo dd (Za_ (wpAny_dictEpoch eo dd ?_))))))))))
 rw [show Builtin.Dict_items.ownsTuple "dict_valueiterator" = false by decide]
 simp only [Bool.false_eq_true,if_false]
 refine wpAny_newObj_type (Zb_ ⟨_,rfl,"dict_valueiterator",_,⟨_,Zm_ _ rfl,rfl⟩,F.slot_dict_valueiterator_next.lookup,?_⟩)
 simpa [rawInt] using k
theorem Xq {it d:Addr} {i ep:Nat} {od:Obj} {es:Array DictEntry} {e:DictEntry} {Q:Option Value->Shared->Prop} (hI:s.heap.IsValIter it d i es.size ep) (eo:s.heap.get? d=some od) (dd:od.data = .dict es ep) (hx:es[i]? = some e)
  (k:∀g,g.IsValIter it d (i + 1) es.size ep->Heap.SameBut it s.heap g->Q (some e.val) { s with heap:=g }):wpAny (model prog w) A (pyNext (.ref it)) Q E s:=by
 obtain ⟨oi,ei,ci,di⟩:=id hI
 unfold pyNext
 refine Za_ (wpAny_attempt (wpAny_callSpecial?_slot (name:=Str.ofString "__next__") hI.typeIs F.slot_dict_valueiterator_next (wpAny_call_entry F.slot_dict_valueiterator_next hI.typeIs F.entry_dict_valueiterator_next ?_ (F.args_dict_valueiterator_next_1 _))))
 refine Za_ (Zb_ (Za_ (Za_ (Za_ (wpAny_typeNameOfWhole_valiter hI.typeIs (Zb_ ?_))))))
 refine Za_ (wpAny_fieldsOf ei di ?_)
 simp only [show Builtin.Dict_items.ownsTuple "dict_valueiterator" = false by decide,Bool.false_eq_true,if_false]
 refine (show wpAny _ _ (if (Value.ref d == Value.none)=true then _ else _) _ _ s from ?_)
 rw [show (Value.ref d == Value.none)=false from rfl,if_neg Zf_]
 refine Za_ (Zb_ (Za_ (wpAny_dictEntries eo dd ?_)))
 rw [if_neg (by simp)]
 refine Za_ (Zb_ (Za_ (wpAny_dictEpoch eo dd ?_)))
 rw [if_neg (by simp)]
 refine Zb_ ?_
 simp only [show ¬((i:Int) < 0) from by omega,if_false,Int.toNat_natCast,hx]
 refine Za_ (Za_ (wpAny_typeNameOfWhole_valiter hI.typeIs (Zb_ (Za_ (wpAny_isOneOf_valiter hI.typeIs ?_)))))
 refine (show wpAny _ _ (setField (.ref it) 1 (rawInt ((i:Int) + 1)) >>= _) _ _ s from wpAny_bind (wpAny_setField ei di (by simp) ?_))
 have hI':(s.heap.update it (Obj.mapFields (·.setIfInBounds 1 (rawInt ((i:Int) + 1))))).IsValIter it d (i + 1) es.size ep:=
  ⟨_,Heap.get?_update_self _ ei (Obj.isFreed_of_fields (Obj.data_mapFields di _)),(Obj.cls_mapFields ..).trans ci,by rw [Obj.data_mapFields di]; simp [rawInt]⟩
 have ty':Shared.TypeIs { s with heap:=s.heap.update it (Obj.mapFields (·.setIfInBounds 1 (rawInt ((i:Int) + 1)))) } (.ref it) "dict_valueiterator":=hI'.typeIs
 refine Za_ (wpAny_holding (Za_ (wpAny_isOneOf_valiter ty' (Za_ (wpAny_isOneOf_valiter ty' ?_)))))
 exact Zb_ (Zb_ ⟨e.val,rfl,Zb_ (k _ hI' (Heap.SameBut.update ..))⟩)
theorem Aam {it d:Addr} {i ep:Nat} {od:Obj} {es:Array DictEntry} {Q:Option Value->Shared->Prop} (hh:A.handled=none) (hI:s.heap.IsValIter it d i es.size ep) (eo:s.heap.get? d=some od) (dd:od.data = .dict es ep) (hx:es[i]? = none)
  (k:∀g,Heap.ExtBut it s.heap g->Q none { s with heap:=g }):wpAny (model prog w) A (pyNext (.ref it)) Q E s:=by
 obtain ⟨oi,ei,ci,di⟩:=id hI
 unfold pyNext
 refine Za_ (wpAny_attempt (wpAny_callSpecial?_slot (name:=Str.ofString "__next__") hI.typeIs F.slot_dict_valueiterator_next (wpAny_call_entry F.slot_dict_valueiterator_next hI.typeIs F.entry_dict_valueiterator_next ?_ (F.args_dict_valueiterator_next_1 _))))
 refine Za_ (Zb_ (Za_ (Za_ (Za_ (wpAny_typeNameOfWhole_valiter hI.typeIs (Zb_ ?_))))))
 refine Za_ (wpAny_fieldsOf ei di ?_)
 simp only [show Builtin.Dict_items.ownsTuple "dict_valueiterator" = false by decide,Bool.false_eq_true,if_false]
 refine (show wpAny _ _ (if (Value.ref d == Value.none)=true then _ else _) _ _ s from ?_)
 rw [show (Value.ref d == Value.none)=false from rfl,if_neg Zf_]
 refine Za_ (Zb_ (Za_ (wpAny_dictEntries eo dd ?_)))
 rw [if_neg (by simp)]
 refine Za_ (Zb_ (Za_ (wpAny_dictEpoch eo dd ?_)))
 rw [if_neg (by simp)]
 refine Zb_ ?_
 simp only [show ¬((i:Int) < 0) from by omega,if_false,Int.toNat_natCast,hx]
 refine Za_ (Za_ (wpAny_typeNameOfWhole_valiter hI.typeIs (Zb_ ?_)))
 refine (show wpAny _ _ (setField (.ref it) 0 .none >>= _) _ _ s from wpAny_bind (wpAny_setField ei di (by simp) (wpAny_bind (m:=newExc (.type "StopIteration") []) ?_)))
 simp only [newExc,newTuple]
 refine wpAny_bind (wpAny_newObj_type (wpAny_bind (m:=firstArgMember _ _) (wpAny_of_eq (a:=Value.none) (by first | rfl | (simp only [firstArgMember]; rfl)) (wpAny_newObj_type ?_ (by size_fits)))) (by size_fits))
 simp only [raiseNew]
 refine Za_ (wpAny_handled ?_)
 rw [show A.in1.handled=none from hh]
 refine Za_ (Zb_ (wpAny_throw ?_))
 exact Za_ (wpAny_isInstance (T:="StopIteration") (b:=true) ⟨_,Zm_ _ rfl,rfl⟩ isSubtype_stop (Zb_ (k _ (((Heap.SameBut.update ..).extBut.push _).push _))))
end
noncomputable def Itv (a:Addr) (o:Obj) (kvs:List (List Key × V)):It:=
 ⟨fun i H=>H a=some (.frz o (.dT kvs))/\i < kvs.length,fun i H x H'=>H' = H/\∃k,kvs[i]? = some (k,x),fun i H=>H a=some (.frz o (.dT kvs))/\kvs.length<=i⟩
theorem KT.at {H:Hp}:∀{kvs:List (List Key × V)} {xs:List (List Key × Addr × Value)} {i:Nat},KT H kvs xs->i < kvs.length->∃k v b u,kvs[i]? = some (k,v)/\xs[i]? = some (k,b,u)/\RelV v u
 | [],_,_,_,h=>absurd h (Nat.not_lt_zero _)
 | (k,v) :: kvs,(k',b,u) :: xs,0,.cons ⟨e,_,r⟩ _,_=>by
  have e':k=k':=e
  subst e'
  exact ⟨k,v,b,u,rfl,rfl,r⟩
 | _ :: kvs,_ :: xs,i + 1,.cons _ t,h=>by
  obtain ⟨k,v,b,u,h1,h2,h3⟩:=KT.at t (by simpa using h)
  exact ⟨k,v,b,u,by simpa using h1,by simpa using h2,h3⟩
section
variable {X:Cx} {pins:List (Addr × Obj)} {σ:St} {H:Hp} {s:Shared}
theorem Sr {P:Program} {w:World} {K:Θf} {tg:Expr} {a it:Addr} {o:Obj} {es:Array DictEntry} {ep:Nat} {kvs:List (List Key × V)} (dd:o.data = .dict es ep):Turn P w K tg (Itv a o kvs) [it] it (fun i h=>h.IsValIter it a i es.size ep) where
 mem:=by simp
 obj:=fun i h st b hb=>by
  obtain rfl:b=it:=by simpa using hb
  obtain ⟨o,e,c,d⟩:=st
  exact ⟨o,e,fun v z=>by rw [d] at z; cases z⟩
 keep:=fun i h h' st k=>st.at fun o e=>k it (by simp) o e
 item:=by
  intro X hP hw hK hc i pins s σ H E I hf st hg
  subst hP hw hK
  obtain ⟨ea,hlt⟩:=hg
  obtain ⟨eo,zz,hd,xs,rel,o',es',ep',e1,_,e3,e4,_⟩:=(show ObjOk X.prog X.w H s.heap a (.frz o (.dT kvs)) from I.hok a _ ea)
  have oe:o' = o:=Θo (e1.symm.trans eo)
  subst oe
  have de:es' = es/\ep' = ep:=by
   rw [dd] at e3
   injection e3 with u1 u2
   exact ⟨u1.symm,u2.symm⟩
  obtain ⟨rfl,rfl⟩:=de
  obtain ⟨k,v,b,u,k1,k2,k3⟩:=KT.at rel hlt
  obtain ⟨f0,f1,f2,f3,f4,f5⟩:=hf it (by simp)
  have ent:es'[i]? = some (entryOfKey (tupleKind (J0 X.prog X.w)) (k,b,u)):=by rw [entry_at e4 i,k2]; rfl
  refine Xq st eo dd ent fun g st' sb=>⟨u,rfl,?_⟩
  have I1:Inv X pins σ H { s with heap:=g }:=I.turned (t':=s.toks) (fun b o hb e=>(sb.2 b hb).trans e) f0 f1 f3 f4 f5
  obtain ⟨oi,ei,ci,di⟩:=id st'
  exact Nv (s:={ s with heap:=g }) ei ci di (by decide) ⟨v,H,I1,k3,⟨rfl,k,k1⟩,st',fun b hb=>(hf b hb).1⟩
 done:=by
  intro X hP hw hK hc i pins s σ H E I hf st hg
  subst hP hw hK
  obtain ⟨ea,hge⟩:=hg
  obtain ⟨eo,zz,hd,xs,rel,o',es',ep',e1,_,e3,e4,_⟩:=(show ObjOk X.prog X.w H s.heap a (.frz o (.dT kvs)) from I.hok a _ ea)
  have oe:o' = o:=Θo (e1.symm.trans eo)
  subst oe
  have de:es' = es/\ep' = ep:=by
   rw [dd] at e3
   injection e3 with u1 u2
   exact ⟨u1.symm,u2.symm⟩
  obtain ⟨rfl,rfl⟩:=de
  obtain ⟨f0,f1,f2,f3,f4,f5⟩:=hf it (by simp)
  have sz:es'.size=kvs.length:=by rw [size_of_entries e4,<-Paired.length rel]
  exact Aam (I.ok.hd hc) st eo dd (Array.getElem?_eq_none (by omega)) fun g eb=>⟨rfl,I.turned (t':=s.toks) (fun b o hb e=>eb b o hb e) f0 f1 f3 f4 f5⟩
 self:=fun _ _ _ _ _ st h=>wpAny_pyIter_valiter st h
noncomputable def Ady (td:TE):TI:=fun σ H R=>td σ H fun x H1=>∃a kvs,x = .ref a/\H1 a=some (.dT kvs)/\∀o,R (Itv a o kvs) (upd H1 a (.frz o (.dT kvs)))
theorem Hl {tg oe:Expr} {apos cpos:Pos} {td:TE} (ho:PE X oe td) (hbase:attributeBase oe "values" X.env (eval oe X.env)=eval oe X.env:=by rfl) (hline:(apos.endLine == cpos.line)=true:=by rfl) :
  PI X tg (.Call (.Attribute oe "values" apos) [] [] cpos) (Ady td):=by
 intro pins s σ H R I h
 refine wpAny_Call_method0_late hbase hline (thn (ho pins s σ H _ I h) fun v s1 ⟨x,H1,I1,r1,a,kvs,ex,ea,q⟩=>?_)
 subst ex
 obtain rfl:v=Value.ref a:=r1
 obtain ⟨t1,t2,hd⟩:=Lp I1 (.inr ⟨kvs,.inl ea⟩)
 refine ⟨"dict","dict.values",PySem.F.plainAttrs_dict,PySem.F.slot_dict_values,PySem.F.type_dict_values,t1,t2,Calls.callWith_builtin rfl (PySem.evalArgs_none ?_)⟩
 refine call_meetsIn PySem.F.slot_dict_values t1 PySem.F.entry_dict_values (PySem.F.args_dict_values_1 _) (Aan hd) ⟨t1,?_⟩
 obtain ⟨zz,hd2,xs,rel,o,es,ep,e1,e2,e3,e4,e5⟩:=(show ObjOk X.prog X.w H1 s1.heap a (.dT kvs) from I1.hok a _ ea)
 have Iv:Inv X pins σ H1 { s1 with heap:=s1.heap.push { cls:=.type "dict_values",data:=.fields #[.ref a] } }:=I1.kept (t':=s1.toks) fun b ob e=>Zc_ _ e
 refine Xr (s:={ s1 with heap:=s1.heap.push { cls:=.type "dict_values",data:=.fields #[.ref a] } }) ⟨_,Zm_ _ rfl,rfl,rfl⟩ (Zc_ _ e1) e3 ?_
 have Iw:=Iv.kept (t':=s1.toks) (h':=(s1.heap.push { cls:=.type "dict_values",data:=.fields #[.ref a] }).push { cls:=.type "dict_valueiterator",data:=.fields #[.ref a,.int 0 0,.int es.size 0,.int ep 0] }) fun b ob e=>Zc_ _ e
 have eo:((s1.heap.push { cls:=.type "dict_values",data:=.fields #[.ref a] }).push { cls:=.type "dict_valueiterator",data:=.fields #[.ref a,.int 0 0,.int es.size 0,.int ep 0] }).get? a=some o:=Zc_ _ (Zc_ _ e1)
 have If:=Iw.write (x:=a) (e:=a) (o:=.frz o (.dT kvs)) (t':=s1.toks) (h':=(s1.heap.push { cls:=.type "dict_values",data:=.fields #[.ref a] }).push { cls:=.type "dict_valueiterator",data:=.fields #[.ref a,.int 0 0,.int es.size 0,.int ep 0] }) (by rw [ea]; exact True.intro) (.inl rfl) (fun b u _ e=>e) ⟨o,eo⟩
  ⟨eo,zz,hd2,xs,KT.keeps rel (fun b ys eb=>by rw [C9 (P4 eb ea (fun z=>nomatch z))]; exact eb),o,es,ep,eo,e2,e3,e4,e5⟩
 refine ⟨_,[_],_,Itv a o kvs,_,rfl,If,Sr e3,⟨_,Zm_ _ rfl,rfl,rfl⟩,fun b hb=>?_,q o⟩
 have eb:b=(s1.heap.push { cls:=.type "dict_values",data:=.fields #[.ref a] }).objs.size:=by simpa using hb
 subst eb
 refine Iv.fpOk (Zd_ _) ?_
 rw [C9]
 ·exact Iv.hok.fresh (Zd_ _)
 ·intro z
  have:=Iv.hok.fresh (a:=(s1.heap.push { cls:=.type "dict_values",data:=.fields #[.ref a] }).objs.size) (Zd_ _)
  rw [z,ea] at this
  cases this
theorem Jn {a:Addr} {o:Obj} {kvs:List (List Key × V)} {g:TG} {tb:TS} {D:Ends} {σ:St} {H:Hp} (Pv:Nat->St->Hp->Prop) (h0:Pv 0 σ H) (hl:∀i σ H,i<=kvs.length->Pv i σ H->H a=some (.frz o (.dT kvs)))
  (hs:∀i k x σ H,kvs[i]? = some (k,x)->Pv i σ H->g x σ H fun σ2 H2=>tb { D with nx:=Pv (i + 1),ct:=Pv (i + 1),bk:=D.nx } σ2 H2) (hd:∀σ H,Pv kvs.length σ H->D.nx σ H) :
  ∃W:Nat->Nat->St->Hp->Prop,(∃m,W 0 m σ H)/\∀i m σ H,W i m σ H->
   ((Itv a o kvs).stop i H/\D.nx σ H)\/((Itv a o kvs).go i H/\∃N:St->Hp->Prop,(∀σ' H',N σ' H'->∃m',m' < m/\W (i + 1) m' σ' H')/\∀x H',(Itv a o kvs).yld i H x H'->g x σ H' fun σ2 H2=>tb { D with nx:=N,ct:=N,bk:=D.nx } σ2 H2):=by
 refine ⟨fun i m σ H=>m=kvs.length - i/\i<=kvs.length/\Pv i σ H,⟨kvs.length,by simp,Nat.zero_le _,h0⟩,?_⟩
 rintro i m σ H ⟨rfl,hi,p⟩
 have q:=hl i σ H hi p
 by_cases lt:i < kvs.length
 ·refine .inr ⟨⟨q,lt⟩,Pv (i + 1),fun σ' H' p'=>⟨kvs.length - (i + 1),by omega,rfl,lt,p'⟩,fun x H' y=>?_⟩
  obtain ⟨rfl,k,e⟩:=y
  exact hs i k x σ _ e p
 ·obtain rfl:i=kvs.length:=by omega
  exact .inl ⟨⟨q,Zd_ _⟩,hd σ H p⟩
theorem Yk {a:Addr} {o:Obj} {kvs:List (List Key × V)} {n:Nat} {g:TG} {tc:TT} {te:TE} {σ:St} {H:Hp} {F:List V->Hp->Prop} (Pv:Nat->List V->Hp->Prop) (hn:kvs.length<=1000000) (h0:Pv 0 [] H)
  (hl:∀i acc H,i<=kvs.length->Pv i acc H->H a=some (.frz o (.dT kvs))/\acc.length<=i)
  (hs:∀i k x acc H,kvs[i]? = some (k,x)->Pv i acc H->g x (List.replicate n none++σ) H fun σ2 H2=>σ2.drop n=σ/\tc σ2 H2 fun c H3=>if c=true then te σ2 H3 fun y H4=>Pv (i + 1) (acc++[y]) H4 else Pv (i + 1) acc H3)
  (hd:∀acc H,Pv kvs.length acc H->F acc H):LCW n (Itv a o kvs) g tc te σ H F:=by
 have sz:(1000000:Nat) < sizeLine:=by rw [sizeLine_eq]; decide
 refine ⟨fun i m acc H=>m=kvs.length - i/\i<=kvs.length/\Pv i acc H,⟨kvs.length,by simp,Nat.zero_le _,h0⟩,?_⟩
 rintro i m acc H ⟨rfl,hi,p⟩
 obtain ⟨q,ql⟩:=hl i acc H hi p
 by_cases lt:i < kvs.length
 ·refine .inr ⟨⟨q,lt⟩,by omega,Pv (i + 1),fun acc' H' p'=>⟨kvs.length - (i + 1),by omega,rfl,lt,p'⟩,fun x H' y=>?_⟩
  obtain ⟨rfl,k,e⟩:=y
  exact hs i k x acc _ e p
 ·obtain rfl:i=kvs.length:=by omega
  exact .inl ⟨⟨q,Zd_ _⟩,by omega,hd acc H p⟩
end
section
variable {prog:Program} {w:World} {A:Around} {E:Value->Shared->Prop} {s:Shared}
theorem Ab1:typeLookup (.type "list") "keys" = pure none:=by rw [typeLookup_type,builtinLookup_eq_fast]; kernel_rfl
theorem Qz:typeLookup (.type "list") "__getattr__" = pure none:=by rw [typeLookup_type,builtinLookup_eq_fast]; kernel_rfl
theorem Qq (a:Addr) (u:Tok) (its:Array Value) (n:Nat) (sl:Array (Option Value)) :
  Meets (Builtin.«object.__getattribute__» ⟨[.ref a,.str "keys" u],[]⟩) (fun A R s=>s.heap.get? a=some { cls:=.type "list",dict:=none,data:=.seq its n,slots:=sl }/\raisesAttr (.ref a) "keys" A R s):=
 Meets.of_wp fun prog w A R s hs=>by
  obtain ⟨hp,g,d,tk,os⟩:=s
  obtain ⟨hx,hs⟩:=hs
  have hT:(⟨hp,g,d,tk,os⟩:Shared).TypeIs (.ref a) "list":=⟨_,hx,rfl⟩
  have f1:=Ab1
  unfold Builtin.«object.__getattribute__»
  repeat (any_goals (first | assumption | wp_step))
  exact wpAny_raiseAttrError hs.1 hs.2 (attrMsg_fits (by decide +kernel) (by size_fits))
theorem Ud {a:Addr} {its:Array Value} {n:Nat} {sl:Array (Option Value)} {Q:Option Value->Shared->Prop} (hA:A.handled=none) (hx:s.heap.get? a=some { cls:=.type "list",dict:=none,data:=.seq its n,slots:=sl })
  (k:∀g tk,(∀b ob,s.heap.get? b=some ob->g.get? b=some ob)->Q none { s with heap:=g,toks:=tk }):wpAny (model prog w) A (getAttr? (.ref a) "keys") Q E s:=by
 obtain ⟨hp,g,d,tk,os⟩:=s
 have hT:(⟨hp,g,d,tk,os⟩:Shared).TypeIs (.ref a) "list":=⟨_,hx,rfl⟩
 have hT':∀t':Nat,(⟨hp,g,d,t',os⟩:Shared).TypeIs (.ref a) "list":=fun _=>⟨_,hx,rfl⟩
 have f1:=sub_AttributeError
 have f3:=F.slot_list_getattribute.lookup
 have f4:=F.slot_list_getattribute.bind (.ref a)
 have f5:=Qz
 unfold getAttr? getAttrBy? getAttrBy
 repeat (any_goals (first | assumption | ((with_reducible show wpAny _ _ (call (Value.builtin "list.__getattribute__") _ _) _ _ _); refine call_meets F.slot_list_getattribute (hT' _) F.entry_list_ga (F.args_list_getattribute_2 _ _) (Qq a _ its n sl) ⟨hx,hA,fun h' tk' e he=>?_⟩) | wp_step))
 obtain ⟨t',u',ee⟩:=he.there
 refine (show wpAny _ _ (getattributeRaised _ _ _ _ _ _ _) _ _ _ from ?_)
 unfold getattributeRaised
 repeat (any_goals (first | assumption | wp_step))
 exact k _ _ he.keeps
end
theorem Ag:entryFor table "dict.update.loop" = some Builtin.«dict.update.loop»:=entryFor_of_fast (by kernel_rfl)
theorem Q1:plainId "dict.update.loop" = true:=by decide +kernel
structure Pr where
 t:Addr
 k:List Key
 b:Addr
 v:V
noncomputable def Pr.At (H:Hp) (p:Pr):Prop:=H p.t=some (.tup [.ref p.b,p.v])/\H p.b=some (.tup (p.k.map kV))
noncomputable def Z2 (kvs:List (List Key × V)) (ps:List Pr):List (List Key × V):=ps.foldl (fun acc p=>P2 acc p.k p.v) kvs
section
variable {X:Cx} {pins:List (Addr × Obj)} {σ:St} {H:Hp}
theorem Aaj {A:Around} {E:Value->Shared->Prop} {R:Result->Shared->Prop} {d it l:Addr} {ps:List Pr} (hh:A.handled=none) (hu:A.units + 1 < cLine) (hl:H l=some (.lst (ps.map fun p=>V.ref p.t))) (hp:∀p∈ps,p.At H) (hd:H d=none) (hit:H it=none) (hdi:d≠it) :
  ∀(n i:Nat) (s:Shared) (kvs:List (List Key × V)),ps.length - i=n->i<=ps.length->kvs.length + n<=sizeLine->Inv X pins σ (upd H d (.dT kvs)) s->FpOk X pins (upd H d (.dT kvs)) it->s.heap.IsListIter it l i->
   (∀s',Inv X pins σ (upd H d (.dT (Z2 kvs (ps.drop i)))) s'->R (.ok (.ret .none)) s')->
   codeAny (model X.prog X.w) A (.builtin "dict.update.loop" ⟨[.ref d,.ref it,rawInt i,.none],[]⟩) R s:=by
 intro n
 induction n with
 | zero=>
  intro i s kvs hn hi hz I fp st k
  have e:i=ps.length:=by omega
  refine codeAny_builtin Ag ?_
  rw [Around.under_plainId Q1 _]
  have hl':(upd H d (.dT kvs)) l=some (.lst (ps.map fun p=>V.ref p.t)):=(Same.new hd) _ _ hl
  obtain ⟨z,its,m,r,len,el⟩:=I.lstM hl'
  refine (show wpAny _ A.in1 (pyNext (.ref it) >>= _) _ _ s from wpAny_bind (wpAny_pyNext_list_end (show A.in1.handled=none from hh) st ⟨_,el,rfl,_,rfl⟩ (by rw [Θl] at len; simp; omega) fun g eb=>?_))
  have I1:=I.turned (t':=s.toks) (h':=g) (fun b o hb e=>eb b o hb e) fp.1 fp.2.1 fp.2.2.2.1 fp.2.2.2.2.1 fp.2.2.2.2.2
  rw [e,List.drop_length] at k
  exact Za_ (Zb_ (Zb_ (k _ I1)))
 | succ n ih=>
  intro i s kvs hn hi hz I fp st k
  have lt:i < ps.length:=by omega
  have ei:ps[i]? = some ps[i]:=Θh lt
  obtain ⟨ht,hb⟩:=hp ps[i] (List.getElem_mem lt)
  refine codeAny_builtin Ag ?_
  rw [Around.under_plainId Q1 _]
  have hl':(upd H d (.dT kvs)) l=some (.lst (ps.map fun p=>V.ref p.t)):=(Same.new hd) _ _ hl
  have ht':(upd H d (.dT kvs)) ps[i].t=some (.tup [.ref ps[i].b,ps[i].v]):=(Same.new hd) _ _ ht
  have hb':(upd H d (.dT kvs)) ps[i].b=some (.tup (ps[i].k.map kV)):=(Same.new hd) _ _ hb
  obtain ⟨z,its,m,r,len,el⟩:=I.lstM hl'
  obtain ⟨u,eu,ru⟩:=r.get (i:=i) (x:=V.ref ps[i].t) (by rw [Θg,ei]; rfl)
  obtain rfl:u=Value.ref ps[i].t:=ru
  refine (show wpAny _ A.in1 (pyNext (.ref it) >>= _) _ _ s from wpAny_bind (wpAny_pyNext_list_item st ⟨_,el,rfl,_,rfl⟩ (x:=Value.ref ps[i].t) (by simpa using eu) fun g st' sb=>?_))
  have I1:Inv X pins σ (upd H d (.dT kvs)) { s with heap:=g }:=I.turned (t':=s.toks) (fun b o hb e=>sb.extBut b o hb e) fp.1 fp.2.1 fp.2.2.2.1 fp.2.2.2.2.1 fp.2.2.2.2.2
  obtain ⟨_,prs,rp,ot,eo,co,nt,dt⟩:=(show ObjOk X.prog X.w _ g ps[i].t (.tup [.ref ps[i].b,ps[i].v]) from I1.hok _ _ ht')
  obtain ⟨u1,u2,rfl,r1,r2⟩:=Aa8 rp
  obtain rfl:u1=Value.ref ps[i].b:=r1
  refine Za_ (wpAny_holding (Za_ (wpAny_tryCatch ?_)))
  unfold Builtin.Dict.pairItems
  refine Za_ (wpAny_typeOf (T:="tuple") ⟨ot,eo,co⟩ ?_)
  rw [if_pos (by decide)]
  refine Za_ (wpAny_seqItems eo dt (Zb_ ?_))
  obtain ⟨zz,hd2,xs,rel,dd⟩:=Ti I1.hok (show (upd H d (.dT kvs)) d=some (.dT kvs) from A8)
  have xl:xs.length=kvs.length:=(Paired.length rel).symm
  refine wpAny_holding (wpAny_dictSet_heap (knd:=tupleKind (J0 X.prog X.w)) (hsz:=by rw [xl]; omega) (tupleKind_room_in1 hu) (Bs I1.hok hb') dd fun g2 dd2 sb2=>?_)
  have hl2:(P2 kvs ps[i].k ps[i].v).length<=sizeLine:=by have:=Q7 kvs ps[i].k ps[i].v; omega
  obtain ⟨qo,es,ep,hq,h2,h3,h4,_,h5⟩:=dd2
  have I2:=Cl (ob:=.dT (P2 kvs ps[i].k ps[i].v)) (t':=s.toks + (tupleKind (J0 X.prog X.w)).draws ps[i].k) I1 (by rw [A8]; exact True.intro) sb2 ⟨qo,hq⟩ ⟨hl2,hd2,_,KT.keeps (KT.put rel ps[i].k hb' r2) (fun c ys ec=>by
   rw [C9 (P4 ec (show (upd H d (.dT kvs)) d=some (.dT kvs) from A8) (fun z=>nomatch z))]; exact ec),qo,es,ep,hq,h2,h3,h4,h5⟩
  rw [Aak] at I2
  have fp2:FpOk X pins (upd H d (.dT (P2 kvs ps[i].k ps[i].v))) it:=⟨by rw [C9 (Ne.symm hdi)]; exact hit,fp.2⟩
  refine Zb_ ⟨plainId_quiet Q1 _,?_⟩
  have st2:g2.IsListIter it l (i + 1):=st'.extBut sb2.extBut (Ne.symm hdi)
  refine ih (i + 1) _ (P2 kvs ps[i].k ps[i].v) (by omega) lt ?_ I2 fp2 st2 fun s' I'=>k s' ?_
  ·have:=Q7 kvs ps[i].k ps[i].v; omega
  ·rw [List.drop_eq_getElem_cons lt]
   exact I'
theorem Gj (hc:X.calm=true) (hu:X.A.units + 64 < cLine):P3 X (.type "dict") (fun xs H Q=>∃(l:Addr) (ps:List Pr),xs=[.ref l]/\H l=some (.lst (ps.map fun p=>V.ref p.t))/\(∀p∈ps,p.At H)/\ps.length<=1000/\∀d,H d=none->Q (.ref d) (upd H d (.dT (Z2 [] ps)))):=by
 intro pins s σ H xs us Q I r h
 obtain ⟨l,ps,rfl,hl,hp,hz,q⟩:=h
 obtain ⟨u,rfl,rx⟩:=W0 r
 cases rx
 have nd:H s.heap.objs.size=none:=I.fresh
 have I1:Inv X pins σ (upd H s.heap.objs.size (.dT [])) { s with heap:=s.heap.push { cls:=.type "dict",data:=.dict #[] } }:=I.laid (t':=s.toks) (fun b o e=>Zc_ _ e) (Zd_ _) (Jj _ I.big)
 obtain ⟨_,its,m,rv,len,el⟩:=I1.lstM ((Same.new nd) _ _ hl)
 have ty:Shared.TypeIs { s with heap:=s.heap.push { cls:=.type "dict",data:=.dict #[] } } (.ref s.heap.objs.size) "dict":=⟨_,Zm_ _ rfl,rfl⟩
 refine callType_codes (Q₁:=fun obj s₁=>obj = .ref s.heap.objs.size/\s₁={ s with heap:=s.heap.push { cls:=.type "dict",data:=.dict #[] } }) F.kt_called_dict (F.kt_typeCall_dict_1 _) F.entry_dict_init (kt_code_dict_new _ ⟨rfl,rfl⟩) ?_
 rintro obj s₁ ⟨rfl,rfl⟩
 refine ⟨ty,F.args_dict_init_2 _ _,?_⟩
 unfold Builtin.«dict.__init__» Builtin.Dict.selfAndRest
 refine Za_ (Za_ (wpAny_notOrdered_dict ty (Zb_ ?_)))
 refine (show wpAny _ _ (Builtin.Dict.updateFrom "dict.__init__" s.heap.objs.size (.ref l) [] .none) _ _ _ from ?_)
 unfold Builtin.Dict.updateFrom
 refine Za_ (wpAny_typeOf (T:="list") ⟨_,el,rfl⟩ ?_)
 rw [if_pos (by decide)]
 refine Za_ (Ud (show X.A.in1.in1.handled=none from I.ok.hd hc) el fun g tk kp=>?_)
 have I2:Inv X pins σ (upd H s.heap.objs.size (.dT [])) { s with heap:=g,toks:=tk }:=I1.kept kp
 have el2:=kp _ _ el
 rw [if_pos (by rfl)]
 refine Za_ (wpAny_rule (Za_ (wpAny_pyIter_list (s:={ s with heap:=g,toks:=tk }) ⟨_,el2,rfl,_,rfl⟩ ?_)))
 have nit:(upd H s.heap.objs.size (.dT [])) g.objs.size=none:=I2.hok.fresh (Zd_ _)
 have hne:s.heap.objs.size≠g.objs.size:=fun z=>by rw [<-z,A8] at nit; cases nit
 have I3:=I2.kept (t':=tk) (h':=g.push { cls:=.type "list_iterator",data:=.fields #[.ref l,.int 0 0] }) fun b o e=>Zc_ _ e
 refine Zb_ ⟨plainId_quiet Q1 _,?_⟩
 refine Aaj (E:=X.xe) (H:=H) (ps:=ps) (l:=l) (show X.A.in1.handled=none from I.ok.hd hc) (show X.A.units + 1 + 1 < cLine by omega) hl hp nd (by rw [C9 (Ne.symm hne)] at nit; exact nit) hne ps.length 0 _ [] rfl (Nat.zero_le _) (Nat.le_of_lt (E2 (by simpa using hz))) I3 (I2.fpOk (Nat.le_refl _) nit) ⟨_,Heap.get?_push_size _ rfl,rfl,rfl⟩ fun s' I'=>?_
 exact ⟨rfl,.ref s.heap.objs.size,_,I',rfl,q _ nd⟩
end
theorem Ab2:fillsNumberSlot (.type "tuple") "mul" = pure false:=by first | (rw [fillsNumberSlot_type]; kernel_rfl) | (unfold fillsNumberSlot; kernel_rfl) | kernel_rfl
theorem Aey:seqRepeat? (.type "tuple")=pure (some (.builtin "tuple.__mul__")):=by first | (unfold seqRepeat?; kernel_rfl) | kernel_rfl
theorem Aec (a:Int) (t:Tok) (l:Addr) (its:Array Value) (n:Nat) (sl:Array (Option Value)) (dd:Option Addr) :
  Meets (Builtin.«int.__rmul__» ⟨[.int a t,.ref l],[]⟩) (fun _ R s=>s.heap.get? l=some { cls:=.type "tuple",dict:=dd,data:=.seq its n,slots:=sl }/\R (.ok (.ret .notImplemented)) s):=
 .of_wp fun prog w A R s h=>by
  obtain ⟨hp,g,d,tk,os⟩:=s; obtain ⟨hl,h⟩:=h
  wp_walk
  exact ⟨_,rfl,h⟩
theorem Ad1 (l:Addr) (its:Array Value) (n:Nat) (u:Tok) (sl:Array (Option Value)) (dd:Option Addr) (hne:its.isEmpty=false) :
  Meets (Builtin.«tuple.__mul__» ⟨[.ref l,.int 1 u],[]⟩) (fun _ R s=>s.heap.get? l=some { cls:=.type "tuple",dict:=dd,data:=.seq its n,slots:=sl }/\R (.ok (.ret (.ref l))) s):=
 .of_wp fun prog w A R s h=>by
  obtain ⟨hp,g,d,tk,os⟩:=s; obtain ⟨hl,h⟩:=h
  have f1:=AutoSeq1.idx_int
  wp_walk using wpAny_loadPart' hl
  exact ⟨_,rfl,h⟩
theorem Ad2 (l:Addr) (its:Array Value) (n:Nat) (x:Int) (u:Tok) (sl:Array (Option Value)) (dd:Option Addr) (hne:its.isEmpty=false) (h0:(decide (x < -(2 ^ 63)) || decide (x ≥ 2 ^ 63))=false) (h1:(x == 1)=false) (h2:decide (x<=0)=false)
  (h3:¬(its.size:Int) * x > (2 ^ 63 - 1) / 8) (h4:Builtin.Tuple.tupleTooMany ((its.size:Int) * x)=false) (h5:(List.foldl (fun x1 x2=>x1++x2) #[] (List.replicate x.toNat its)).size<=sizeLine) :
  Meets (Builtin.«tuple.__mul__» ⟨[.ref l,.int x u],[]⟩) (fun _ R s=>s.heap.get? l=some { cls:=.type "tuple",dict:=dd,data:=.seq its n,slots:=sl }/\R (.ok (.ret (.ref s.heap.objs.size))) { s with heap:=s.heap.push { cls:=.type "tuple",data:=.seq (List.foldl (fun x1 x2=>x1++x2) #[] (List.replicate x.toNat its)) } }):=
 .of_wp fun prog w A R s h=>by
  obtain ⟨hp,g,d,tk,os⟩:=s; obtain ⟨hl,h⟩:=h
  have f1:=AutoSeq1.idx_int
  wp_walk using wpAny_loadPart' hl
  refine wpAny_ite_false (decide_eq_false (by rw [h0]; exact Zf_)) ?_
  wp_walk using wpAny_loadPart' hl
  refine wpAny_ite_false (decide_eq_false h3) ?_
  wp_walk using wpAny_loadPart' hl
  exact ⟨_,rfl,h⟩
noncomputable def Ad6:R2:=fun x y H Q=>∃(l:Addr) (v:V) (k:Nat),x = .ref l/\y=vN k/\H l=some (.tup [v])/\1<=k/\k<=1000/\(k=1->Q (.ref l) H)/\(2<=k->∀p,H p=none->Q (.ref p) (upd H p (.tup (List.replicate k v))))
theorem Qb (u:Value):∀(k:Nat),List.foldl (fun x1 x2=>x1++x2) #[] (List.replicate k #[u])=(List.replicate k u).toArray:=fun k=>by
 have h:=Aa [u] k []
 rw [List.nil_append] at h
 refine h.trans ?_
 congr 1
 induction k with
 | zero=>rfl
 | succ k ih=>rw [List.replicate_succ,List.flatten_cons,ih (by
   have h:=Aa [u] k []
   rw [List.nil_append] at h
   exact h),List.replicate_succ]; rfl
theorem Kx {v:V} {u:Value} (r:RelV v u):∀k:Nat,Vals (List.replicate k v) (List.replicate k u)
 | 0=>.nil
 | k + 1=>by rw [List.replicate_succ,List.replicate_succ]; exact .cons r (Kx r k)
theorem Vg {X:Cx} (i:Int):OpR X (binaryOp .Mult) (fun x y H Q=>∃(l:Addr) (v:V),x = .ref l/\y = .int i/\H l=some (.tup [v])/\1<=i/\i<=1000/\(i=1->Q (.ref l) H)/\(2<=i->∀p,H p=none->Q (.ref p) (upd H p (.tup (List.replicate i.toNat v))))):=by
 intro pins s σ H x y v u Q I rx ry h
 obtain ⟨l,w,rfl,rfl,hH,h1,h2,q1,q2⟩:=h
 cases rx
 obtain ⟨t,rfl⟩:=ry
 obtain ⟨_,its,rv,⟨cls,dd,data,sl⟩,e,hc,n,hd⟩:=(show ObjOk X.prog X.w H s.heap l (.tup [w]) from I.hok l _ hH)
 simp only at hc hd
 subst hc hd
 obtain ⟨c,rfl,rc⟩:=W0 rv
 refine wpAny_binaryOp_repeat_ref (T:="tuple") (U:="int") (by decide) ⟨_,e,rfl⟩ (fun s'=>typeIs_int s' i t) Ab2 F.fills_int_mul F.slot_int_rmul Aey F.slot_int_index.lookup
  (call_meets F.slot_int_rmul (typeIs_int s i t) F.entry_int_rmul (F.args_int_rmul_2 _ _) (Aec i t l [c].toArray n sl dd) ⟨e,rfl,⟨_,e,rfl⟩,?_⟩)
 by_cases hi:i=1
 ·subst hi
  exact call_meets F.slot_tuple_mul ⟨_,e,rfl⟩ F.entry_tuple_mul (F.args_tuple_mul_2 _ _) (Ad1 l [c].toArray n t sl dd rfl) ⟨e,⟨.ref l,H,I,rfl,q1 rfl⟩⟩
 ·have hf:=Qb c i.toNat
  have hsz:(1000:Nat)<=sizeLine:=by rw [sizeLine_eq]; decide
  refine call_meets F.slot_tuple_mul ⟨_,e,rfl⟩ F.entry_tuple_mul (F.args_tuple_mul_2 _ _) (Ad2 l [c].toArray n i t sl dd rfl (by rw [Bool.or_eq_false_iff,decide_eq_false_iff_not,decide_eq_false_iff_not]; omega) (by rw [beq_eq_false_iff_ne]; exact hi) (by rw [decide_eq_false_iff_not]; omega)
   (by rw [List.size_toArray]; show ¬((1:Nat):Int) * i > _; omega) (by unfold Builtin.Tuple.tupleTooMany; rw [decide_eq_false_iff_not,List.size_toArray]; show ¬((1:Nat):Int) * i > _; omega) (by rw [show ([c].toArray:Array Value) = #[c] from rfl,hf,List.size_toArray,List.length_replicate]; omega)) ⟨e,?_⟩
  rw [show ([c].toArray:Array Value) = #[c] from rfl,hf]
  refine ⟨.ref s.heap.objs.size,_,I.laid (t':=s.toks) (fun b o eb=>Zc_ _ eb) (Zd_ _) (show ObjOk X.prog X.w _ _ _ (.tup (List.replicate i.toNat w)) from ⟨by rw [List.length_replicate]; omega,_,Kx rc i.toNat,⟨_,Zm_ _ rfl,rfl,_,rfl⟩⟩),rfl,q2 (by omega) _ I.fresh⟩
theorem Zf {X:Cx}:OpR X (binaryOp .Mult) Ad6:=fun pins s σ H x y v u Q I rx ry ⟨l,w,k,h1,h2,h3,h4,h5,q1,q2⟩=>
 Vg (k:Int) pins s σ H x y v u Q I rx ry ⟨l,w,h1,h2,h3,by omega,by omega,fun e=>q1 (by omega),fun e p hp=>by
  have:=q2 (by omega) p hp
  rw [Int.toNat_natCast]
  exact this⟩
noncomputable abbrev RW:=Addr × List Int
noncomputable def C6 (r:List Int) (s:Nat):List Int:=K6 r (List.replicate r.length 0) s
noncomputable def tks (r:List Int):List Key:=r.map Sum.inl
theorem Ap (r:List Int):(tks r).map kV=r.map V.int:=by unfold tks; rw [List.map_map]; rfl
theorem Dd:∀{a b:List Int},tks a=tks b->a=b
 | [],[],_=>rfl
 | [],_ :: _,h=>by cases h
 | _ :: _,[],h=>by cases h
 | x :: a,y :: b,h=>by
  have h1:(Sum.inl x:Key)=Sum.inl y:=(List.cons.inj h).1
  have h2:tks a=tks b:=(List.cons.inj h).2
  rw [Sum.inl.inj h1,Dd h2]
structure Gr where
 key:List Int
 at_:Addr
 rows:List RW
noncomputable def F7 (G:List Gr):List (List Key × V):=G.map fun g=>(tks g.key,V.ref g.at_)
noncomputable def C0 (rs:List RW):List V:=rs.map fun rw=>V.ref rw.1
structure GroupsAt (H:Hp) (d:Addr) (G:List Gr):Prop where
 dict:H d=some (.dT (F7 G))
 lists:∀g∈G,H g.at_=some (.lst (C0 g.rows))
 keys:(G.map (·.key)).Nodup
 ats:(G.map (·.at_)).Nodup
noncomputable def Av (gs:List (List Int × List RW)) (key:List Int) (rw:RW):List (List Int × List RW):=
 if gs.any (fun g=>decide (g.1=key))=true then gs.map (fun g=>if g.1=key then (g.1,g.2++[rw]) else g) else gs++[(key,[rw])]
noncomputable def F5 (rws:List RW) (s:Nat):List (List Int × List RW):=rws.foldl (fun gs rw=>Av gs (C6 rw.2 s) rw) []
noncomputable def O5 (G:List Gr):List (List Int × List RW):=G.map fun g=>(g.key,g.rows)
theorem O9 (rws:List RW) (rw:RW) (s:Nat):F5 (rws++[rw]) s=Av (F5 rws s) (C6 rw.2 s) rw:=by
 unfold F5; rw [List.foldl_append]; rfl
theorem Ey {key:List Int}:∀G:List Gr,O2 (F7 G) (tks key)=(G.find? fun g=>decide (g.key=key)).map fun g=>V.ref g.at_
 | []=>rfl
 | g :: G=>by
  by_cases h:g.key=key
  ·rw [show F7 (g :: G)=(tks g.key,V.ref g.at_) :: F7 G from rfl,M7 (by show tks g.key=_; rw [h]),List.find?_cons,Zr_ h]
   rfl
  ·rw [show F7 (g :: G)=(tks g.key,V.ref g.at_) :: F7 G from rfl,M6 (fun e=>h (Dd e)),List.find?_cons,decide_eq_false h,Ey G]
noncomputable def Ff (G:List Gr) (key:List Int) (rw:RW):List Gr:=G.map fun g=>if g.key=key then { g with rows:=g.rows++[rw] } else g
theorem Ss (G:List Gr) (key:List Int) (rw:RW):(Ff G key rw).map (·.key)=G.map (·.key):=by
 unfold Ff; rw [List.map_map]
 refine List.map_congr_left fun g _=>?_
 show (if g.key=key then _ else g).key=g.key
 split <;> rfl
theorem Xm (G:List Gr) (key:List Int) (rw:RW):(Ff G key rw).map (·.at_)=G.map (·.at_):=by
 unfold Ff; rw [List.map_map]
 refine List.map_congr_left fun g _=>?_
 show (if g.key=key then _ else g).at_=g.at_
 split <;> rfl
theorem Xn (G:List Gr) (key:List Int) (rw:RW):F7 (Ff G key rw)=F7 G:=by
 unfold F7 Ff; rw [List.map_map]
 refine List.map_congr_left fun g _=>?_
 show (tks (if g.key=key then _ else g).key,V.ref (if g.key=key then _ else g).at_)=_
 split <;> rfl
theorem Di (G:List Gr) (key:List Int):((O5 G).any fun g=>decide (g.1=key))=(G.find? fun g=>decide (g.key=key)).isSome:=by
 unfold O5
 rw [Bool.eq_iff_iff,List.any_eq_true,List.find?_isSome]
 constructor
 ·rintro ⟨x,hx,e⟩
  obtain ⟨g,hg,rfl⟩:=Θn hx
  exact ⟨g,hg,e⟩
 ·rintro ⟨g,hg,e⟩
  exact ⟨(g.key,g.rows),Θm ⟨g,hg,rfl⟩,e⟩
theorem Lm {G:List Gr} {key:List Int} {rw:RW} (h:(G.find? fun g=>decide (g.key=key)).isSome=true):O5 (Ff G key rw)=Av (O5 G) key rw:=by
 unfold Av
 rw [if_pos (by rw [Di]; exact h)]
 unfold O5 Ff
 rw [List.map_map,List.map_map]
 refine List.map_congr_left fun g _=>?_
 show ((if g.key=key then _ else g:Gr).key,(if g.key=key then _ else g:Gr).rows)=if g.key=key then _ else _
 split <;> rfl
theorem Ll {G:List Gr} {key:List Int} {rw:RW} {l:Addr} (h:(G.find? fun g=>decide (g.key=key))=none):O5 (G++[⟨key,l,[rw]⟩])=Av (O5 G) key rw:=by
 unfold Av
 rw [if_neg (by rw [Di,h]; exact Zf_)]
 unfold O5
 rw [Zw_]
 rfl
theorem Fb {G:List Gr} {key:List Int} (h:(G.find? fun g=>decide (g.key=key))=none):key∉G.map (·.key):=fun hm=>by
 obtain ⟨g,hg,e⟩:=Θn hm
 have:=List.find?_eq_none.mp h g hg
 exact this (Zr_ e)
theorem GroupsAt.old {H:Hp} {d:Addr} {G:List Gr} {key:List Int} {rw:RW} {g:Gr} (A:GroupsAt H d G) (h:(G.find? fun g=>decide (g.key=key))=some g):g∈G/\g.key=key/\GroupsAt (upd H g.at_ (.lst (C0 g.rows++[V.ref rw.1]))) d (Ff G key rw):=by
 have hm:=List.mem_of_find?_eq_some h
 have hk:g.key=key:=by
  have h1:=List.find?_some (p:=fun g:Gr=>decide (g.key=key)) h
  exact Zj_ h1
 have hl:=A.lists g hm
 have ne:g.at_≠d:=P4 hl A.dict (fun z=>nomatch z)
 refine ⟨hm,hk,⟨by rw [Xn,C9 (Ne.symm ne)]; exact A.dict,fun g' hg'=>?_,by rw [Ss]; exact A.keys,by rw [Xm]; exact A.ats⟩⟩
 obtain ⟨g0,h0,rfl⟩:=Θn hg'
 have uniq:∀g1∈G,∀g2∈G,g1.at_=g2.at_->g1=g2:=by
  have:∀(L:List Gr),(L.map (·.at_)).Nodup->∀g1∈L,∀g2∈L,g1.at_=g2.at_->g1=g2:=by
   intro L
   induction L with
   | nil=>intro _ g1 h1; cases h1
   | cons x L ih=>
    intro hn g1 h1 g2 h2 e
    rw [List.map_cons,List.nodup_cons] at hn
    rcases Zg_.mp h1 with rfl | k1 <;> rcases Zg_.mp h2 with rfl | k2
    ·rfl
    ·exact absurd (Θm ⟨g2,k2,e.symm⟩) hn.1
    ·exact absurd (Θm ⟨g1,k1,e⟩) hn.1
    ·exact ih hn.2 g1 k1 g2 k2 e
  exact this G A.ats
 have uniqk:∀g1∈G,g1.key=key->g1=g:=by
  have:∀(L:List Gr),(L.map (·.key)).Nodup->∀g1∈L,∀g2∈L,g1.key=g2.key->g1=g2:=by
   intro L
   induction L with
   | nil=>intro _ g1 h1; cases h1
   | cons x L ih=>
    intro hn g1 h1 g2 h2 e
    rw [List.map_cons,List.nodup_cons] at hn
    rcases Zg_.mp h1 with rfl | k1 <;> rcases Zg_.mp h2 with rfl | k2
    ·rfl
    ·exact absurd (Θm ⟨g2,k2,e.symm⟩) hn.1
    ·exact absurd (Θm ⟨g1,k1,e⟩) hn.1
    ·exact ih hn.2 g1 k1 g2 k2 e
  exact fun g1 h1 e=>this G A.keys g1 h1 g hm (e.trans hk.symm)
 by_cases e:g0.key=key
 ·obtain rfl:=uniqk g0 h0 e
  rw [if_pos e]
  show upd H g0.at_ _ g0.at_=some (.lst (C0 (g0.rows++[rw])))
  rw [A8]
  unfold C0
  rw [Zw_]
  rfl
 ·rw [if_neg e,C9]
  ·exact A.lists g0 h0
  ·intro z
   exact e ((uniq g0 h0 g hm z) ▸ hk)
theorem GroupsAt.snoc {H:Hp} {d l:Addr} {G:List Gr} {key:List Int} {rw:RW} (A:GroupsAt H d G) (h:(G.find? fun g=>decide (g.key=key))=none) (hl:H l=some (.lst [])) (hn:∀g∈G,g.at_≠l) :
  GroupsAt (upd (upd H d (.dT (P2 (F7 G) (tks key) (V.ref l)))) l (.lst ([]++[V.ref rw.1]))) d (G++[⟨key,l,[rw]⟩]):=by
 have ne:l≠d:=P4 hl A.dict (fun z=>nomatch z)
 have hv:O2 (F7 G) (tks key)=none:=by rw [Ey,h]; rfl
 refine ⟨?_,fun g hg=>?_,?_,?_⟩
 ·rw [C9 (Ne.symm ne),A8,Vq _ hv]
  unfold F7
  rw [Zw_]
  rfl
 ·rcases Θa hg with hg | hg
  ·have hgl:=A.lists g hg
   rw [C9 (hn g hg),C9 (P4 hgl A.dict (fun z=>nomatch z))]
   exact hgl
  ·rw [Θs hg]
   exact A8
 ·rw [Zw_,List.nodup_append]
  refine ⟨A.keys,by simp,fun x hx y hy e=>Fb h ?_⟩
  have hy':y=key:=by simpa using hy
  rw [<-hy',<-e]; exact hx
 ·rw [Zw_,List.nodup_append]
  refine ⟨A.ats,by simp,fun x hx y hy e=>?_⟩
  have hy':y=l:=by simpa using hy
  obtain ⟨g,hg,rfl⟩:=Θn hx
  exact hn g hg (e.trans hy')
theorem Ix {gs:List (List Int × List RW)} {key:List Int} {rw:RW} (hn:(gs.map (·.1)).Nodup):∀g∈Av gs key rw,(g∈gs/\g.1≠key)\/(g.1=key/\((∃rs,(key,rs)∈gs/\g.2=rs++[rw])\/((∀g'∈gs,g'.1≠key)/\g.2=[rw]))):=by
 intro g hg
 unfold Av at hg
 by_cases h:(gs.any fun g=>decide (g.1=key))=true
 ·rw [if_pos h] at hg
  obtain ⟨g0,h0,rfl⟩:=Θn hg
  by_cases e:g0.1=key
  ·rw [if_pos e]
   exact .inr ⟨e,.inl ⟨g0.2,by rw [<-e]; exact h0,rfl⟩⟩
  ·rw [if_neg e]
   exact .inl ⟨h0,e⟩
 ·rw [if_neg h] at hg
  have all:∀g'∈gs,g'.1≠key:=fun g' h' e=>h (List.any_eq_true.mpr ⟨g',h',Zr_ e⟩)
  rcases Θa hg with hg | hg
  ·exact .inl ⟨hg,all g hg⟩
  ·rw [Θs hg]
   exact .inr ⟨rfl,.inr ⟨all,rfl⟩⟩
theorem Pn {gs:List (List Int × List RW)} {key:List Int} {rw:RW} (hn:(gs.map (·.1)).Nodup):((Av gs key rw).map (·.1)).Nodup:=by
 unfold Av
 by_cases h:(gs.any fun g=>decide (g.1=key))=true
 ·rw [if_pos h,List.map_map]
  have e:gs.map ((·.1) ∘ fun g=>if g.1=key then (g.1,g.2++[rw]) else g)=gs.map (·.1):=List.map_congr_left fun g _=>by
   show (if g.1=key then _ else g:List Int × List RW).1=g.1
   split <;> rfl
  rw [e]; exact hn
 ·rw [if_neg h,Zw_,List.nodup_append]
  refine ⟨hn,by simp,fun x hx y hy e=>h ?_⟩
  have hy':y=key:=by simpa using hy
  obtain ⟨g,hg,rfl⟩:=Θn hx
  exact List.any_eq_true.mpr ⟨g,hg,Zr_ (e.trans hy')⟩
theorem Ii {α:Type} {P:List α->Prop} (h0:P []) (hs:∀l x,P l->P (l++[x])) (l:List α):P l:=by
 have:∀m:List α,P m.reverse:=by
  intro m
  induction m with
  | nil=>exact h0
  | cons x m ih=>rw [List.reverse_cons]; exact hs _ _ ih
 rw [<-List.reverse_reverse l]
 exact this _
theorem O6 (s:Nat) (rws:List RW):((F5 rws s).map (·.1)).Nodup/\(∀g∈F5 rws s,g.2≠[]/\∀rw,rw∈g.2↔rw∈rws/\C6 rw.2 s=g.1)/\∀rw∈rws,∃g∈F5 rws s,g.1=C6 rw.2 s:=by
 refine Ii (P:=fun rws=>((F5 rws s).map (·.1)).Nodup/\(∀g∈F5 rws s,g.2≠[]/\∀rw,rw∈g.2↔rw∈rws/\C6 rw.2 s=g.1)/\∀rw∈rws,∃g∈F5 rws s,g.1=C6 rw.2 s) ?_ ?_ rws
 ·exact ⟨List.nodup_nil,fun g hg=>absurd hg Zi_,fun rw h=>absurd h Zi_⟩
 ·intro rws x ih
  obtain ⟨hn,hg,hc⟩:=ih
  rw [O9]
  refine ⟨Pn hn,fun g hm=>?_,fun rw hr=>?_⟩
  ·rcases Ix hn g hm with ⟨h1,h2⟩ | ⟨h1,⟨rs,h2,h3⟩ | ⟨h2,h3⟩⟩
   ·refine ⟨(hg g h1).1,fun rw=>?_⟩
    rw [(hg g h1).2 rw,List.mem_append,List.mem_singleton]
    exact ⟨fun ⟨a,b⟩=>⟨.inl a,b⟩,fun ⟨a,b⟩=>⟨a.resolve_right fun e=>h2 (by rw [<-b,e]),b⟩⟩
   ·refine ⟨by rw [h3]; simp,fun rw=>?_⟩
    rw [h3,List.mem_append,List.mem_singleton,(hg _ h2).2 rw,List.mem_append,List.mem_singleton,h1]
    constructor
    ·rintro (⟨a,b⟩ | rfl)
     ·exact ⟨.inl a,b⟩
     ·exact ⟨.inr rfl,rfl⟩
    ·rintro ⟨a | a,b⟩
     ·exact .inl ⟨a,b⟩
     ·exact .inr a
   ·refine ⟨by rw [h3]; simp,fun rw=>?_⟩
    rw [h3,List.mem_singleton,List.mem_append,List.mem_singleton,h1]
    constructor
    ·rintro rfl; exact ⟨.inr rfl,rfl⟩
    ·rintro ⟨a | a,b⟩
     ·obtain ⟨g',hg',e'⟩:=hc rw a
      exact absurd (e'.trans b) (h2 g' hg')
     ·exact a
  ·have mem:∀key,(∃g∈F5 rws s,g.1=key)\/key=C6 x.2 s->∃g∈Av (F5 rws s) (C6 x.2 s) x,g.1=key:=by
    intro key h
    unfold Av
    by_cases hany:((F5 rws s).any fun g=>decide (g.1=C6 x.2 s))=true
    ·rw [if_pos hany]
     have h':∃g∈F5 rws s,g.1=key:=by
      rcases h with h | h
      ·exact h
      ·obtain ⟨g,hg1,hg2⟩:=List.any_eq_true.mp hany
       exact ⟨g,hg1,(Zj_ hg2).trans h.symm⟩
     obtain ⟨g,hg1,hg2⟩:=h'
     refine ⟨_,Θm ⟨g,hg1,rfl⟩,?_⟩
     split <;> exact hg2
    ·rw [if_neg hany]
     rcases h with ⟨g,hg1,hg2⟩ | h
     ·exact ⟨g,Zt_ _ hg1,hg2⟩
     ·exact ⟨(C6 x.2 s,[x]),Zh_ _ (List.mem_singleton.mpr rfl),h.symm⟩
   rcases Θa hr with hr | hr
   ·exact mem _ (.inl (hc rw hr))
   ·rw [Θs hr]
    exact mem _ (.inr rfl)
theorem GroupsAt.same {H H':Hp} {d:Addr} {G:List Gr} (A:GroupsAt H d G) (e:Same H H'):GroupsAt H' d G:=⟨e _ _ A.dict,fun g hg=>e _ _ (A.lists g hg),A.keys,A.ats⟩
noncomputable def RowsOk (H:Hp) (m:Nat) (rws:List RW):Prop:=∀rw∈rws,H rw.1=some (.tup (rw.2.map V.int))/\rw.2.length=m
theorem RowsOk.same {H H':Hp} {m:Nat} {rws:List RW} (r:RowsOk H m rws) (e:Same H H'):RowsOk H' m rws:=fun rw h=>⟨e _ _ (r rw h).1,(r rw h).2⟩
noncomputable def Fz:Sp:=fun vs H Q _=>∃m:Nat,vs=[vN m]/\1<=m/\m<=20/\∀p H',Same H H'->H p=none->H' p=some (.tup ((List.replicate m (0:Int)).map V.int))->Q (.ref p) H'
noncomputable def Il:Sp:=fun vs H Q _=>∃(a:Addr) (r:List Int) (s:Nat),vs=[.ref a,vN s]/\H a=some (.tup (r.map V.int))/\1<=r.length/\r.length<=20/\∀p H',Same H H'->H p=none->H' p=some (.tup ((C6 r s).map V.int))->Q (.ref p) H'
noncomputable def Z6 (K:Θf):Sp:=fun vs H Q _=>∃(bk:Addr) (rws:List RW) (s m:Nat),vs=[.ref bk,vN s]/\SqL K H bk (C0 rws)/\RowsOk H m rws/\1<=m/\m<=20/\rws.length<=300/\
 ∀d G H',Same H H'->H d=none->GroupsAt H' d G->O5 G=F5 rws s->Q (.ref d) H'
noncomputable def Km (K:Θf):Sp:=fun vs H Q _=>∃(bk:Addr) (rws:List RW) (s m:Nat),vs=[.ref bk,vN s]/\SqL K H bk (C0 rws)/\RowsOk H m rws/\1<=m/\m<=20/\rws.length<=300/\
 ∀p (fs:List RW) H',Same H H'->H p=none->H' p=some (.lst (C0 fs))->(∀f∈fs,f∈rws)->(∀rw∈rws,∃f∈fs,C6 f.2 s=C6 rw.2 s)->fs.length<=300->Q (.ref p) H'
theorem W8 (s:Nat) (rws:List RW):(F5 rws s).length<=rws.length/\∀g∈F5 rws s,g.2.length<=rws.length:=by
 refine Ii (P:=fun rws=>(F5 rws s).length<=rws.length/\∀g∈F5 rws s,g.2.length<=rws.length) ⟨Zd_ _,fun g hg=>absurd hg Zi_⟩ ?_ rws
 intro rws x ih
 obtain ⟨h1,h2⟩:=ih
 rw [O9,Zv_,List.length_singleton]
 refine ⟨?_,fun g hg=>?_⟩
 ·unfold Av
  split
  ·rw [Θl]; omega
  ·rw [Zv_,List.length_singleton]; omega
 ·unfold Av at hg
  split at hg
  ·obtain ⟨g0,h0,rfl⟩:=Θn hg
   have:=h2 g0 h0
   split
   ·rw [Zv_,List.length_singleton]; omega
   ·omega
  ·rcases Θa hg with hg | hg
   ·have:=h2 g hg; omega
   ·rw [Θs hg]
    show 1<=rws.length + 1
    omega
theorem W7 {G:List Gr} {gs:List (List Int × List RW)} (e:O5 G=gs):G.length=gs.length:=by rw [<-e]; unfold O5; rw [Θl]
theorem K8 {G:List Gr} {gs:List (List Int × List RW)} (e:O5 G=gs) {g:Gr} (h:g∈G):(g.key,g.rows)∈gs:=by rw [<-e]; exact Θm ⟨g,h,rfl⟩
theorem Al {G:List Gr} {gs:List (List Int × List RW)} (e:O5 G=gs) {x:List Int × List RW} (h:x∈gs):∃g∈G,g.key=x.1/\g.rows=x.2:=by
 rw [<-e] at h
 obtain ⟨g,hg,rfl⟩:=Θn h
 exact ⟨g,hg,rfl,rfl⟩
theorem Lu {G:List Gr} {i:Nat} {k:List Key} {x:V} (h:(F7 G)[i]? = some (k,x)):∃g,G[i]? = some g/\x=V.ref g.at_:=by
 unfold F7 at h
 rw [Θg] at h
 cases e:G[i]? with
 | none=>rw [e] at h; cases h
 | some g=>
  rw [e] at h
  have:=Θo h
  exact ⟨g,rfl,(congrArg Prod.snd this).symm⟩
theorem Tf:∀m,m < 8->∀x,x < 2 ^ m->(List.range m).filter (E3 x)=L1 x:=by decide +kernel
theorem Tu:∀m,m < 8->∀x,x < 2 ^ m->∀k,k < m->E3 (2 ^ m - 1 - x) k = !E3 x k:=by decide +kernel
theorem Ed {m x k:Nat} (hm:m < 8) (hx:x < 2 ^ m):k∈L1 x↔k < m/\E3 x k=true:=by rw [<-Tf m hm x hx,List.mem_filter,List.mem_range]
theorem Pq {r1 r2:List Int} {x m:Nat} (hm:m < 8) (hx:x < 2 ^ m):Dg r1 r2 x=true↔∀k,k < m->E3 x k=true->r1.getD k 0=r2.getD k 0:=by
 unfold Dg
 rw [List.all_eq_true]
 constructor
 ·intro h k hk hb
  exact Zj_ (h _ (Θm ⟨k,(Ed hm hx).mpr ⟨hk,hb⟩,rfl⟩))
 ·intro h b hb
  obtain ⟨k,hk,rfl⟩:=Θn hb
  obtain ⟨h1,h2⟩:=(Ed hm hx).mp hk
  exact Zr_ (h k h1 h2)
theorem Pp {r1 r2:List Int} {x:Nat}:P5 r1 r2 x=true↔∀k,k < r1.length->E3 x k=true->r1.getD k 0=r2.getD k 0:=by
 unfold P5 Yq
 rw [decide_eq_true_iff,List.filter_eq_nil_iff]
 constructor
 ·intro h k hk hb
  have:=h k (List.mem_range.mpr hk)
  rw [hb,Bool.true_and] at this
  cases hd:decide (r1.getD k 0=r2.getD k 0) with
  | true=>exact Zj_ hd
  | false=>rw [hd] at this; exact absurd rfl this
 ·intro h k hk hb
  rw [Bool.and_eq_true] at hb
  rw [Zr_ (h k (List.mem_range.mp hk) hb.1)] at hb
  cases hb.2
theorem O4 (r1 r2:List Int) (x:Nat):(K6 r1 r2 x).length=r1.length:=by unfold K6; rw [Θl,List.length_range]
theorem Q0 {r1 r2:List Int} {x k:Nat} (h:k < r1.length):(K6 r1 r2 x).getD k 0=if E3 x k=true then r1.getD k 0 else r2.getD k 0:=by
 unfold K6
 rw [Zu_,Θg,List.getElem?_range h]
 rfl
theorem O0 {r1 r2:List Int} (hl:r1.length=r2.length) (h:∀k,k < r1.length->r1.getD k 0=r2.getD k 0):r1=r2:=by
 refine List.ext_getElem hl fun j j1 j2=>?_
 have:=h j j1
 rwa [Zu_,Θh j1,Zu_,Θh j2] at this
theorem Tt (m k:Nat):(List.replicate m (0:Int)).getD k 0=0:=by
 rw [Zu_,List.getElem?_replicate]
 split <;> rfl
theorem E8 (r:List Int) (s:Nat):(C6 r s).length=r.length:=O4 _ _ _
theorem Q8 {r:List Int} {s k:Nat} (h:k < r.length):(C6 r s).getD k 0=if E3 s k=true then r.getD k 0 else 0:=by
 unfold C6
 rw [Q0 h,Tt]
theorem M4 {r1 r2:List Int} {s m:Nat} (h1:r1.length=m) (h2:r2.length=m):C6 r1 s=C6 r2 s↔∀k,k < m->E3 s k=true->r1.getD k 0=r2.getD k 0:=by
 constructor
 ·intro h k hk hb
  have e:=congrArg (fun l=>l.getD k 0) h
  replace e:(C6 r1 s).getD k 0=(C6 r2 s).getD k 0:=e
  rw [Q8 (by omega),Q8 (by omega),if_pos hb,if_pos hb] at e
  exact e
 ·intro h
  refine O0 (by rw [E8,E8,h1,h2]) fun k hk=>?_
  rw [E8] at hk
  rw [Q8 (by omega),Q8 (by omega)]
  split
  ·rename_i hb; exact h k (by omega) hb
  ·rfl
theorem Dh {r1 r2:List Int} {s m:Nat} (hm:m < 8) (hs:s < 2 ^ m) (h1:r1.length=m) (h2:r2.length=m):Dg r1 r2 s=true↔C6 r1 s=C6 r2 s:=by
 rw [Pq hm hs,M4 h1 h2]
theorem Qu {a b c d:List Int} {s m:Nat} (hm:m < 8) (hs:s < 2 ^ m) (ha:a.length=m) (hb:b.length=m) (hc:c.length=m) (hd:d.length=m) (h1:C6 a s=C6 c s) (h2:C6 b (2 ^ m - 1 - s)=C6 d (2 ^ m - 1 - s)):K6 a b s=K6 c d s:=by
 refine O0 (by rw [O4,O4,ha,hc]) fun k hk=>?_
 rw [O4] at hk
 rw [Q0 hk,Q0 (by omega)]
 split
 ·rename_i hb'; exact (M4 ha hc).mp h1 k (by omega) hb'
 ·rename_i hb'
  refine (M4 hb hd).mp h2 k (by omega) ?_
  rw [Tu m hm s hs k (by omega)]
  cases e:E3 s k with
  | true=>exact absurd e hb'
  | false=>rfl
theorem Abq:∀x,x < 128->∀y,y < 128->∀k,k < 7->E3 (x|||y) k=(E3 x k || E3 y k):=fun x _ y _ k _=>by
 unfold E3
 have e1:∀z:Nat,decide (z / 2 ^ k % 2=1)=z.testBit k:=fun z=>by
  rw [Nat.testBit_eq_decide_div_mod_eq]
 rw [e1,e1,e1,Nat.testBit_or]
theorem Wu {a b:List Int} {x y m:Nat} (hm:m < 8) (hx:x < 2 ^ m) (hy:y < 2 ^ m) (ha:a.length=m):C6 (K6 a b (x|||y)) x=C6 a x:=by
 have pw:2 ^ m<=2 ^ 7:=Nat.pow_le_pow_right (by decide) (by omega)
 refine (M4 (m:=m) (by rw [O4,ha]) ha).mpr fun k hk hb=>?_
 rw [Q0 (by omega),if_pos (by rw [Abq x (by omega) y (by omega) k (by omega),hb]; rfl)]
theorem Zr:∀m,m < 8->∀h:Nat,h < 2 ^ m->Builtin.bitAnd ((2 ^ m - 1:Nat):Int) (Builtin.bitNot (h:Int))=((2 ^ m - 1 - h:Nat):Int):=by decide +kernel
noncomputable def Aaq (rws:List RW) (x y:Nat):Prop:=∀a∈rws,∀b∈rws,C6 a.2 x=C6 b.2 x->C6 a.2 y=C6 b.2 y
noncomputable def Sv (rws:List RW) (x y:Nat):Prop:=∀a∈rws,∀b∈rws,C6 a.2 x=C6 b.2 x->∃c∈rws,c.2=K6 a.2 b.2 (x|||y)
noncomputable def Sx (rws:List RW) (x y:Nat) (a b:RW):Prop:=a∈rws/\b∈rws/\C6 a.2 x=C6 b.2 x/\C6 a.2 y≠C6 b.2 y
noncomputable def Nf (rws:List RW) (x y:Nat) (a b:RW):Prop:=a∈rws/\b∈rws/\C6 a.2 x=C6 b.2 x/\∀c∈rws,c.2≠K6 a.2 b.2 (x|||y)
noncomputable def Ng (H:Hp) (Q:VK) (Ok:Prop) (Bad:RW->RW->Prop):Prop:=
 (∀H',Same H H'->Ok->Q .non H')/\∀(p:Addr) (a b:RW) (H':Hp),Bad a b->Same H H'->H p=none->H' p=some (.tup [.ref a.1,.ref b.1])->Q (.ref p) H'
noncomputable def BookAt (K:Θf) (H:Hp) (bk:Addr) (rws:List RW) (m:Nat):Prop:=SqL K H bk (C0 rws)/\RowsOk H m rws/\1<=m/\m<=7/\rws.length<=300
theorem BookAt.same {K:Θf} {H H':Hp} {bk:Addr} {rws:List RW} {m:Nat} (b:BookAt K H bk rws m) (e:Same H H'):BookAt K H' bk rws m:=⟨e.seq b.1,b.2.1.same e,b.2.2⟩
noncomputable def Kq (K:Θf):Sp:=fun vs H Q _=>∃(bk:Addr) (rws:List RW) (x y m:Nat),vs=[.ref bk,vN x,vN y]/\BookAt K H bk rws m/\x < 2 ^ m/\y < 2 ^ m/\Ng H Q (Aaq rws x y) (Sx rws x y)
noncomputable def Wz (K:Θf):Sp:=fun vs H Q _=>∃(bk:Addr) (rws:List RW) (x y m:Nat),vs=[.ref bk,vN x,vN y]/\BookAt K H bk rws m/\x < 2 ^ m/\y < 2 ^ m/\Ng H Q (Sv rws x y) (Nf rws x y)
noncomputable def Xb (K:Θf):Sp:=fun vs H Q _=>∃(bk:Addr) (rws:List RW) (h m:Nat),vs=[.ref bk,vN h]/\BookAt K H bk rws m/\h < 2 ^ m/\rws≠[]/\
 Ng H Q (∀a∈rws,∀b∈rws,∃c∈rws,c.2=K6 a.2 b.2 h) (fun a b=>a∈rws/\b∈rws/\∀c∈rws,c.2≠K6 a.2 b.2 h)
noncomputable def La (st:Bool):Str:=if st=true then "settle" else "deal"
noncomputable def W2 (H:Hp) (r:Addr) (st:Bool) (x y:Nat):Prop:=H r=some (.tup [.str (La st),vN x,vN y])
noncomputable def ROk (rws:List RW) (st:Bool) (x y:Nat):Prop:=if st=true then Aaq rws x y else Sv rws x y
noncomputable def RBad (rws:List RW) (st:Bool) (x y:Nat) (a b:RW):Prop:=if st=true then Sx rws x y a b else Nf rws x y a b
theorem RBad.not {rws:List RW} {st:Bool} {x y:Nat} {a b:RW} (h:RBad rws st x y a b):¬ROk rws st x y:=fun ok=>by
 unfold RBad at h
 unfold ROk at ok
 cases st with
 | true=>
  simp only [if_true] at h ok
  exact h.2.2.2 (ok a h.1 b h.2.1 h.2.2.1)
 | false=>
  simp only [Bool.false_eq_true,if_false] at h ok
  obtain ⟨c,hc,e⟩:=ok a h.1 b h.2.1 h.2.2.1
  exact h.2.2.2 c hc e
noncomputable def Kl (K:Θf):Sp:=fun vs H Q _=>∃(bk r:Addr) (rws:List RW) (st:Bool) (x y m:Nat),vs=[.ref bk,.ref r]/\BookAt K H bk rws m/\W2 H r st x y/\x < 2 ^ m/\y < 2 ^ m/\Ng H Q (ROk rws st x y) (RBad rws st x y)
structure Rl where
 r:Addr
 st:Bool
 x:Nat
 y:Nat
noncomputable def Pg (K:Θf):Sp:=fun vs H Q _=>∃(bk rl:Addr) (rws:List RW) (rs:List Rl) (m:Nat),vs=[.ref bk,.ref rl]/\BookAt K H bk rws m/\SqL K H rl (rs.map fun r=>V.ref r.r)/\rs.length<=300/\(∀r∈rs,W2 H r.r r.st r.x r.y/\r.x < 2 ^ m/\r.y < 2 ^ m)/\
 ∀(k:Bool) (H':Hp),Same H H'->(k=true↔∀r∈rs,ROk rws r.st r.x r.y)->Q (.bl k) H'
theorem Ch (k:List Key):∀(ps:List Pr) (kvs:List (List Key × V)),(O2 (Z2 kvs ps) k).isSome=((O2 kvs k).isSome || ps.any fun p=>decide (p.k=k))
 | [],kvs=>by rw [List.any_nil,Bool.or_false]; rfl
 | p :: ps,kvs=>by
  show (O2 (Z2 (P2 kvs p.k p.v) ps) k).isSome=_
  rw [Ch k ps,Xp,List.any_cons]
  by_cases e:k=p.k
  ·rw [if_pos e,Zr_ e.symm]
   simp
  ·rw [if_neg e,decide_eq_false (fun z=>e z.symm),Bool.false_or]
noncomputable def Ik (K:Θf):Sp:=fun vs H Q _=>∃(st:Addr) (ns:List Int) (k m n:Nat),vs=[.ref st,vN m,vN n]/\STF K H st ns k/\k<=800000/\ns.length<=63/\1<=m/\m<=7/\n<=100/\
 ∀(rs:List Rl) (p:Addr) (k':Nat) (H':Hp),rs.length=n->(∀r∈rs,W2 H' r.r r.st r.x r.y/\r.x < 2 ^ m/\r.y < 2 ^ m)->k'<=k + 7 * n->H p=none->H' p=some (.lst (rs.map fun r=>V.ref r.r))->STF K H' st ns k'->But st H H'->Q (.ref p) H'
section
variable {X:Cx} {K:Θf} {pins:List (Addr × Obj)} {σ:St} {H:Hp} {s:Shared}
theorem Y9:∀{a b:List Int},a.map V.int=b.map V.int->a=b
 | [],[],_=>rfl
 | [],_ :: _,h=>by cases h
 | _ :: _,[],h=>by cases h
 | x :: a,y :: b,h=>by
  have h1:V.int x=V.int y:=(List.cons.inj h).1
  rw [V.int.inj h1,Y9 (List.cons.inj h).2]
theorem Qa {A:Around} {a b:Addr} {ns ms:List Int} (hu:A.units < cLine) (I:Inv X pins σ H s) (ha:H a=some (.tup (ns.map V.int))) (hb:H b=some (.tup (ms.map V.int))):SeqAt.EqAt A s (.ref a) (.ref b) (decide (ns=ms)):=by
 by_cases hab:a=b
 ·subst hab
  rw [ha] at hb
  have e:ns=ms:=Y9 (HO.tup.inj (Θo hb))
  rw [Zr_ e]
  exact SeqAt.EqAt.same _
 ·obtain ⟨its,rv,pl,_⟩:=I.tuple (SqT.of ha)
  obtain ⟨its',rv',pl',_⟩:=I.tuple (SqT.of hb)
  have l1:its.length=ns.length:=by rw [<-rv.length,Θl]
  have l2:its'.length=ms.length:=by rw [<-rv'.length,Θl]
  have r:=SeqAt.RcAt.tuples (A:=A) (s:=s) (e:=fun j=>decide (ns.getD j 0=ms.getD j 0)) pl pl' hu (fun j j1 j2=>by
   have j1':j < ns.length:=by rw [<-l1]; simpa using j1
   have j2':j < ms.length:=by rw [<-l2]; simpa using j2
   obtain ⟨c,hc,rc⟩:=rv.get (i:=j) (x:=V.int ns[j]) (by rw [Θg,Θh j1']; rfl)
   obtain ⟨d,hd,rd⟩:=rv'.get (i:=j) (x:=V.int ms[j]) (by rw [Θg,Θh j2']; rfl)
   have ec:its.toArray[j]=c:=by
    rw [Θh (by simpa using j1)] at hc
    simpa using hc
   have ed:its'.toArray[j]=d:=by
    rw [Θh (by simpa using j2)] at hd
    simpa using hd
   have q:=Abm (A:=A.in1) (s:=s) rc rd rfl rfl
   rw [ec,ed]
   have e2:eqV (V.int ns[j]) (V.int ms[j])=decide (ns.getD j 0=ms.getD j 0):=by
    rw [Zu_,Θh j1',Zu_,Θh j2']
    show (ns[j] == ms[j])=decide (ns[j]=ms[j])
    rw [Bool.eq_iff_iff,beq_iff_eq,decide_eq_true_iff]
   rw [<-e2]
   exact q)
  rw [Zx_,Zx_,l1,l2,Abc] at r
  exact SeqAt.EqAt.of_refs hab r
theorem Gh:∀{as:List Addr} {us:List Value},Vals (as.map V.ref) us->us=as.map Value.ref
 | [],_,.nil=>rfl
 | a :: as,_,.cons r t=>by
  obtain rfl:=(show _=Value.ref a from r)
  rw [List.map_cons,Gh t]
theorem Mc (h:X.K=K) (hu:X.A.units + 64 < cLine):OpR X (compareOp .NotIn) (fun x y H Q=>∃(t l:Addr) (ns:List Int) (rws:List RW),x = .ref t/\y = .ref l/\H t=some (.tup (ns.map V.int))/\SqL K H l (C0 rws)/\(∀rw0∈rws,H rw0.1=some (.tup (rw0.2.map V.int)))/\
  ∀b:Bool,(b=true↔∀c∈rws,c.2≠ns)->Q (.bl b) H):=by
 subst h
 intro pins s σ H x y v u Q I rx ry h
 obtain ⟨t,l,ns,rws,rfl,rfl,ht,hl,hr,q⟩:=h
 cases rx; cases ry
 obtain ⟨its,rv,pl,hz⟩:=I.list hl
 have eits:its=rws.map fun rw0=>Value.ref rw0.1:=by
  have:Vals ((rws.map (·.1)).map V.ref) its:=by rw [List.map_map]; exact rv
  rw [Gh this,List.map_map]
  rfl
 have content:∀a∈rws,∀b∈rws,a.1=b.1->a.2=b.2:=fun a ha b hb e=>by
  have h1:=hr a ha
  rw [e,hr b hb] at h1
  exact (Y9 (HO.tup.inj (Θo h1))).symm
 refine SeqAt.notIn_listAt (fun v=>rws.any fun rw0=>decide (v=Value.ref rw0.1) && decide (rw0.2=ns)) pl.isList (fun w hw=>?_) ?_
 ·have hw':w∈rws.map fun rw0=>Value.ref rw0.1:=by rw [<-eits]; simpa using hw
  obtain ⟨a,ha,rfl⟩:=Θn hw'
  have e1:(rws.any fun rw0=>decide (Value.ref a.1=Value.ref rw0.1) && decide (rw0.2=ns))=decide (a.2=ns):=by
   rw [Bool.eq_iff_iff,List.any_eq_true,decide_eq_true_iff]
   constructor
   ·rintro ⟨b,hb,e⟩
    rw [Bool.and_eq_true] at e
    have eab:a.1=b.1:=Value.ref.inj (Zj_ e.1)
    rw [content a ha b hb eab]
    exact Zj_ e.2
   ·intro e
    exact ⟨a,ha,by rw [Zr_ rfl,Zr_ e]; rfl⟩
  show SeqAt.EqAt X.A.in1 s (Value.ref a.1) (Value.ref t) (rws.any fun rw0=>decide (Value.ref a.1=Value.ref rw0.1) && decide (rw0.2=ns))
  rw [e1]
  exact Qa (show X.A.units + 1 < cLine by omega) I (hr a ha) ht
 ·refine ⟨.bl _,H,I,rfl,q _ ?_⟩
  rw [Bool.not_eq_true',eits]
  constructor
  ·intro e c hc ec
   have:((rws.map fun rw0=>Value.ref rw0.1).toArray.any fun v=>rws.any fun rw0=>decide (v=Value.ref rw0.1) && decide (rw0.2=ns))=true:=by
    rw [List.any_toArray,List.any_eq_true]
    exact ⟨Value.ref c.1,Θm ⟨c,hc,rfl⟩,List.any_eq_true.mpr ⟨c,hc,by rw [Zr_ rfl,Zr_ ec]; rfl⟩⟩
   rw [this] at e
   cases e
  ·intro all
   cases e:((rws.map fun rw0=>Value.ref rw0.1).toArray.any fun v=>rws.any fun rw0=>decide (v=Value.ref rw0.1) && decide (rw0.2=ns)) with
   | false=>rfl
   | true=>
    rw [List.any_toArray,List.any_eq_true] at e
    obtain ⟨v,_,hv⟩:=e
    obtain ⟨c,hc,hcc⟩:=List.any_eq_true.mp hv
    rw [Bool.and_eq_true] at hcc
    exact absurd (Zj_ hcc.2) (all c hc)
end
theorem De {r1 r2:List Int} {s m:Nat} (h1:r1.length=m) (h2:r2.length=m):P5 r1 r2 s=true↔C6 r1 s=C6 r2 s:=by
 rw [Pp,M4 h1 h2,h1]
section
variable {X:Cx} {st:Stmt} {rest:List Stmt} {t u:TS}
theorem Cv (P:St->Hp->Prop) (h1:PS X st t) (h2:PSs X rest u):PSs X (st :: rest) (fun D σ H=>t { D with nx:=P } σ H/\∀σ' H',P σ' H'->u D σ' H'):=by
 intro pins s σ H D I h
 refine wpAny_execs_cons (thn (h1 pins s σ H { D with nx:=P } I h.1) fun f s1 q=>?_)
 cases f with
 | next=>
  obtain ⟨σ',H',I',q⟩:=q
  exact h2 pins s1 σ' H' D I' (h.2 σ' H' q)
 | ret v=>exact q
 | brk=>exact q
 | cont=>exact q
end
section
variable {X:Cx} {pins:List (Addr × Obj)} {σ:St} {H:Hp} {s:Shared}
noncomputable def Itn (K:Θf) (l:Addr):It:=
 ⟨fun i H=>∃xs x,SqL K H l xs/\xs[i]? = some x,
  fun i H v H'=>∃t x,v = .ref t/\H t=none/\(∀xs,SqL K H l xs->xs[i]? = some x)/\H' = upd H t (.tup [.int (i:Int),x]),
  fun i H=>∃xs,SqL K H l xs/\xs.length<=i⟩
noncomputable def tnN (e it l:Addr) (i:Nat) (h:Heap):Prop:=(∃old,IsEnum h e it (i:Int) old)/\h.IsListIter it l i
theorem So {P:Program} {w:World} {K:Θf} {es:List Expr} {n:Nat} {tp:Pos} {e it l:Addr} (hne:e≠it):Turn P w K (.Tuple es n tp) (Itn K l) [e,it] e (tnN e it l) where
 mem:=by simp
 obj:=fun i h st c hc=>by
  obtain ⟨⟨old,hE⟩,⟨oa,ea,_,da⟩⟩:=st
  simp only [List.mem_cons,List.not_mem_nil,or_false] at hc
  rcases hc with rfl | rfl
  ·exact ⟨_,hE,fun v r=>by cases r⟩
  ·exact ⟨_,ea,fun v r=>by rw [da] at r; cases r⟩
 keep:=fun i h h' st k=>by
  obtain ⟨⟨old,hE⟩,ha⟩:=st
  exact ⟨⟨old,k e (by simp) _ hE⟩,ha.at fun o z=>k it (by simp) o z⟩
 item:=by
  intro X hP hw hK hc i pins s σ H E I hf st hg
  subst hP hw hK
  obtain ⟨xs,x,hx,ex⟩:=hg
  obtain ⟨⟨old,hE⟩,ha⟩:=st
  obtain ⟨i1,r1,t1,_⟩:=I.list hx
  obtain ⟨x',ex',rx⟩:=r1.get ex
  refine wpAny_pyNext_enum_item hE ha t1.isList (x:=x') (by simpa using ex') hne fun g c1 c2 c3 c4 c5=>⟨_,rfl,?_⟩
  refine wpAny_letOwnedTupleGo_enum c1 fun g' z' k'=>?_
  have nT:H s.heap.objs.size=none:=I.fresh
  have lz:s.heap.objs.size≠e:=Nat.ne_of_gt (Zn_ hE)
  have IA:Inv X pins σ (upd H s.heap.objs.size (.tup [.int (i:Int),x])) { s with heap:=s.heap.push { cls:=.type "tuple",data:=.seq #[.int (i:Int) s.toks,x'] },toks:=s.toks + 1 }:=
   I.laid (t':=s.toks + 1) (fun c o z=>Zc_ _ z) (Zd_ _) (show ObjOk X.prog X.w _ _ _ (.tup [.int (i:Int),x]) from ⟨by show 2<=sizeLine; decide,[.int (i:Int) s.toks,x'],.cons ⟨_,rfl⟩ (.cons rx .nil),⟨_,Zm_ _ rfl,rfl,_,rfl⟩⟩)
  have fp:∀c∈[e,it],FpOk X pins (upd H s.heap.objs.size (.tup [.int (i:Int),x])) c:=fun c hc'=>by
   obtain ⟨f0,f1,f2,f3,f4,f5⟩:=hf c hc'
   refine ⟨?_,f1,f2,f3,f4,f5⟩
   rw [C9]
   ·exact f0
   ·have lt:c < s.heap.objs.size:=by
     simp only [List.mem_cons,List.not_mem_nil,or_false] at hc'
     rcases hc' with rfl | rfl
     ·exact Zn_ hE
     ·obtain ⟨_,z,_⟩:=ha; exact Zn_ z
    exact Zs_ lt
  have IB:Inv X pins σ (upd H s.heap.objs.size (.tup [.int (i:Int),x])) { s with heap:=g',toks:=s.toks + 1 }:=by
   refine IA.turnedL (t':=s.toks + 1) (h':=g') (fun c o hc' z=>?_) fp
   simp only [List.mem_cons,List.not_mem_nil,or_false,not_or] at hc'
   refine k'.extBut _ _ hc'.1 ?_
   by_cases hcT:c=s.heap.objs.size
   ·subst hcT
    have e1:(s.heap.push { cls:=.type "tuple",data:=.seq #[.int (i:Int) s.toks,x'] }).get? s.heap.objs.size=some { cls:=.type "tuple",data:=.seq #[.int (i:Int) s.toks,x'] }:=Zm_ _ rfl
    have e2:=e1.symm.trans z
    rw [<-Θo e2]
    exact c3
   ·exact c5 c o hc'.1 hc'.2 (by
     have e1:(s.heap.push { cls:=.type "tuple",data:=.seq #[.int (i:Int) s.toks,x'] }).get? c=s.heap.get? c:=Heap.get?_push_ne _ _ _ hcT
     rw [<-e1]; exact z)
  refine ⟨.ref s.heap.objs.size,_,IB,rfl,⟨_,x,rfl,nT,fun zs hz=>by rw [I.list_inj hz hx]; exact ex,rfl⟩,⟨⟨x',?_⟩,c2.extBut k'.extBut hne.symm⟩,fun c hc'=>(fp c hc').1⟩
  have ei:((i + 1:Nat):Int)=(i:Int) + 1:=Int.natCast_succ i
  rw [ei]
  exact z'
 done:=by
  intro X hP hw hK hc i pins s σ H E I hf st hg
  subst hP hw hK
  obtain ⟨xs,hx,hl⟩:=hg
  obtain ⟨⟨old,hE⟩,ha⟩:=st
  obtain ⟨i1,r1,t1,_⟩:=I.list hx
  have len:=r1.length
  refine wpAny_pyNext_enum_end (I.ok.hd hc) hE ha t1.isList (by simp; omega) fun g hk=>⟨rfl,?_⟩
  refine I.turnedL (t':=s.toks) (h':=g) (ch:=[e,it]) (fun c o hc' z=>?_) hf
  simp only [List.mem_cons,List.not_mem_nil,or_false,not_or] at hc'
  exact hk c o hc'.2 z
 self:=fun _ _ _ _ _ st h=>by
  obtain ⟨⟨old,hE⟩,_⟩:=st
  exact wpAny_pyIter_enum hE h
noncomputable def Adv (K:Θf) (ta:TA):TI:=fun σ H R=>ta σ H fun vs H1=>∃(l:Addr) (xs:List V),vs=[.ref l]/\SqL K H1 l xs/\R (Itn K l) H1
theorem Om {K:Θf} {es:List Expr} {n:Nat} {tp:Pos} {e1:Expr} {ta:TA} {np pos:Pos} (hK:X.K=K) (hg:Gl X "enumerate") (hm:X.mg "enumerate" = none) (ha:PA X [e1] ta)
  (hs:starEach [e1] X.env=[(false,eval e1 X.env)]:=by rfl) :
  PI X (.Tuple es n tp) (.Call (.Name "enumerate" np) [e1] [] pos) (Adv K ta):=by
 subst hK
 intro pins s σ H R I h
 refine Call_ (Eb I hg hm boot_enumerate (PyProof.Rows.callWith_type1 (thn (ha pos pins s σ H _ I h) fun us s1 ⟨vs,H1,I1,r1,q1⟩=>?_) (by rw [hs]; rfl) (by rfl)))
 obtain ⟨l,xs,rfl,hl,r⟩:=q1
 obtain ⟨u1,rfl,ru1⟩:=r1.one
 cases ru1
 obtain ⟨i1,v1,t1,_⟩:=I1.list hl
 refine call_enumerate_list t1.isList fun g hE hi hz hk=>?_
 refine wpAny_pyIter_enum hE ⟨s1.heap.objs.size + 1,[s1.heap.objs.size + 1,s1.heap.objs.size],tnN (s1.heap.objs.size + 1) s1.heap.objs.size l,Itn X.K l,H1,rfl,I1.kept (t':=s1.toks) hk,So (Nat.succ_ne_self _),⟨⟨_,hE⟩,hi⟩,fun c hc=>?_,r⟩
 have lc:s1.heap.objs.size<=c:=by
  simp only [List.mem_cons,List.not_mem_nil,or_false] at hc
  rcases hc with rfl | rfl <;> omega
 exact I1.fpOk lc (I1.hok.fresh lc)
theorem Jm {K:Θf} {l:Addr} {xs:List V} {g:TG} {tb:TS} {D:Ends} {σ:St} {H:Hp} (Pv:Nat->St->Hp->Prop) (h0:Pv 0 σ H) (hl:∀i σ H,i<=xs.length->Pv i σ H->SqL K H l xs)
  (hs:∀i x σ H t,xs[i]? = some x->Pv i σ H->H t=none->g (.ref t) σ (upd H t (.tup [.int (i:Int),x])) fun σ2 H2=>tb { D with nx:=Pv (i + 1),ct:=Pv (i + 1),bk:=D.nx } σ2 H2) (hd:∀σ H,Pv xs.length σ H->D.nx σ H) :
  ∃W:Nat->Nat->St->Hp->Prop,(∃m,W 0 m σ H)/\∀i m σ H,W i m σ H->
   ((Itn K l).stop i H/\D.nx σ H)\/((Itn K l).go i H/\∃N:St->Hp->Prop,(∀σ' H',N σ' H'->∃m',m' < m/\W (i + 1) m' σ' H')/\∀x H',(Itn K l).yld i H x H'->g x σ H' fun σ2 H2=>tb { D with nx:=N,ct:=N,bk:=D.nx } σ2 H2):=by
 refine ⟨fun i m σ H=>m=xs.length - i/\i<=xs.length/\Pv i σ H,⟨xs.length,by simp,Nat.zero_le _,h0⟩,?_⟩
 rintro i m σ H ⟨rfl,hi,pv⟩
 have h1:=hl i σ H hi pv
 by_cases lt:i < xs.length
 ·refine .inr ⟨⟨xs,xs[i],h1,by simp [lt]⟩,Pv (i + 1),fun σ' H' p'=>⟨xs.length - (i + 1),by omega,rfl,lt,p'⟩,fun v H' yv=>?_⟩
  obtain ⟨t,x,rfl,nt,a3,rfl⟩:=yv
  exact hs i x σ H t (a3 xs h1) pv nt
 ·obtain rfl:i=xs.length:=by omega
  exact .inl ⟨⟨xs,h1,Zd_ _⟩,hd σ H pv⟩
end
mutual
inductive DV (K:Θf) (H:Hp):V->PyData->Prop
 | non:DV K H .non .none
 | bl (b:Bool):DV K H (.bl b) (.bool b)
 | int (i:Int):DV K H (.int i) (.int i)
 | str (x:Str):DV K H (.str x) (.str x)
 | lst {a:Addr} {xs:List V} {ds:List PyData}:SqL K H a xs->DVs K H xs ds->DV K H (.ref a) (.list ds)
 | tup {a:Addr} {xs:List V} {ds:List PyData}:SqT K H a xs->DVs K H xs ds->DV K H (.ref a) (.tuple ds)
inductive DVs (K:Θf) (H:Hp):List V->List PyData->Prop
 | nil:DVs K H [] []
 | cons {x:V} {xs:List V} {d:PyData} {ds:List PyData}:DV K H x d->DVs K H xs ds->DVs K H (x :: xs) (d :: ds)
end
section
variable {X:Cx} {K:Θf} {pins:List (Addr × Obj)} {σ:St} {H:Hp} {s:Shared}
mutual
theorem DV.reads (I:Inv X pins σ H s):∀{v:V} {d:PyData} {u:Value},DV X.K H v d->RelV v u->∃as,Reads s.heap u d as
 | _,_,_,.non,r=>by obtain rfl:=(show _=Value.none from r); exact ⟨_,Reads.none⟩
 | _,_,_,.bl b,r=>by obtain rfl:=(show _=Value.bool b from r); exact ⟨_,Reads.bool b⟩
 | _,_,_,.int i,r=>by obtain ⟨t,rfl⟩:=r; exact ⟨_,.int i t⟩
 | _,_,_,.str x,r=>by obtain ⟨t,rfl⟩:=r; exact ⟨_,.str x t⟩
 | _,_,_,.lst (a:=a) hx hs,r=>by
  obtain rfl:=(show _=Value.ref a from r)
  obtain ⟨its,rv,pl,_⟩:=I.list hx
  obtain ⟨as,ra⟩:=DVs.reads I hs rv
  obtain ⟨o,ho,hc,n,hd⟩:=pl.isList
  exact ⟨_,.list ho hc hd ra⟩
 | _,_,_,.tup (a:=a) hx hs,r=>by
  obtain rfl:=(show _=Value.ref a from r)
  obtain ⟨its,rv,pl,_⟩:=I.tuple hx
  obtain ⟨as,ra⟩:=DVs.reads I hs rv
  obtain ⟨o,ho,hc,n,hd⟩:=pl
  exact ⟨_,.tuple ho hc hd ra⟩
theorem DVs.reads (I:Inv X pins σ H s):∀{vs:List V} {ds:List PyData} {us:List Value},DVs X.K H vs ds->Vals vs us->∃as,ReadsAll s.heap us ds as
 | _,_,_,.nil,.nil=>⟨_,.nil⟩
 | _,_,_,.cons h hs,.cons r rs=>by
  obtain ⟨as,ra⟩:=DV.reads I h r
  obtain ⟨bs,rb⟩:=DVs.reads I hs rs
  exact ⟨_,.cons ra rb⟩
end
noncomputable def Ad4 (K:Θf) (neg:Bool):R2:=fun x y H Q=>∃d1 d2:PyData,DV K H x d1/\DV K H y d2/\SeqAt.shaped d1=true/\SeqAt.shaped d2=true/\SeqAt.noMix d1 d2=true/\Q (.bl (if neg then !same d1 d2 else same d1 d2)) H
theorem Acb (h:X.K=K) (hu:X.A.units + 64 < cLine):OpR X (compareOp .Eq) (Ad4 K false):=by
 subst h
 intro pins s σ H x y v u Q I rx ry h
 obtain ⟨d1,d2,h1,h2,s1,s2,nm,q⟩:=h
 obtain ⟨as,ra⟩:=h1.reads I rx
 obtain ⟨bs,rb⟩:=h2.reads I ry
 exact eq_dataH_same ra rb s1 s2 hu nm ⟨.bl _,H,I,rfl,q⟩
theorem Hg (h:X.K=K) (hu:X.A.units + 64 < cLine):OpR X (compareOp .NotEq) (Ad4 K true):=by
 subst h
 intro pins s σ H x y v u Q I rx ry h
 obtain ⟨d1,d2,h1,h2,s1,s2,nm,q⟩:=h
 obtain ⟨as,ra⟩:=h1.reads I rx
 obtain ⟨bs,rb⟩:=h2.reads I ry
 exact ne_dataH_same ra rb s1 s2 hu nm ⟨.bl _,H,I,rfl,q⟩
end
section
variable {α:Type} {f:α->PyData}
theorem Z4 [DecidableEq α] (h:∀a b,same (f a) (f b)=decide (a=b)):∀xs ys:List α,sameAll (xs.map f) (ys.map f)=decide (xs=ys)
 | [],[]=>by simp [sameAll]
 | [],_ :: _=>by simp [sameAll]
 | _ :: _,[]=>by simp [sameAll]
 | x :: xs,y :: ys=>by
  simp only [List.map_cons,sameAll,h,Z4 h xs ys]
  by_cases e:x=y <;> simp [e]
theorem X1 (h:∀a b,SeqAt.noMix (f a) (f b)=true):∀xs ys:List α,SeqAt.noMixAll (xs.map f) (ys.map f)=true
 | [],[]=>by simp [SeqAt.noMixAll]
 | [],_ :: _=>by simp [SeqAt.noMixAll]
 | _ :: _,[]=>by simp [SeqAt.noMixAll]
 | x :: xs,y :: ys=>by simp [SeqAt.noMixAll,h,X1 h xs ys]
theorem V0 (h:∀a,PyData.canLay0 (f a)=true):∀xs:List α,PyData.canLayAll0 (xs.map f)=true
 | []=>by simp [PyData.canLayAll0]
 | x :: xs=>by simp [PyData.canLayAll0,h,V0 h xs]
theorem W6 {n:Nat} (h:∀a,PyData.depth (f a)<=n):∀xs:List α,PyData.depthAll (xs.map f)<=n
 | []=>by simp [PyData.depthAll]
 | x :: xs=>by
  have h1:=h x
  have h2:=W6 h xs
  simp only [List.map_cons,PyData.depthAll]
  omega
theorem Ms (h:∀a,PyData.canLay0 (f a)=true) (hd:∀a,PyData.depth (f a)<=10) (xs:List α):SeqAt.shaped (.list (xs.map f))=true:=by
 have h2:PyData.depth (.list (xs.map f))<=64:=by
  have:=W6 hd xs
  simp only [PyData.depth]
  omega
 show (PyData.canLay0 (.list (xs.map f)) && decide (PyData.depth (.list (xs.map f))<=64))=true
 rw [Bool.and_eq_true]
 exact ⟨by simp only [PyData.canLay0]; exact V0 h xs,decide_eq_true h2⟩
end
section
variable {X:Cx} {K:Θf} {e:Expr} {te:TE} {ste:Expr} {tst:TO} {pos p2:Pos}
end
theorem Y5 (xs:List V) (k:Nat):Fa xs none (some (k:Int))=xs.take k:=by
 unfold Fa
 show (xs.drop 0).take (HT.sIx xs.length xs.length (some ((k:Nat):Int)) - 0)=_
 rw [HT.sIx_nat,List.drop_zero,Nat.sub_zero,List.take_eq_take_iff]
 omega
theorem Ds (xs:List V) (k:Nat):Fa xs (some (k:Int)) none=xs.drop k:=by
 unfold Fa
 rw [HT.sIx_nat,HT.sIx_none]
 by_cases h:k<=xs.length
 ·rw [Nat.min_eq_left h,List.take_of_length_le (by rw [List.length_drop]; exact Zd_ _)]
 ·rw [Nat.min_eq_right (by omega),List.drop_eq_nil_of_le (Zd_ _),List.drop_eq_nil_of_le (by omega),List.take_nil]
theorem Same.none {H H':Hp} {p:Addr} (e:Same H H') (h:H' p=none):H p=none:=by
 cases z:H p with
 | none=>rfl
 | some o=>rw [e _ _ z] at h; cases h
noncomputable def F9 (st:Bool) (x y b:Nat):Bool:=decide (x&&&b=0) && !decide (y&&&b=0) && (st || !decide (y&&&b=b))
noncomputable def Ks:Sp:=fun vs H Q _=>∃(r:Addr) (st:Bool) (x y b:Nat),vs=[.ref r,vN b]/\W2 H r st x y/\Q (.bl (F9 st x y b)) H
noncomputable def inN (y:Nat) (bs:List Nat) (at_:Nat):Nat:=bs.getD at_ 0&&&y
noncomputable def P7 (y:Nat) (bs:List Nat) (at_:Nat):Nat:=bs.getD at_ 0 - inN y bs at_
noncomputable def N7 (st:Bool) (y fx:Nat) (bs:List Nat) (at_:Nat):Nat:=if st=true then fx + inN y bs at_ else fx
noncomputable def F4 (st:Bool) (y:Nat) (bs:List Nat) (at_:Nat):List Nat:=
 bs.take at_++(if st=true then (if 0 < P7 y bs at_ then [P7 y bs at_] else []) else [inN y bs at_,P7 y bs at_])++bs.drop (at_ + 1)
end L2
namespace L2
end L2
namespace L2
theorem Bx:∀(a b:Nat),a&&&b=0->a|||b=a + b:=by
 intro a
 induction a using Nat.strongRecOn with
 | _ a ih=>
  intro b h
  by_cases a0:a=0
  ·subst a0; simp
  have i:=ih (a / 2) (by omega) (b / 2) (by rw [<-Nat.and_div_two,h])
  rw [<-Nat.or_div_two] at i
  have m1:=Nat.and_mod_two_eq_one (a:=a) (b:=b)
  have m2:=Nat.or_mod_two_eq_one (a:=a) (b:=b)
  rw [h] at m1
  omega
theorem dis_iff {a b:Nat}:a&&&b=0↔∀k,a.testBit k=true->b.testBit k=false:=by
 constructor
 ·intro h k ha
  have e:(a&&&b).testBit k=(0:Nat).testBit k:=by rw [h]
  rw [Nat.testBit_and,Nat.zero_testBit,ha,Bool.true_and] at e
  exact e
 ·intro h
  refine Nat.eq_of_testBit_eq fun k=>?_
  rw [Nat.testBit_and,Nat.zero_testBit]
  cases ha:a.testBit k with
  | false=>rfl
  | true=>rw [h k ha]; rfl
theorem Y6 {a b:Nat} (h:a&&&b=0):b&&&a=0:=by rw [Nat.and_comm]; exact h
noncomputable def Af (c b:Nat):Prop:=∀k,c.testBit k=true->b.testBit k=true
theorem T7 {a b c:Nat} (h:a&&&b=0) (s:Af c b):a&&&c=0:=dis_iff.mpr fun k ha=>by
 cases hc:c.testBit k with
 | false=>rfl
 | true=>have:=dis_iff.mp h k ha; rw [s k hc] at this; exact this
theorem Ji {a b c:Nat} (h:b&&&a=0) (s:Af c b):c&&&a=0:=Y6 (T7 (Y6 h) s)
theorem Aad (b y:Nat):b - (b&&&y)=b ^^^ (b&&&y):=by
 have h0:(b ^^^ (b&&&y))&&&(b&&&y)=0:=dis_iff.mpr fun k h=>by
  rw [Nat.testBit_xor,Nat.testBit_and] at h
  rw [Nat.testBit_and]
  cases hb:b.testBit k <;> cases hy:y.testBit k <;> rw [hb,hy] at h <;> first | rfl | (simp at h)
 have h1:(b ^^^ (b&&&y))|||(b&&&y)=b:=by
  refine Nat.eq_of_testBit_eq fun k=>?_
  rw [Nat.testBit_or,Nat.testBit_xor,Nat.testBit_and]
  cases hb:b.testBit k <;> cases hy:y.testBit k <;> rfl
 have h2:=Bx _ _ h0
 omega
theorem Ev (b y k:Nat):(b - (b&&&y)).testBit k=(b.testBit k && !y.testBit k):=by
 rw [Aad,Nat.testBit_xor,Nat.testBit_and]
 cases b.testBit k <;> cases y.testBit k <;> rfl
theorem Cc (b y:Nat):Af (b&&&y) b:=fun k h=>by
 rw [Nat.testBit_and,Bool.and_eq_true] at h
 exact h.1
theorem Ae (b y:Nat):Af (b - (b&&&y)) b:=fun k h=>by
 rw [Ev,Bool.and_eq_true] at h
 exact h.1
theorem Dt (b y:Nat):(b&&&y)&&&(b - (b&&&y))=0:=dis_iff.mpr fun k h=>by
 rw [Nat.testBit_and,Bool.and_eq_true] at h
 rw [Ev,h.1,h.2]; rfl
theorem Tn {m x:Nat} (h:x < 2 ^ m):x&&&(2 ^ m - 1 - x)=0:=dis_iff.mpr fun k hk=>by
 have e:2 ^ m - 1 - x=2 ^ m - (x + 1):=by omega
 rw [e,Nat.testBit_two_pow_sub_succ h,hk]
 simp
structure Good (m fx:Nat) (bs:List Nat):Prop where
 sum:fx + bs.sum=2 ^ m - 1
 pos:∀b∈bs,0 < b
 dis:∀b∈bs,fx&&&b=0
 pw:bs.Pairwise fun a b=>a&&&b=0
theorem Bi:∀{bs:List Nat},(∀b∈bs,0 < b)->bs.length<=bs.sum
 | [],_=>Zd_ _
 | b :: bs,h=>by
  have h1:=h b (Θc ..)
  have h2:=Bi (bs:=bs) fun c hc=>h c (Θd _ hc)
  rw [ZA,List.sum_cons]
  omega
theorem Og:∀{bs:List Nat} {b:Nat},b∈bs->b<=bs.sum
 | c :: bs,b,h=>by
  rw [List.sum_cons]
  rcases Zg_.mp h with rfl | h
  ·omega
  ·have:=Og h
   omega
theorem El {m:Nat} (h:m<=7):2 ^ m<=128:=Nat.pow_le_pow_right (by decide) h
theorem Good.len {m fx:Nat} {bs:List Nat} (g:Good m fx bs) (h:m<=7):bs.length<=127:=by
 have h1:=Bi g.pos
 have h2:=g.sum
 have h3:=El h
 omega
theorem Good.lt {m fx:Nat} {bs:List Nat} (g:Good m fx bs) {b:Nat} (hb:b∈bs):b < 2 ^ m:=by
 have h1:=Og hb
 have h2:=g.sum
 have h3:=Nat.two_pow_pos m
 omega
theorem Et {bs:List Nat} {i:Nat} (h:i < bs.length):bs=bs.take i++bs.getD i 0 :: bs.drop (i + 1):=by
 have e:bs.getD i 0=bs[i]:=by rw [Zu_,Θh h]; rfl
 rw [e,<-List.drop_eq_getElem_cons h,List.take_append_drop]
theorem Gc {st:Bool} {x y b:Nat} (h:F9 st x y b=true):x&&&b=0/\0 < b&&&y/\(st=true\/b&&&y < b):=by
 unfold F9 at h
 rw [Bool.and_eq_true,Bool.and_eq_true] at h
 obtain ⟨⟨h1,h2⟩,h3⟩:=h
 have e1:=Zj_ h1
 have e2:¬(y&&&b=0):=by
  intro z; rw [Zr_ z] at h2; cases h2
 rw [Nat.and_comm] at e2
 refine ⟨e1,by omega,?_⟩
 rw [Bool.or_eq_true] at h3
 rcases h3 with h3 | h3
 ·exact .inl h3
 ·right
  have e3:¬(y&&&b=b):=by
   intro z; rw [Zr_ z] at h3; cases h3
  rw [Nat.and_comm] at e3
  have:=Nat.and_le_left (n:=b) (m:=y)
  omega
theorem Good.use {m fx:Nat} {bs:List Nat} (g:Good m fx bs) {st:Bool} {x y i:Nat} (hi:i < bs.length) (hu:F9 st x y (bs.getD i 0)=true) :
  Good m (N7 st y fx bs i) (F4 st y bs i)/\2 * (F4 st y bs i).sum - (F4 st y bs i).length < 2 * bs.sum - bs.length:=by
 obtain ⟨_,hin,hout⟩:=Gc hu
 have e:=Et hi
 have ls:=Bi g.pos
 unfold N7 F4 P7 inN
 generalize bs.getD i 0=b at e hin hout
 generalize bs.take i=p at e
 generalize bs.drop (i + 1)=q at e
 subst e
 have le:b&&&y<=b:=Nat.and_le_left
 obtain ⟨sm,ps,ds,pw⟩:=g
 have hb:b∈p++b :: q:=Zh_ _ (Θc ..)
 have hp:∀c∈p,c∈p++b :: q:=fun c hc=>Zt_ _ hc
 have hq:∀c∈q,c∈p++b :: q:=fun c hc=>Zh_ _ (Θd _ hc)
 have db:=ds b hb
 rw [List.pairwise_append,List.pairwise_cons] at pw
 obtain ⟨pp,⟨bq,qq⟩,pq⟩:=pw
 have pb:∀c∈p,c&&&b=0:=fun c hc=>pq c hc b (Θc ..)
 have pq':∀c∈p,∀d∈q,c&&&d=0:=fun c hc d hd=>pq c hc d (Θd _ hd)
 have sm':(p++b :: q).sum=p.sum + (b + q.sum):=by rw [List.sum_append,List.sum_cons]
 have ln':(p++b :: q).length=p.length + (q.length + 1):=by rw [Zv_,ZA]
 rw [sm'] at sm ls
 rw [sm',ln']
 rw [ln'] at ls
 have lp:p.length<=p.sum:=Bi fun c hc=>ps c (hp c hc)
 have lq:q.length<=q.sum:=Bi fun c hc=>ps c (hq c hc)
 have orfx:∀c,fx&&&c=0->(b&&&y)&&&c=0->(fx + (b&&&y))&&&c=0:=fun c h1 h2=>by
  rw [<-Bx _ _ (T7 db (Cc b y))]
  refine dis_iff.mpr fun k hk=>?_
  rw [Nat.testBit_or,Bool.or_eq_true] at hk
  rcases hk with hk | hk
  ·exact dis_iff.mp h1 k hk
  ·exact dis_iff.mp h2 k hk
 have inp:∀c∈p,(b&&&y)&&&c=0:=fun c hc=>Y6 (T7 (pb c hc) (Cc b y))
 have inq:∀c∈q,(b&&&y)&&&c=0:=fun c hc=>Ji (bq c hc) (Cc b y)
 have outp:∀c∈p,c&&&(b - (b&&&y))=0:=fun c hc=>T7 (pb c hc) (Ae b y)
 have outq:∀c∈q,(b - (b&&&y))&&&c=0:=fun c hc=>Ji (bq c hc) (Ae b y)
 cases st with
 | true=>
  simp only [if_true]
  by_cases ho:0 < b - (b&&&y)
  ·rw [if_pos ho]
   refine ⟨⟨?_,?_,?_,?_⟩,?_⟩
   ·rw [Zy_,List.sum_append,List.singleton_append,List.sum_cons]; omega
   ·intro c hc
    rcases Θa hc with hc | hc
    ·rcases Θa hc with hc | hc
     ·exact ps c (hp c hc)
     ·rw [Θs hc]; exact ho
    ·exact ps c (hq c hc)
   ·intro c hc
    rcases Θa hc with hc | hc
    ·rcases Θa hc with hc | hc
     ·exact orfx c (ds c (hp c hc)) (inp c hc)
     ·rw [Θs hc]; exact orfx _ (T7 db (Ae b y)) (Dt b y)
    ·exact orfx c (ds c (hq c hc)) (inq c hc)
   ·rw [Zy_,List.singleton_append,List.pairwise_append,List.pairwise_cons]
    refine ⟨pp,⟨outq,qq⟩,fun c hc d hd=>?_⟩
    rcases Zg_.mp hd with rfl | hd
    ·exact outp c hc
    ·exact pq' c hc d hd
   ·rw [Zy_,List.sum_append,List.singleton_append,List.sum_cons,Zv_,ZA]; omega
  ·rw [if_neg ho,List.append_nil]
   refine ⟨⟨?_,?_,?_,?_⟩,?_⟩
   ·rw [List.sum_append]; omega
   ·intro c hc
    rcases Θa hc with hc | hc
    ·exact ps c (hp c hc)
    ·exact ps c (hq c hc)
   ·intro c hc
    rcases Θa hc with hc | hc
    ·exact orfx c (ds c (hp c hc)) (inp c hc)
    ·exact orfx c (ds c (hq c hc)) (inq c hc)
   ·rw [List.pairwise_append]
    exact ⟨pp,qq,pq'⟩
   ·rw [List.sum_append,Zv_]; omega
 | false=>
  have ho:0 < b - (b&&&y):=by
   rcases hout with h | h
   ·cases h
   ·omega
  simp only [Bool.false_eq_true,if_false]
  rw [Zy_,List.cons_append,List.cons_append,List.nil_append]
  refine ⟨⟨?_,?_,?_,?_⟩,?_⟩
  ·rw [List.sum_append,List.sum_cons,List.sum_cons]; omega
  ·intro c hc
   rcases Θa hc with hc | hc
   ·exact ps c (hp c hc)
   ·rcases Zg_.mp hc with rfl | hc
    ·exact hin
    ·rcases Zg_.mp hc with rfl | hc
     ·exact ho
     ·exact ps c (hq c hc)
  ·intro c hc
   rcases Θa hc with hc | hc
   ·exact ds c (hp c hc)
   ·rcases Zg_.mp hc with rfl | hc
    ·exact T7 db (Cc b y)
    ·rcases Zg_.mp hc with rfl | hc
     ·exact T7 db (Ae b y)
     ·exact ds c (hq c hc)
  ·rw [List.pairwise_append,List.pairwise_cons,List.pairwise_cons]
   refine ⟨pp,⟨fun d hd=>?_,outq,qq⟩,fun c hc d hd=>?_⟩
   ·rcases Zg_.mp hd with rfl | hd
    ·exact Dt b y
    ·exact inq d hd
   ·rcases Zg_.mp hd with rfl | hd
    ·exact Y6 (inp c hc)
    ·rcases Zg_.mp hd with rfl | hd
     ·exact outp c hc
     ·exact pq' c hc d hd
  ·rw [List.sum_append,List.sum_cons,List.sum_cons,Zv_,ZA,ZA]; omega
noncomputable def E6 (m x:Nat):List Nat:=if x < 2 ^ m - 1 then [2 ^ m - 1 - x] else []
theorem Good.begin {m x:Nat} (h:x < 2 ^ m):Good m x (E6 m x):=by
 unfold E6
 split
 ·refine ⟨by simp; omega,fun b hb=>?_,fun b hb=>?_,List.pairwise_singleton _ _⟩
  ·rw [Θs hb]; omega
  ·rw [Θs hb]; exact Tn h
 ·exact ⟨by simp; omega,fun b hb=>absurd hb List.not_mem_nil,fun b hb=>absurd hb List.not_mem_nil,List.Pairwise.nil⟩
noncomputable abbrev RD:=Bool × Nat × Nat
noncomputable def usB (r:RD) (b:Nat):Bool:=F9 r.1 r.2.1 r.2.2 b
noncomputable def Y0 (r:RD) (k:Nat) (bs:List Nat) (n:Nat):List (Nat × Nat):=((List.range n).filter fun a=>usB r (bs.getD a 0)).map fun a=>(k,a)
noncomputable def Y2 (rs:List RD) (k:Nat):RD:=rs.getD k (false,0,0)
noncomputable def M5 (rs:List RD) (bs:List Nat) (i:Nat):List (Nat × Nat):=(List.range i).flatMap fun k=>Y0 (Y2 rs k) k bs bs.length
theorem Ar (r:RD) (k:Nat) (bs:List Nat) (n:Nat):Y0 r k bs (n + 1)=Y0 r k bs n++(if usB r (bs.getD n 0)=true then [(k,n)] else []):=by
 unfold Y0
 rw [List.range_succ,List.filter_append,Zw_]
 congr 1
 cases h:usB r (bs.getD n 0) <;> simp only [List.filter_cons,List.filter_nil,h] <;> rfl
theorem Aq (rs:List RD) (bs:List Nat) (i:Nat):M5 rs bs (i + 1)=M5 rs bs i++Y0 (Y2 rs i) i bs bs.length:=by
 unfold M5
 rw [List.range_succ,List.flatMap_append,List.flatMap_cons,List.flatMap_nil,List.append_nil]
theorem Qt {r:RD} {k n:Nat} {bs:List Nat} {u:Nat × Nat} (h:u∈Y0 r k bs n):u.1=k/\u.2 < n/\usB r (bs.getD u.2 0)=true:=by
 unfold Y0 at h
 obtain ⟨a,ha,rfl⟩:=Θn h
 obtain ⟨h1,h2⟩:=List.mem_filter.mp ha
 exact ⟨rfl,List.mem_range.mp h1,h2⟩
theorem V6 {rs:List RD} {bs:List Nat} {i:Nat} {u:Nat × Nat} (h:u∈M5 rs bs i):u.1 < i/\u.2 < bs.length/\usB (Y2 rs u.1) (bs.getD u.2 0)=true:=by
 unfold M5 at h
 obtain ⟨k,hk,hu⟩:=List.mem_flatMap.mp h
 obtain ⟨rfl,h2,h3⟩:=Qt hu
 exact ⟨List.mem_range.mp hk,h2,h3⟩
theorem Xo {rs:List RD} {bs:List Nat} (h:M5 rs bs rs.length=[]) {r:RD} (hr:r∈rs) {b:Nat} (hb:b∈bs):usB r b=false:=by
 cases e:usB r b with
 | false=>rfl
 | true=>
  exfalso
  obtain ⟨k,hk,rfl⟩:=List.getElem_of_mem hr
  obtain ⟨a,ha,rfl⟩:=List.getElem_of_mem hb
  have e1:Y2 rs k=rs[k]:=by unfold Y2; rw [List.getD_eq_getElem?_getD,Θh hk]; rfl
  have e2:bs.getD a 0=bs[a]:=by rw [Zu_,Θh ha]; rfl
  have:(k,a)∈M5 rs bs rs.length:=by
   unfold M5
   refine List.mem_flatMap.mpr ⟨k,List.mem_range.mpr hk,?_⟩
   unfold Y0
   refine Θm ⟨a,List.mem_filter.mpr ⟨List.mem_range.mpr ha,?_⟩,rfl⟩
   rw [e1,e2]; exact e
  rw [h] at this
  exact absurd this Zi_
structure US where
 fx:Nat
 bs:List Nat
 st:List (Nat × Nat)
noncomputable def U7 (rs:List RD) (s:US) (u:Nat × Nat):US:=
 ⟨N7 (Y2 rs u.1).1 (Y2 rs u.1).2.2 s.fx s.bs u.2,F4 (Y2 rs u.1).1 (Y2 rs u.1).2.2 s.bs u.2,s.st++[(u.1,s.bs.getD u.2 0)]⟩
inductive Run (rs:List RD):US->US->Prop
 | done {s:US}:M5 rs s.bs rs.length=[]->Run rs s s
 | step {s t:US} {u:Nat × Nat} {us:List (Nat × Nat)}:M5 rs s.bs rs.length=u :: us->Run rs (U7 rs s u) t->Run rs s t
theorem Run.det {rs:List RD} {s t:US} (h:Run rs s t):∀{t':US},Run rs s t'->t=t':=by
 induction h with
 | done h=>
  intro t' h'
  cases h' with
  | done _=>rfl
  | step e _=>rw [h] at e; cases e
 | step e _ ih=>
  intro t' h'
  cases h' with
  | done h=>rw [h] at e; cases e
  | step e' r'=>
   rw [e] at e'
   injection e' with e1 e2
   subst e1
   exact ih r'
noncomputable def muS (bs:List Nat):Nat:=2 * bs.sum - bs.length
theorem Ad {rs:List RD} {s:US} {u:Nat × Nat} {m:Nat} (g:Good m s.fx s.bs) (h:u∈M5 rs s.bs rs.length):Good m (U7 rs s u).fx (U7 rs s u).bs/\muS (U7 rs s u).bs < muS s.bs:=by
 obtain ⟨_,h2,h3⟩:=V6 h
 exact g.use h2 h3
theorem Aac (rs:List RD) (s:US) (u:Nat × Nat):(U7 rs s u).st.length=s.st.length + 1:=by
 unfold U7
 rw [Zv_]; rfl
theorem Gf (r:RD) (k:Nat) (bs:List Nat) (j:Nat):∀d,∃z,Y0 r k bs (j + d)=Y0 r k bs j++z
 | 0=>⟨[],by rw [List.append_nil]; rfl⟩
 | d + 1=>by
  obtain ⟨z,e⟩:=Gf r k bs j d
  exact ⟨_,by rw [<-Nat.add_assoc,Ar,e,Zy_]⟩
theorem Ge (rs:List RD) (bs:List Nat) (i:Nat):∀d,∃z,M5 rs bs (i + d)=M5 rs bs i++z
 | 0=>⟨[],by rw [List.append_nil]; rfl⟩
 | d + 1=>by
  obtain ⟨z,e⟩:=Ge rs bs i d
  exact ⟨_,by rw [<-Nat.add_assoc,Aq,e,Zy_]⟩
theorem Nb {rs:List RD} {bs:List Nat} {i j n:Nat} (h0:M5 rs bs i=[]) (h1:Y0 (Y2 rs i) i bs j=[]) (hi:i < n) (hj:j < bs.length) (hu:usB (Y2 rs i) (bs.getD j 0)=true):∃us,M5 rs bs n=(i,j) :: us:=by
 obtain ⟨z,e⟩:=Ge rs bs (i + 1) (n - (i + 1))
 obtain ⟨z',e'⟩:=Gf (Y2 rs i) i bs (j + 1) (bs.length - (j + 1))
 rw [show i + 1 + (n - (i + 1))=n by omega] at e
 rw [show j + 1 + (bs.length - (j + 1))=bs.length by omega,Ar,h1,if_pos hu] at e'
 rw [e,Aq,h0,e']
 exact ⟨_,rfl⟩
noncomputable def orL (bs:List Nat):Nat:=bs.foldr (·|||·) 0
theorem Hj {c:Nat}:∀{bs:List Nat},(∀b∈bs,c&&&b=0)->c&&&orL bs=0
 | [],_=>by simp [orL]
 | b :: bs,h=>by
  show c&&&(b|||orL bs)=0
  have h1:=h b (Θc ..)
  have h2:=Hj (bs:=bs) fun d hd=>h d (Θd _ hd)
  refine dis_iff.mpr fun k hk=>?_
  rw [Nat.testBit_or,dis_iff.mp h1 k hk,dis_iff.mp h2 k hk]; rfl
theorem Oj:∀{bs:List Nat},(bs.Pairwise fun a b=>a&&&b=0)->orL bs=bs.sum
 | [],_=>rfl
 | b :: bs,h=>by
  rw [List.pairwise_cons] at h
  show b|||orL bs=_
  rw [Bx _ _ (Hj h.1),Oj h.2,List.sum_cons]
theorem tb_orL {k:Nat}:∀{bs:List Nat},(orL bs).testBit k=true↔∃b∈bs,b.testBit k=true
 | []=>by simp [orL]
 | b :: bs=>by
  show (b|||orL bs).testBit k=true↔_
  rw [Nat.testBit_or,Bool.or_eq_true,tb_orL (bs:=bs)]
  constructor
  ·rintro (h | ⟨c,hc,h⟩)
   ·exact ⟨b,Θc ..,h⟩
   ·exact ⟨c,Θd _ hc,h⟩
  ·rintro ⟨c,hc,h⟩
   rcases Zg_.mp hc with rfl | hc
   ·exact .inl h
   ·exact .inr ⟨c,hc,h⟩
theorem Good.col {m fx:Nat} {bs:List Nat} (g:Good m fx bs) {k:Nat}:fx.testBit k=true↔k < m/\∀b∈bs,b.testBit k=false:=by
 have e:fx|||orL bs=2 ^ m - 1:=by rw [Bx _ _ (Hj g.dis),Oj g.pw,g.sum]
 have t:(fx|||orL bs).testBit k=decide (k < m):=by rw [e,Nat.testBit_two_pow_sub_one]
 rw [Nat.testBit_or] at t
 constructor
 ·intro h
  rw [h,Bool.true_or] at t
  exact ⟨Zj_ t.symm,fun b hb=>dis_iff.mp (g.dis b hb) k h⟩
 ·rintro ⟨hk,h⟩
  rw [Zr_ hk,Bool.or_eq_true] at t
  rcases t with t | t
  ·exact t
  ·obtain ⟨b,hb,hbk⟩:=tb_orL.mp t
   rw [h b hb] at hbk; cases hbk
theorem Na {st:Bool} {x y b d:Nat} (hu:F9 st x y b=true) (hd:F9 st x y d=false) (s:Af d b):y&&&d=0\/(st=false/\y&&&d=d):=by
 obtain ⟨h1,_,_⟩:=Gc hu
 have h2:x&&&d=0:=T7 h1 s
 unfold F9 at hd
 rw [Zr_ h2,Bool.true_and] at hd
 by_cases h3:y&&&d=0
 ·exact .inl h3
 ·right
  rw [decide_eq_false h3,Bool.not_false,Bool.true_and,Bool.or_eq_false_iff] at hd
  refine ⟨hd.1,?_⟩
  by_cases h4:y&&&d=d
  ·exact h4
  ·rw [decide_eq_false h4] at hd; cases hd.2
theorem Yg {st:Bool} {x y d i:Nat} {bs:List Nat} (hi:i < bs.length) (hu:F9 st x y (bs.getD i 0)=true) (hd:F9 st x y d=false) (d0:d≠0) (h:∃b∈bs,Af d b):∃b∈F4 st y bs i,Af d b:=by
 obtain ⟨b,hb,hs⟩:=h
 have e:=Et hi
 unfold F4 P7 inN
 generalize bs.getD i 0=c at e hu
 generalize bs.take i=p at e
 generalize bs.drop (i + 1)=q at e
 subst e
 rcases Θa hb with hb | hb
 ·exact ⟨b,Zt_ _ (Zt_ _ hb),hs⟩
 rcases Zg_.mp hb with rfl | hb
 ·have so:y&&&d=0->Af d (b - (b&&&y)):=fun z k hk=>by
   rw [Ev,hs k hk,dis_iff.mp (Y6 z) k hk]; rfl
  have si:y&&&d=d->Af d (b&&&y):=fun z k hk=>by
   have:(y&&&d).testBit k=true:=by rw [z]; exact hk
   rw [Nat.testBit_and,Bool.and_eq_true] at this
   rw [Nat.testBit_and,hs k hk,this.1]; rfl
  have ne:Af d (b - (b&&&y))->0 < b - (b&&&y):=fun z=>by
   apply Nat.pos_of_ne_zero
   intro e0
   apply d0
   refine Nat.eq_of_testBit_eq fun k=>?_
   rw [Nat.zero_testBit]
   cases hk:d.testBit k with
   | false=>rfl
   | true=>have:=z k hk; rw [e0,Nat.zero_testBit] at this; cases this
  rcases Na hu hd hs with z | ⟨rfl,z⟩
  ·refine ⟨b - (b&&&y),Zt_ _ (Zh_ _ ?_),so z⟩
   cases st with
   | true=>rw [if_pos rfl,if_pos (ne (so z))]; exact List.mem_singleton.mpr rfl
   | false=>rw [if_neg Zf_]; exact Θd _ (List.mem_singleton.mpr rfl)
  ·exact ⟨b&&&y,Zt_ _ (Zh_ _ (Θc ..)),si z⟩
 ·exact ⟨b,Zh_ _ hb,hs⟩
theorem Acs {rs:List RD} {k:Nat} (h:k < rs.length):Y2 rs k∈rs:=by
 unfold Y2
 rw [Zu_,Θh h]
 exact List.getElem_mem h
theorem Run.good {rs:List RD} {s t:US} {m:Nat} (h:Run rs s t):Good m s.fx s.bs->Good m t.fx t.bs/\M5 rs t.bs rs.length=[]:=by
 induction h with
 | done h=>exact fun g=>⟨g,h⟩
 | step e _ ih=>exact fun g=>ih (Ad g (by rw [e]; exact Θc ..)).1
theorem Run.keep {rs:List RD} {s t:US} {d:Nat} (h:Run rs s t) (d0:d≠0) (hd:∀r∈rs,usB r d=false):(∃b∈s.bs,Af d b)->∃b∈t.bs,Af d b:=by
 induction h with
 | done h=>exact id
 | step e _ ih=>
  intro z
  obtain ⟨h1,h2,h3⟩:=V6 (rs:=rs) (by rw [e]; exact Θc ..)
  exact ih (Yg h2 h3 (hd _ (Acs h1)) d0 z)
theorem Pt {m x d:Nat} (hx:x < 2 ^ m) (hd:d < 2 ^ m) (d0:d≠0) (z:d&&&x=0):∃b∈E6 m x,Af d b:=by
 have s:Af d (2 ^ m - 1 - x):=fun k hk=>by
  have e:2 ^ m - 1 - x=2 ^ m - (x + 1):=by omega
  rw [e,Nat.testBit_two_pow_sub_succ hx,dis_iff.mp z k hk]
  have:k < m:=by
   apply Nat.lt_of_not_le
   intro le
   have:d.testBit k=false:=Nat.testBit_lt_two_pow (Zq_ hd (Nat.pow_le_pow_right (by decide) le))
   rw [this] at hk; cases hk
  rw [Zr_ this]; rfl
 have lt:x < 2 ^ m - 1:=by
  apply Nat.lt_of_not_le
  intro le
  apply d0
  have e:2 ^ m - 1 - x=0:=by omega
  refine Nat.eq_of_testBit_eq fun k=>?_
  rw [Nat.zero_testBit]
  cases hk:d.testBit k with
  | false=>rfl
  | true=>have:=s k hk; rw [e,Nat.zero_testBit] at this; cases this
 unfold E6
 rw [if_pos lt]
 exact ⟨_,List.mem_singleton.mpr rfl,s⟩
theorem Lf {st:Bool} {y i k:Nat} {bs:List Nat} (hi:i < bs.length) (h:∃b∈F4 st y bs i,b.testBit k=true):∃b∈bs,b.testBit k=true:=by
 obtain ⟨b,hb,hk⟩:=h
 have e:=Et hi
 unfold F4 P7 inN at hb
 generalize bs.getD i 0=c at e hb
 generalize bs.take i=p at e hb
 generalize bs.drop (i + 1)=q at e hb
 subst e
 rcases Θa hb with hb | hb
 ·rcases Θa hb with hb | hb
  ·exact ⟨b,Zt_ _ hb,hk⟩
  ·refine ⟨c,Zh_ _ (Θc ..),?_⟩
   cases st with
   | true=>
    rw [if_pos rfl] at hb
    split at hb
    ·rw [Θs hb] at hk; exact Ae c y k hk
    ·exact absurd hb Zi_
   | false=>
    rw [if_neg Zf_] at hb
    rcases Zg_.mp hb with rfl | hb
    ·exact Cc c y k hk
    ·rw [Θs hb] at hk; exact Ae c y k hk
 ·exact ⟨b,Zh_ _ (Θd _ hb),hk⟩
theorem Run.sub {rs:List RD} {s t:US} {k:Nat} (h:Run rs s t):(∃b∈t.bs,b.testBit k=true)->∃b∈s.bs,b.testBit k=true:=by
 induction h with
 | done h=>exact id
 | step e _ ih=>
  intro z
  obtain ⟨_,h2,_⟩:=V6 (rs:=rs) (by rw [e]; exact Θc ..)
  exact Lf h2 (ih z)
end L2
namespace L2
open PySem PySem.Spec PyProof.Rows
theorem Same.own {H H':Hp} {p:Addr} {o:HO} (e:Same H H') (h:H p=Option.none):Same H (upd H' p o):=fun c u z=>by
 rw [C9 (C7 z h)]
 exact e c u z
theorem Xy (b y:Nat):Builtin.bitAnd (b:Int) (Builtin.bitNot (y:Int))=((b - (b&&&y):Nat):Int):=by
 have hy:¬0<=Builtin.bitNot (y:Int):=by unfold Builtin.bitNot; omega
 have hb:0<=(b:Int):=by omega
 have le:=Nat.and_le_left (n:=b) (m:=y)
 simp only [Builtin.bitAnd,hy,hb,decide_false,decide_true,Dl,Int.toNat_natCast]
 omega
section
variable {X:Cx} {K:Θf}
theorem Ac:OpR X (binaryOp .BitAnd) (fun x y H Q=>∃a b:Nat,x=vN a/\y = .int (Builtin.bitNot (b:Int))/\Q (vN (a - (a&&&b))) H):=op_and.mono fun x y H Q ⟨a,b,h1,h2,q⟩=>⟨a,_,h1,h2,by
 show Q (V.int (Builtin.bitAnd (a:Int) (Builtin.bitNot (b:Int)))) H
 rw [Xy]; exact q⟩
theorem Zj {es:List Expr} {k:Nat} {pos:Pos} {t:TGs} {n:Nat} (hK:X.K=K) (hc:X.calm=true) (h:PGs X es t) (hn:(assignEach es X.env).length=n) (hst:(assignEach es X.env).findIdx? (·.1)=none):PG X (.Tuple es k pos) (Adt K n t):=hK ▸ Hk hc h hn hst
end
noncomputable def Es:Sp:=fun vs H Q _=>∃b:Nat,vs=[vN b]/\∀p,H p=none->Q (.ref p) (upd H p (.lst ((if 0 < b then [b] else []).map vN)))
noncomputable def Xe (K:Θf):Sp:=fun vs H Q _=>∃(r l:Addr) (st:Bool) (x y fx at_:Nat) (bs:List Nat),vs=[.ref r,vN fx,.ref l,vN at_]/\W2 H r st x y/\SqL K H l (bs.map vN)/\at_ < bs.length/\bs.length<=200/\fx&&&bs.getD at_ 0=0/\
 ∀(t p:Addr) (H':Hp),Same H H'->H t=none->H' t=some (.tup [vN (N7 st y fx bs at_),.ref p])->H p=none->H' p=some (.lst ((F4 st y bs at_).map vN))->Q (.ref t) H'
noncomputable def Pe (K:Θf):Sp:=fun vs H Q _=>∃m x:Nat,vs=[vN m,vN x]/\m<=7/\x < 2 ^ m/\
 ∀(t p:Addr) (H':Hp),Same H H'->H t=none->H' t=some (.tup [vN x,.ref p])->H p=none->H' p=some (.lst ((E6 m x).map vN))->Q (.ref t) H'
noncomputable def Rl.d (r:Rl):RD:=(r.st,r.x,r.y)
theorem Ov {rs:List Rl} {k:Nat} {r:Rl} (h:rs[k]? = some r):Y2 (rs.map Rl.d) k=r.d:=by
 unfold Y2
 rw [Zu_,Θg,h]; rfl
noncomputable def RulesAt (H:Hp) (m:Nat) (rs:List Rl):Prop:=∀r∈rs,W2 H r.r r.st r.x r.y/\r.x < 2 ^ m/\r.y < 2 ^ m
theorem RulesAt.same {H H':Hp} {m:Nat} {rs:List Rl} (h:RulesAt H m rs) (e:Same H H'):RulesAt H' m rs:=fun r hr=>⟨e _ _ (h r hr).1,(h r hr).2⟩
noncomputable def Er (K:Θf):Sp:=fun vs H Q _=>∃(rl bl:Addr) (rs:List Rl) (bs:List Nat) (m:Nat),vs=[.ref rl,.ref bl]/\SqL K H rl (rs.map fun r=>V.ref r.r)/\RulesAt H m rs/\SqL K H bl (bs.map vN)/\rs.length<=200/\bs.length<=200/\
 (∀H',Same H H'->M5 (rs.map Rl.d) bs rs.length=[]->Q .non H')/\
 ∀(u:Nat × Nat) (us:List (Nat × Nat)) (t:Addr) (H':Hp),Same H H'->M5 (rs.map Rl.d) bs rs.length=u :: us->H t=none->H' t=some (.tup [vN u.1,vN u.2])->Q (.ref t) H'
noncomputable abbrev SW:=Addr × (Nat × Nat)
noncomputable def StepsAt (H:Hp) (sw:List SW):Prop:=∀w∈sw,H w.1=some (.tup [vN w.2.1,vN w.2.2])
theorem StepsAt.same {H H':Hp} {sw:List SW} (h:StepsAt H sw) (e:Same H H'):StepsAt H' sw:=fun w hw=>e _ _ (h w hw)
theorem StepsAt.put {H:Hp} {sw:List SW} {q:Addr} {xs ys:List V} (h:StepsAt H sw) (hq:H q=some (.lst xs)):StepsAt (upd H q (.lst ys)) sw:=fun w hw=>by
 rw [C9 (P4 (h w hw) hq (by intro z; cases z))]
 exact h w hw
theorem StepsAt.snoc {H:Hp} {sw:List SW} {w:SW} (h:StepsAt H sw) (hw:H w.1=some (.tup [vN w.2.1,vN w.2.2])):StepsAt H (sw++[w]):=fun v hv=>by
 rcases Θa hv with hv | hv
 ·exact h v hv
 ·rw [Θs hv]; exact hw
theorem Vz (rs:List Rl):(rs.map Rl.d).length=rs.length:=Θl ..
noncomputable def Ao (K:Θf):Sp:=fun vs H Q _=>∃(m x:Nat) (rl:Addr) (rs:List Rl),vs=[vN m,.ref rl,vN x]/\m<=7/\x < 2 ^ m/\SqL K H rl (rs.map fun r=>V.ref r.r)/\RulesAt H m rs/\rs.length<=200/\
 ∀(t p q:Addr) (s:US) (sw:List SW) (H':Hp),Run (rs.map Rl.d) ⟨x,E6 m x,[]⟩ s->Same H H'->H t=none->H' t=some (.tup [vN s.fx,.ref p,.ref q])->H p=none->H' p=some (.lst (s.bs.map vN))->H q=none->H' q=some (.lst (sw.map fun w=>V.ref w.1))->StepsAt H' sw->sw.map (·.2)=s.st->sw.length<=300->p≠q->Q (.ref t) H'
structure UCore (H:Hp) (m x:Nat) (rs:List Rl) (s:US) (p qa:Addr) (sw:List SW) (H':Hp):Prop where
 same:Same H H'
 hp0:H p=none
 hp:H' p=some (.lst (s.bs.map vN))
 npq:p≠qa
 hq0:H qa=none
 hq:H' qa=some (.lst (sw.map fun w=>V.ref w.1))
 st:StepsAt H' sw
 est:sw.map (·.2)=s.st
 good:Good m s.fx s.bs
 run:∀z,Run (rs.map Rl.d) s z->Run (rs.map Rl.d) ⟨x,E6 m x,[]⟩ z
 len:s.st.length + muS s.bs<=254
theorem UCore.mono {H:Hp} {m x:Nat} {rs:List Rl} {s:US} {p qa:Addr} {sw:List SW} {H' H'':Hp} (c:UCore H m x rs s p qa sw H') (e:Same H' H''):UCore H m x rs s p qa sw H'':=
 ⟨c.same.trans e,c.hp0,e _ _ c.hp,c.npq,c.hq0,e _ _ c.hq,c.st.same e,c.est,c.good,c.run,c.len⟩
theorem UCore.begin {H H':Hp} {m x:Nat} {rs:List Rl} {p qa:Addr} (m7:m<=7) (hx:x < 2 ^ m) (e:Same H H') (hp0:H p=none) (hp:H' p=some (.lst ((E6 m x).map vN))) (hq:H' qa=none):UCore H m x rs ⟨x,E6 m x,[]⟩ p qa [] (upd H' qa (.lst [])):=by
 have g:=Good.begin hx
 refine ⟨e.trans (Same.new hq),hp0,Same.new hq _ _ hp,C7 hp hq,e.none hq,A8,fun w h=>absurd h Zi_,rfl,g,fun z h=>h,?_⟩
 have e:=g.sum
 have p7:=El m7
 show 0 + muS (E6 m x)<=254
 unfold muS
 omega
theorem UCore.slen {H:Hp} {m x:Nat} {rs:List Rl} {s:US} {p qa:Addr} {sw:List SW} {H':Hp} (c:UCore H m x rs s p qa sw H'):sw.length<=254:=by
 have:=c.len
 have e:=congrArg List.length c.est
 rw [Θl] at e
 omega
theorem UCore.next {H:Hp} {m x:Nat} {rs:List Rl} {s:US} {p p' qa:Addr} {sw:List SW} {w:SW} {H1 H3:Hp} {u:Nat × Nat} {us:List (Nat × Nat)} (c:UCore H m x rs s p qa sw H1) (hu:M5 (rs.map Rl.d) s.bs rs.length=u :: us) (ew:w.2=(u.1,s.bs.getD u.2 0)) (hw:H1 w.1=some (.tup [vN w.2.1,vN w.2.2]))
  (s3:Same (upd H1 qa (.lst ((sw.map fun w=>V.ref w.1)++[V.ref w.1]))) H3) (hp':(upd H1 qa (.lst ((sw.map fun w=>V.ref w.1)++[V.ref w.1]))) p' = none) (hp3:H3 p' = some (.lst ((U7 (rs.map Rl.d) s u).bs.map vN))) :
  UCore H m x rs (U7 (rs.map Rl.d) s u) p' qa (sw++[w]) H3/\muS (U7 (rs.map Rl.d) s u).bs < muS s.bs:=by
 rw [<-Vz] at hu
 obtain ⟨g,mu⟩:=Ad (m:=m) (rs:=rs.map Rl.d) (s:=s) (u:=u) c.good (by rw [hu]; exact Θc ..)
 have sH:Same H (upd H1 qa (.lst ((sw.map fun w=>V.ref w.1)++[V.ref w.1]))):=c.same.own c.hq0
 refine ⟨⟨sH.trans s3,sH.none hp',hp3,Ne.symm (C7 A8 hp'),c.hq0,?_,?_,?_,g,fun z h=>c.run z (Run.step hu h),?_⟩,mu⟩
 ·rw [s3 _ _ A8,Zw_]; rfl
 ·refine ((c.st.put c.hq).snoc ?_).same s3
  rw [C9 (P4 hw c.hq (by intro z; cases z))]
  exact hw
 ·rw [Zw_,c.est]
  show s.st++[w.2]=s.st++[(u.1,s.bs.getD u.2 0)]
  rw [ew]
 ·rw [Aac]
  have:=c.len
  omega
noncomputable def Adn (H:Hp) (m x:Nat) (rl:Addr) (rs:List Rl) (n:Nat) (σ:St) (H':Hp):Prop:=
 ∃(s:US) (t p qa:Addr) (sw:List SW) (v:V),σ=[some (vN m),some (.ref rl),some (vN x),some (.ref t),some (.ref qa),some v]/\n=muS s.bs/\H' t=some (.tup [vN s.fx,.ref p])/\UCore H m x rs s p qa sw H'/\
  ((M5 (rs.map Rl.d) s.bs rs.length=[]/\v = .non)\/∃u us t5,M5 (rs.map Rl.d) s.bs rs.length=u :: us/\v = .ref t5/\H' t5=some (.tup [vN u.1,vN u.2]))
theorem Aal {rs:List Rl} {bs:List Nat} {u:Nat × Nat} {m:Nat} {H:Hp} (hu:u∈M5 (rs.map Rl.d) bs rs.length) (hR:RulesAt H m rs):∃r:Rl,rs[u.1]? = some r/\Y2 (rs.map Rl.d) u.1=r.d/\u.2 < bs.length/\bs[u.2]? = some (bs.getD u.2 0)/\(W2 H r.r r.st r.x r.y/\r.x < 2 ^ m/\r.y < 2 ^ m):=by
 obtain ⟨h1,h2,_⟩:=V6 hu
 have e:rs[u.1]? = some rs[u.1]:=Θh h1
 exact ⟨rs[u.1],e,Ov e,h2,by rw [Zu_,Θh h2]; rfl,hR _ (List.getElem_mem h1)⟩
section
variable {X:Cx} {K:Θf}
end
end L2
namespace L2
theorem Run.apart0 {rs:List RD} {m x:Nat} {s:US} (hx:x < 2 ^ m) (h:Run rs ⟨x,E6 m x,[]⟩ s) {b:Nat} (hb:b∈s.bs):x&&&b=0:=by
 refine dis_iff.mpr fun k hk=>?_
 cases hbk:b.testBit k with
 | false=>rfl
 | true=>
  obtain ⟨c,hc,hck⟩:=h.sub ⟨b,hb,hbk⟩
  have:=(Good.begin hx).dis c hc
  rw [dis_iff.mp this k hk] at hck
  cases hck
noncomputable def Iu (m:Nat) (rs:List RD) (d:Nat):Prop:=1<=d/\d < 2 ^ m/\∀r∈rs,usB r d=false
noncomputable def C5 (a k:Nat):Prop:=a.testBit k=true
theorem Fl {a:Nat} (h:a≠0):∃k,C5 a k:=by
 by_cases z:∃k,C5 a k
 ·exact z
 ·exfalso
  apply h
  refine Nat.eq_of_testBit_eq fun k=>?_
  rw [Nat.zero_testBit]
  cases e:a.testBit k with
  | false=>rfl
  | true=>exact absurd ⟨k,e⟩ z
theorem F6 (a b k:Nat):C5 (a&&&b) k↔C5 a k/\C5 b k:=by unfold C5; rw [Nat.testBit_and,Bool.and_eq_true]
theorem M0 (a b k:Nat):C5 (a|||b) k↔C5 a k\/C5 b k:=by unfold C5; rw [Nat.testBit_or,Bool.or_eq_true]
theorem Bf (b y k:Nat):C5 (b - (b&&&y)) k↔C5 b k/\¬C5 y k:=by
 unfold C5
 rw [Ev,Bool.and_eq_true]
 cases y.testBit k <;> simp
theorem Nx {m a k:Nat} (ha:a < 2 ^ m) (h:C5 a k):k < m:=by
 apply Nat.lt_of_not_le
 intro le
 have:a.testBit k=false:=Nat.testBit_lt_two_pow (Zq_ ha (Nat.pow_le_pow_right (by decide) le))
 unfold C5 at h
 rw [this] at h; cases h
theorem and_ne {a b:Nat}:a&&&b≠0↔∃k,C5 a k/\C5 b k:=by
 constructor
 ·intro h
  obtain ⟨k,hk⟩:=Fl h
  exact ⟨k,(F6 a b k).mp hk⟩
 ·rintro ⟨k,h1,h2⟩ e
  have:=(F6 a b k).mpr ⟨h1,h2⟩
  unfold C5 at this
  rw [e,Nat.zero_testBit] at this
  cases this
theorem Ta {y d:Nat}:y&&&d≠d↔∃k,C5 d k/\¬C5 y k:=by
 constructor
 ·intro h
  by_cases z:∃k,C5 d k/\¬C5 y k
  ·exact z
  ·exfalso
   apply h
   refine Nat.eq_of_testBit_eq fun k=>?_
   rw [Nat.testBit_and]
   cases hd:d.testBit k with
   | false=>rw [Bool.and_false]
   | true=>
    cases hy:y.testBit k with
    | true=>rfl
    | false=>exact absurd ⟨k,hd,fun q=>by unfold C5 at q; rw [hy] at q; cases q⟩ z
 ·rintro ⟨k,h1,h2⟩ e
  apply h2
  have:C5 (y&&&d) k:=by rw [e]; exact h1
  exact ((F6 y d k).mp this).1
theorem us_iff {st:Bool} {x y d:Nat}:usB (st,x,y) d=true↔(∀k,C5 d k->¬C5 x k)/\(∃k,C5 d k/\C5 y k)/\(st=true\/∃k,C5 d k/\¬C5 y k):=by
 show F9 st x y d=true↔_
 unfold F9
 rw [Bool.and_eq_true,Bool.and_eq_true,decide_eq_true_iff,Bool.or_eq_true]
 have e2:(!decide (y&&&d=0))=true↔∃k,C5 d k/\C5 y k:=by
  rw [Bool.not_eq_true',decide_eq_false_iff_not]
  exact and_ne.trans ⟨fun ⟨k,a,b⟩=>⟨k,b,a⟩,fun ⟨k,a,b⟩=>⟨k,b,a⟩⟩
 have e3:(!decide (y&&&d=d))=true↔∃k,C5 d k/\¬C5 y k:=by
  rw [Bool.not_eq_true',decide_eq_false_iff_not]
  exact Ta
 have e1:x&&&d=0↔∀k,C5 d k->¬C5 x k:=by
  constructor
  ·intro h k h1 h2
   exact and_ne.mpr ⟨k,h2,h1⟩ h
  ·intro h
   by_cases z:x&&&d=0
   ·exact z
   ·obtain ⟨k,a,b⟩:=and_ne.mp z
    exact absurd a (h k b)
 rw [e1,e2,e3,and_assoc]
theorem not_us {st:Bool} {x y d:Nat}:usB (st,x,y) d=false↔((∀k,C5 d k->¬C5 x k)->(∃k,C5 d k/\C5 y k)->(st=true\/∃k,C5 d k/\¬C5 y k)->False):=by
 constructor
 ·intro h a b c
  have:=us_iff.mpr ⟨a,b,c⟩
  rw [h] at this; cases this
 ·intro h
  cases e:usB (st,x,y) d with
  | false=>rfl
  | true=>
   obtain ⟨a,b,c⟩:=us_iff.mp e
   exact (h a b c).elim
theorem Run.kept {rs:List RD} {m x:Nat} {s:US} (hx:x < 2 ^ m) (R:Run rs ⟨x,E6 m x,[]⟩ s) {b:Nat} (hb:b∈s.bs):Iu m rs b:=by
 obtain ⟨g,un⟩:=R.good (m:=m) (Good.begin hx)
 exact ⟨g.pos b hb,g.lt hb,fun r hr=>Xo un hr hb⟩
theorem Run.holds {rs:List RD} {m x d:Nat} {s:US} (hx:x < 2 ^ m) (R:Run rs ⟨x,E6 m x,[]⟩ s) (hd:Iu m rs d) (ha:∀k,C5 d k->¬C5 x k):∃b∈s.bs,Af d b:=by
 have h0:=hd.1
 refine R.keep (by omega) hd.2.2 (Pt hx hd.2.1 (by omega) ?_)
 by_cases z:d&&&x=0
 ·exact z
 ·obtain ⟨k,a,b⟩:=and_ne.mp z
  exact absurd b (ha k a)
end L2
namespace L2
section
variable {m:Nat} {rs:List RD} {x y z v:Nat}
end
open PySem PySem.Spec PyProof.Rows
end L2
namespace L2
noncomputable def Nd (x d:Nat):Prop:=∀k,C5 d k->¬C5 x k
theorem Tb {x b:Nat} (h:x&&&b=0):Nd x b:=fun k h1 h2=>by
 have:=dis_iff.mp h k h2
 unfold C5 at h1
 rw [this] at h1; cases h1
structure Blocks (m:Nat) (rs:List RD) (x fx:Nat) (bs:List Nat):Prop where
 good:Good m fx bs
 kept:∀b∈bs,Iu m rs b
 apart:∀b∈bs,Nd x b
 holds:∀d,Iu m rs d->Nd x d->∃b∈bs,Af d b
theorem Run.blocks {rs:List RD} {m x:Nat} {s:US} (hx:x < 2 ^ m) (R:Run rs ⟨x,E6 m x,[]⟩ s):Blocks m rs x s.fx s.bs:=
 ⟨(R.good (m:=m) (Good.begin hx)).1,fun b hb=>R.kept hx hb,fun b hb=>Tb (R.apart0 hx hb),fun d hd ha=>R.holds hx hd ha⟩
end L2
namespace L2
open PySem PySem.Spec PyProof.Rows
section
variable {prog:Program} {w:World} {A:Around} {E:Value->Shared->Prop} {s:Shared} {a₀:Array Keyed} {κ:KeyKind}
end
section
variable {X:Cx} {K:Θf}
end
section
variable {X:Cx} {K:Θf}
end
section
variable {X:Cx} {pins:List (Addr × Obj)} {σ:St} {H:Hp} {s:Shared}
end
end L2
namespace L2
open PySem PySem.Spec PyProof.Rows PySem.W
noncomputable def Ad0 (a:Nat):Nat:=((List.range 7).filter (E3 a)).length
noncomputable def J9 (a m:Nat):List Nat:=(List.range (a + 1)).filter fun x=>decide (x&&&a=x) && decide (Ad0 x=m)
noncomputable def Bp (a m:Nat):List Nat:=(List.range m).flatMap (J9 a)
noncomputable def Tj (a:Nat):List Nat:=Bp a 8
noncomputable def Xl (a x:Nat):List Nat:=((L1 a).filter fun c=>decide (x < 2 ^ c)).map fun c=>x|||2 ^ c
noncomputable def Z1 (a:Nat) (l:List Nat):List Nat:=l.flatMap (Xl a)
theorem Fs:∀a,a < 128->∀i,i < 8->(Z1 a (J9 a i)).isPerm (J9 a (i + 1))=true:=by decide +kernel
theorem Ow:∀a,a < 128->∀i,i < 9->(J9 a i).length<=35:=by decide +kernel
theorem Wg:∀a,a < 128->J9 a 0=[0]:=by decide +kernel
theorem We:∀a,a < 128->J9 a 8=[]:=by decide +kernel
theorem Zt:∀a,a < 128->∀i,i < 9->J9 a i=[]->Bp a i=Tj a:=by decide +kernel
theorem Aas:∀a,a < 128->(L1 a).length<=7/\(L1 a).all (fun c=>decide (c < 7))=true:=by decide +kernel
theorem Acw (a m:Nat):(J9 a m).Pairwise (·<=·):=by
 have h:∀n,(List.range n).Pairwise (·<=·):=fun n=>List.Pairwise.imp Nat.le_of_lt List.pairwise_lt_range
 exact (h _).filter _
theorem Act {a i:Nat} (ha:a < 128) (hi:i < 8) {ns:List Int} (p:ns.Perm ((Z1 a (J9 a i)).map fun (k:Nat)=>(k:Int))) (s:ns.Pairwise (·<=·)):ns=(J9 a (i + 1)).map fun (k:Nat)=>(k:Int):=by
 have p2:=p.trans ((List.isPerm_iff.mp (Fs a ha i hi)).map fun (k:Nat)=>(k:Int))
 refine List.Perm.eq_of_pairwise (le:=fun (x y:Int)=>x<=y) (fun x y _ _ h1 h2=>Int.le_antisymm h1 h2) s ?_ p2
 rw [List.pairwise_map]
 exact (Acw a (i + 1)).imp fun h=>Int.ofNat_le.mpr h
theorem Bq (a m:Nat):Bp a (m + 1)=Bp a m++J9 a m:=by
 unfold Bp
 rw [List.range_succ,List.flatMap_append]
 simp
theorem Kv (a x:Nat) (ha:a < 128):(Xl a x).length<=7:=by
 unfold Xl
 rw [Θl]
 exact Zo_ (List.length_filter_le _ _) (Aas a ha).1
theorem Fr (a:Nat) (ha:a < 128):∀l:List Nat,(Z1 a l).length<=7 * l.length
 | []=>Zp_ _
 | x :: l=>by
  have h1:=Fr a ha l
  have h2:=Kv a x ha
  show (Xl a x++Z1 a l).length<=_
  rw [Zv_,ZA]
  omega
theorem Lx {a i x:Nat} {l:List Nat} (h:l[i]? = some x):Z1 a (l.take (i + 1))=Z1 a (l.take i)++Xl a x:=by
 unfold Z1
 rw [List.take_succ,h,List.flatMap_append]
 simp
theorem Same.own3 {H H':Hp} {p:Addr} {o:HO} (e:Same H H') (h:H p=Option.none):Same H (upd H' p o):=fun c u z=>by
 rw [C9 (C7 z h)]; exact e _ _ z
noncomputable def Pj:Sp:=fun vs H Q _=>∃(p:Addr) (a i:Nat),vs=[.ref p,vN a]/\a < 128/\i < 8/\H p=some (.lst ((J9 a i).map vN))/\∀(l:Addr) (H':Hp),Same H H'->H l=none->H' l=some (.lst ((J9 a (i + 1)).map vN))->Q (.ref l) H'
end L2
namespace L2
open PySem PySem.Spec PyProof.Rows
section
variable {X:Cx} {K:Θf}
end
section
variable {K:Θf} {H H1 H2:Hp} {st g p:Addr} {ns:List Int} {m k k':Nat} {rs rs':List Rl} {o:HO} {ys:List V}
end
theorem Ni {a b:Nat} (h:∀k,C5 a k↔C5 b k):a=b:=Nat.eq_of_testBit_eq fun k=>by
 rw [Bool.eq_iff_iff]; exact h k
section
variable {X:Cx} {K:Θf}
end
theorem Hu {rs:List RD} {m:Nat}:∀(n:Nat) (s:US),muS s.bs<=n->Good m s.fx s.bs->∃t,Run rs s t
 | 0,s,hn,g=>by
  cases e:M5 rs s.bs rs.length with
  | nil=>exact ⟨s,.done e⟩
  | cons u us=>
   have:=(Ad (m:=m) (rs:=rs) (s:=s) (u:=u) g (by rw [e]; exact Θc ..)).2
   omega
 | n + 1,s,hn,g=>by
  cases e:M5 rs s.bs rs.length with
  | nil=>exact ⟨s,.done e⟩
  | cons u us=>
   obtain ⟨g',mu⟩:=Ad (m:=m) (rs:=rs) (s:=s) (u:=u) g (by rw [e]; exact Θc ..)
   obtain ⟨t,R⟩:=Hu n (U7 rs s u) (by omega) g'
   exact ⟨t,.step e R⟩
theorem Im {a b:Nat} (h:∀k,C5 a k->C5 b k):a&&&b=a:=Ni fun k=>by
 rw [F6]
 exact ⟨fun z=>z.1,fun z=>⟨z,h k z⟩⟩
end L2
namespace L2
open PySem PySem.Spec PyProof.Rows
open Classical in
noncomputable def unfF (m:Nat) (rs:List RD) (x:Nat):US:=if h:∃t,Run rs ⟨x,E6 m x,[]⟩ t then h.choose else ⟨x,[],[]⟩
theorem Run.unfF {m x:Nat} {rs:List RD} {s:US} (R:Run rs ⟨x,E6 m x,[]⟩ s):L2.unfF m rs x=s:=by
 have h:∃t,Run rs ⟨x,E6 m x,[]⟩ t:=⟨s,R⟩
 unfold L2.unfF
 rw [dif_pos h]
 exact h.choose_spec.det R
noncomputable def K2 (p:Nat) (bs:List Nat):List Nat:=(bs.filter fun b=>!decide (b&&&p=0)).map fun b=>b&&&p
noncomputable def Bc (m:Nat) (rs:List RD) (p x:Nat):Nat:=(p&&&(unfF m rs x).fx) - ((p&&&(unfF m rs x).fx)&&&x)
noncomputable def U2 (m:Nat) (rs:List RD) (p x:Nat):Option Nat:=
 if p&&&(unfF m rs x).fx=p then none else if Bc m rs p x≠0 then some (Bc m rs p x) else
  if 1 < (K2 p (unfF m rs x).bs).length then (K2 p (unfF m rs x).bs).head? else none
noncomputable def Y7 (m:Nat) (rs:List RD) (p x:Nat):Option (Nat × Nat):=(U2 m rs p x).map fun g=>(x,g)
noncomputable def twF (m:Nat) (rs:List RD) (p:Nat):Option (Nat × Nat):=(Tj p).findSome? (Y7 m rs p)
theorem Pu {p:Nat} {bs:List Nat} (h:bs.Pairwise fun a b=>a&&&b=0):(K2 p bs).Pairwise fun a b=>a&&&b=0:=by
 unfold K2
 rw [List.pairwise_map]
 refine (h.filter _).imp fun {a b} e=>?_
 refine dis_iff.mpr fun k hk=>?_
 rw [Nat.testBit_and,Bool.and_eq_true] at hk
 rw [Nat.testBit_and,dis_iff.mp e k hk.1]; rfl
theorem Dm {p c:Nat} {bs:List Nat} (h:c∈K2 p bs):c≠0/\∃b∈bs,c=b&&&p:=by
 unfold K2 at h
 obtain ⟨b,hb,rfl⟩:=Θn h
 obtain ⟨h1,h2⟩:=List.mem_filter.mp hb
 refine ⟨fun e=>?_,b,h1,rfl⟩
 rw [Zr_ e] at h2
 cases h2
theorem Sz {m x p g:Nat} {rs:List RD} (hx:x < 2 ^ m) (h:U2 m rs p x=some g):g≠0/\(∀k,C5 g k->C5 p k)/\x|||g≠p:=by
 obtain ⟨s,R⟩:=Hu (rs:=rs) _ ⟨x,E6 m x,[]⟩ (Zd_ _) (Good.begin hx)
 have G:=(R.good (Good.begin hx)).1
 have e:=R.unfF
 have xf:∀k,C5 x k->C5 s.fx k:=fun k hk=>G.col.mpr ⟨Nx hx hk,fun b hb=>dis_iff.mp (R.apart0 hx hb) k hk⟩
 unfold U2 Bc at h
 rw [e] at h
 split at h
 ·cases h
 ·rename_i n1
  split at h
  ·rename_i n2
   injection h with h
   rw [h] at n2
   have gb:∀k,C5 g k↔(C5 p k/\C5 s.fx k)/\¬C5 x k:=fun k=>by rw [<-h,Bf,F6]
   refine ⟨n2,fun k hk=>((gb k).mp hk).1.1,fun z=>n1 (Im fun k hk=>?_)⟩
   rw [<-z,M0] at hk
   rcases hk with hk | hk
   ·exact xf k hk
   ·exact ((gb k).mp hk).1.2
  ·split at h
   ·rename_i n3
    have pw:=Pu (p:=p) G.pw
    have mem:=fun c=>Dm (c:=c) (p:=p) (bs:=s.bs)
    revert n3 h pw mem
    match K2 p s.bs with
    | []=>intro n3; cases n3
    | [_]=>intro n3; exact absurd n3 (Nat.lt_irrefl 1)
    | y :: c :: l=>
     intro n3 h pw mem
     injection h with h
     subst h
     obtain ⟨y0,b,hb,rfl⟩:=mem y (Θc ..)
     obtain ⟨c0,b',hb',ec⟩:=mem c (Θd _ (Θc ..))
     refine ⟨y0,fun k hk=>((F6 _ _ _).mp hk).2,fun z=>?_⟩
     obtain ⟨k,hk⟩:=Fl c0
     have h1:=(List.pairwise_cons.mp pw).1 c (Θc ..)
     have h2:C5 b' k/\C5 p k:=(F6 _ _ _).mp (ec ▸ hk)
     have h3:=h2.2
     rw [<-z,M0] at h3
     rcases h3 with h3 | h3
     ·have:=dis_iff.mp (R.apart0 hx hb') k h3
      rw [show b'.testBit k=true from h2.1] at this
      cases this
     ·have:=dis_iff.mp h1 k h3
      rw [show c.testBit k=true from hk] at this
      cases this
   ·cases h
theorem Nr {p x:Nat} (h:x∈Tj p):x&&&p=x:=by
 unfold Tj Bp J9 at h
 obtain ⟨i,_,h⟩:=List.mem_flatMap.mp h
 have:=(List.mem_filter.mp h).2
 rw [Bool.and_eq_true] at this
 exact Zj_ this.1
structure TwP (p:Nat) (u:Nat × Nat):Prop where
 one:u.1|||u.2 < p
 oth:p - (p&&&u.2) < p
 all:∀k,C5 p k↔C5 (u.1|||u.2) k\/C5 (p - (p&&&u.2)) k
theorem Ew {m p:Nat} {rs:List RD} {u:Nat × Nat} (hp:p < 2 ^ m) (h:twF m rs p=some u):TwP p u:=by
 unfold twF at h
 obtain ⟨x,hx,e⟩:=List.exists_of_findSome?_eq_some h
 unfold Y7 at e
 obtain ⟨g,hg,rfl⟩:=Option.map_eq_some_iff.mp e
 have sx:=Nr hx
 have xp:∀k,C5 x k->C5 p k:=fun k hk=>((F6 _ _ _).mp (sx.symm ▸ hk)).2
 have lx:x < 2 ^ m:=by
  have:x&&&p<=p:=Nat.and_le_right
  rw [sx] at this
  omega
 obtain ⟨g0,gp,ne⟩:=Sz lx hg
 have e1:p&&&g=g:=by rw [Nat.and_comm]; exact Im gp
 have l1:g<=p:=by have:p&&&g<=p:=Nat.and_le_left; rw [e1] at this; exact this
 have e2:(x|||g)&&&p=x|||g:=Im fun k hk=>by
  rcases (M0 _ _ _).mp hk with z | z
  ·exact xp k z
  ·exact gp k z
 have l2:x|||g<=p:=by have:(x|||g)&&&p<=p:=Nat.and_le_right; rw [e2] at this; exact this
 refine ⟨Nat.lt_of_le_of_ne l2 ne,by show p - (p&&&g) < p; rw [e1]; omega,fun k=>?_⟩
 show _↔C5 (x|||g) k\/C5 (p - (p&&&g)) k
 rw [Bf,M0]
 constructor
 ·intro hk
  by_cases z:C5 g k
  ·exact Or.inl (Or.inr z)
  ·exact Or.inr ⟨hk,z⟩
 ·rintro ((z | z) | z)
  ·exact xp k z
  ·exact gp k z
  ·exact z.1
theorem Adh {m p i j x:Nat} {rs:List RD} {u:Nat × Nat} (h0:(Bp p i).findSome? (Y7 m rs p)=none) (h1:((J9 p i).take j).findSome? (Y7 m rs p)=none) (hi:i < 8) (e:(J9 p i)[j]? = some x) (h:Y7 m rs p x=some u):twF m rs p=some u:=by
 unfold twF Tj
 have e1:∀d,∃z,Bp p (i + 1 + d)=Bp p (i + 1)++z:=fun d=>by
  induction d with
  | zero=>exact ⟨[],by rw [List.append_nil,Nat.add_zero]⟩
  | succ d ih=>obtain ⟨z,ez⟩:=ih; exact ⟨z++J9 p (i + 1 + d),by rw [<-Nat.add_assoc,Bq,ez,Zy_]⟩
 obtain ⟨z,ez⟩:=e1 (7 - i)
 rw [show 8=i + 1 + (7 - i) by omega,ez,Bq,List.findSome?_append,List.findSome?_append,h0]
 have hj:j < (J9 p i).length:=(Ze_.mp e).1
 have e2:J9 p i=(J9 p i).take j++x :: (J9 p i).drop (j + 1):=by
  have ex:(J9 p i)[j]=x:=(Ze_.mp e).2
  rw [<-ex,<-List.drop_eq_getElem_cons hj,List.take_append_drop]
 rw [e2,List.findSome?_append,h1,List.findSome?_cons,h]
 rfl
theorem Aah {m p i j x:Nat} {rs:List RD} (h1:((J9 p i).take j).findSome? (Y7 m rs p)=none) (e:(J9 p i)[j]? = some x) (h:Y7 m rs p x=none):((J9 p i).take (j + 1)).findSome? (Y7 m rs p)=none:=by
 rw [List.take_succ,e,List.findSome?_append,h1]
 simp [h]
theorem Xh {m p i j:Nat} {rs:List RD} (h0:(Bp p i).findSome? (Y7 m rs p)=none) (h1:((J9 p i).take j).findSome? (Y7 m rs p)=none) (hj:(J9 p i).length<=j):(Bp p (i + 1)).findSome? (Y7 m rs p)=none:=by
 rw [List.take_of_length_le hj] at h1
 rw [Bq,List.findSome?_append,h0,h1]
 rfl
theorem Aai {m p i:Nat} {rs:List RD} (hp:p < 128) (hi:i < 9) (h0:(Bp p i).findSome? (Y7 m rs p)=none) (e:J9 p i=[]):twF m rs p=none:=by
 unfold twF
 rw [<-Zt p hp i hi e]
 exact h0
inductive Tr where
 | whole (p:Nat)
 | cut (p s g:Nat) (l r:Tr)
noncomputable def trF (m:Nat) (rs:List RD):Nat->Nat->Tr
 | 0,p=>.whole p
 | n + 1,p=>match twF m rs p with
  | none=>.whole p
  | some u=>.cut p u.1 u.2 (trF m rs n (u.1|||u.2)) (trF m rs n (p - (p&&&u.2)))
noncomputable def trP (m:Nat) (rs:List RD) (p:Nat):Tr:=trF m rs (p + 1) p
theorem Io {m:Nat} {rs:List RD}:∀(n n' p:Nat),p < 2 ^ m->p < n->p < n'->trF m rs n p=trF m rs n' p
 | 0,_,_,_,h,_=>absurd h (Nat.not_lt_zero _)
 | _,0,_,_,_,h=>absurd h (Nat.not_lt_zero _)
 | n + 1,n' + 1,p,hp,h,h'=>by
  unfold trF
  cases e:twF m rs p with
  | none=>rfl
  | some u=>
   have z:=Ew hp e
   have z1:=z.one
   have z2:=z.oth
   show Tr.cut _ _ _ _ _=Tr.cut _ _ _ _ _
   rw [Io n n' _ (by omega) (by omega) (by omega),Io n n' (p - (p&&&u.2)) (by omega) (by omega) (by omega)]
theorem V8 {m p:Nat} {rs:List RD} (h:twF m rs p=none):trP m rs p = .whole p:=by
 unfold trP trF
 rw [h]
theorem V9 {m p:Nat} {rs:List RD} {u:Nat × Nat} (hp:p < 2 ^ m) (h:twF m rs p=some u):trP m rs p = .cut p u.1 u.2 (trP m rs (u.1|||u.2)) (trP m rs (p - (p&&&u.2))):=by
 have z:=Ew hp h
 have z1:=z.one
 have z2:=z.oth
 unfold trP
 conv=>lhs; unfold trF
 rw [h]
 show Tr.cut _ _ _ _ _=Tr.cut _ _ _ _ _
 rw [Io p _ (u.1|||u.2) (by omega) (by omega) (Nat.lt_succ_self _),Io p _ (p - (p&&&u.2)) (by omega) (by omega) (Nat.lt_succ_self _)]
noncomputable def Tr.cnt:Tr->Nat
 | .whole _=>1
 | .cut _ _ _ l r=>1 + l.cnt + r.cnt
noncomputable def Tr.dep:Tr->Nat
 | .whole _=>0
 | .cut _ _ _ l r=>max l.dep r.dep + 1
theorem Tr.cnt_pos:∀t:Tr,1<=t.cnt
 | .whole _=>Zd_ _
 | .cut _ _ _ l r=>by unfold Tr.cnt; omega
theorem Ip {m:Nat} {rs:List RD}:∀(n p:Nat),p<=n->p < 2 ^ m->(trP m rs p).dep<=p
 | n,p,hn,hp=>by
  cases e:twF m rs p with
  | none=>rw [V8 e]; exact Zp_ _
  | some u=>
   have z:=Ew hp e
   have z1:=z.one
   have z2:=z.oth
   rw [V9 hp e]
   match n,hn with
   | 0,hn=>omega
   | n + 1,hn=>
    have h1:=Ip (m:=m) (rs:=rs) n _ (by omega:u.1|||u.2<=n) (by omega)
    have h2:=Ip (m:=m) (rs:=rs) n _ (by omega:p - (p&&&u.2)<=n) (by omega)
    show max _ _ + 1<=p
    omega
noncomputable def W4 (ts:List Tr):Nat:=(ts.map Tr.cnt).sum
theorem Je (a b:List Tr):W4 (a++b)=W4 a + W4 b:=by
 unfold W4
 rw [Zw_,List.sum_append]
theorem Ce {p k b:Nat} {bs:List Nat} (h:bs[k]? = some b):K2 p (bs.take (k + 1))=K2 p (bs.take k)++(if b&&&p=0 then [] else [b&&&p]):=by
 unfold K2
 rw [List.take_succ,h,List.filter_append,Zw_]
 split
 ·rename_i z
  simp [z]
 ·rename_i z
  simp [z]
theorem Lh (p:Nat) (bs:List Nat) (k:Nat):(K2 p (bs.take k)).length<=k:=by
 unfold K2
 rw [Θl]
 exact Zo_ (List.length_filter_le _ _) (List.length_take_le _ _)
theorem Zv {p i x:Nat} (h:x∈J9 p i):x&&&p=x:=by
 unfold J9 at h
 have:=(List.mem_filter.mp h).2
 rw [Bool.and_eq_true] at this
 exact Zj_ this.1
end L2
namespace L2
open PySem PySem.Spec PyProof.Rows
theorem Tx {P:Program} {w:World} {H:Hp} {h:Heap} {a:Addr} {o:HO} (x:ObjOk P w H h a o):∃ob,h.get? a=some ob:=by
 cases o with
 | lst xs=>obtain ⟨_,_,_,_,e⟩:=x; exact ⟨_,e⟩
 | tup xs=>obtain ⟨_,_,_,ob,e,_⟩:=x; exact ⟨_,e⟩
 | dK kvs=>obtain ⟨_,_,_,_,o,_,_,e,_⟩:=x; exact ⟨_,e⟩
 | dT kvs=>obtain ⟨_,_,_,_,o,_,_,e,_⟩:=x; exact ⟨_,e⟩
 | set S n=>obtain ⟨o,_,_,_,e,_⟩:=x; exact ⟨_,e⟩
 | ins C dx fs=>obtain ⟨_,_,_,e,_⟩:=x; exact ⟨_,e⟩
 | own y=>exact x
 | xd fs=>obtain ⟨_,⟨_,_,_,e,_⟩,_⟩:=x; exact ⟨_,e⟩
 | rng lo hi=>obtain ⟨_,_,_,e⟩:=x; exact ⟨_,e⟩
 | frz ob u=>exact ⟨_,x.1⟩
 | tbl ps=>exact ⟨_,x⟩
 | met f y=>exact ⟨_,x⟩
 | ext φ=>exact x.2.1
structure Fly (P:Program) (w:World) (outer:List Env) (H H':Hp) (s s':Shared) (ea C:Addr) (B:Heap):Prop where
 os:s'.os=s.os
 bare:AllBare s'.gens
 un:Un (frs outer) [] H H' s.heap s'.heap
 hok:HOk P w H' B
 inB:∀b o,s.heap.get? b=some o->H b=none->b∉frs outer->B.get? b=some o
 ex:∀b o,s.heap.get? b=some o->b∉frs outer->∃o',B.get? b=some o'
 fly:∃a0,Heap.FlyingW B outer ea (.ref C) a0 s'.heap
theorem Fly.fresh {P:Program} {w:World} {outer:List Env} {H H':Hp} {s s':Shared} {ea C:Addr} {B:Heap} (F:Fly P w outer H H' s s' ea C B):H' ea=none:=by
 obtain ⟨a0,f⟩:=F.fly
 cases q:H' ea with
 | none=>rfl
 | some o=>
  obtain ⟨ob,e⟩:=Tx (F.hok ea o q)
  rw [f.2.1] at e
  cases e
noncomputable def CX1 (P:Program) (w:World):CXT:=fun outer H s E e s'=>∃ea C B H',e = .ref ea/\Fly P w outer H H' s s' ea C B/\E (.ref C) none H'
section
variable {P:Program} {w:World} {K:Θf} {mg:Str->Option Value} {base:Heap} {N:List Str} {qual:Str} {scope:Scope} {f:Addr} {cd:Value} {A:Around} {outer:List Env} {s₀:Shared} {H₀:Hp} {E E':XK}
theorem Tm {env:Env} {L:Addr} {l:List Env} (h:env.frame=some L):frs (env :: l)=L :: frs l:=by
 unfold frs
 rw [List.filterMap_cons,h]
theorem Rv {pins:List (Addr × Obj)} {σ:St} {H:Hp} {s:Shared} {h':Heap} {e C:Addr} {vs:List Value} (I:Inv (Gq (CX1 P w) P w K mg base N qual scope f cd A outer s₀ H₀ E) pins σ H s)
  (hx:Heap.MadeExcOf s.heap h' e (.ref C) vs) (hE:E (.ref C) none H):(Gq (CX1 P w) P w K mg base N qual scope f cd A outer s₀ H₀ E).xe (.ref e) { s with heap:=h' }:=by
 have hf:(envOfC qual scope s₀.heap.objs.size f cd).frame=some s₀.heap.objs.size:=rfl
 have hfr:(A.deeper (envOfC qual scope s₀.heap.objs.size f cd)).frames=some (envOfC qual scope s₀.heap.objs.size f cd :: outer):=I.ok.frames
 have hst:s.heap.FunFrames base (envOfC qual scope s₀.heap.objs.size f cd :: outer):=I.stack
 have hl:=PySem.W.funFrames_hide (as:=frs (envOfC qual scope s₀.heap.objs.size f cd :: outer)) hst fun env he b hb=>List.mem_filterMap.mpr ⟨env,he,hb⟩
 have nin:∀b o,s₀.heap.get? b=some o->b∉frs outer->b∉frs (envOfC qual scope s₀.heap.objs.size f cd :: outer):=fun b o q hb hm=>by
  rw [Tm hf] at hm
  rcases Zg_.mp hm with z | z
  ·exact absurd (Zn_ q) (by rw [z]; exact Nat.lt_irrefl _)
  ·exact hb z
 refine wpAny_leaves_madeW (s:={ s with heap:=h' }) hfr hf (fun b o q=>PySem.W.of_hideAll _ q) hl hx fun h2 t x1 x2 x3 x4=>?_
 have base0:Un (frs outer) [] H₀ H s₀.heap s.heap:=I.base
 have slot:∀b o,s₀.heap.get? b=some o->H₀ b=none->b∈frs outer->∃sl,h2.get? b=some { o with slots:=sl }:=fun b o q n hb=>by
  obtain ⟨sl,e1⟩:=base0.slot b o q n hb (by simp)
  obtain ⟨_,o',e2,hd⟩:=I.ok.funs.mem hb
  have q':s₀.heap.get? b=some o':=e2
  rw [q] at q'
  cases q'
  obtain ⟨sl',e3⟩:=x4 b _ (hx.keeps _ _ e1) hd
  exact ⟨sl',e3⟩
 refine ⟨e,C,_,H,rfl,⟨I.os,I.bare,⟨fun b o q n hb hx'=>?_,fun b o q n hb _=>slot b o q n hb,base0.free,fun b o q hx'=>?_,base0.tups,base0.frzs,base0.tbls⟩,fun a o q=>?_,fun b o q n hb=>?_,fun b o q hb=>?_,⟨_,x1⟩⟩,hE⟩
 ·exact x1.1 b o (PySem.W.hideAll_get _ (base0.keep b o q n hb hx') (nin b o q hb))
 ·by_cases hb:b∈frs outer
  ·obtain ⟨sl,e1⟩:=slot b o q (I.ok.frf b hb) hb
   exact ⟨_,e1⟩
  ·obtain ⟨o',e1⟩:=base0.there b o q hx'
   exact ⟨o',x1.1 _ _ (PySem.W.hideAll_get _ e1 (nin b o q hb))⟩
 ·have nfr:∀b u,H b=some u->b∉frs (envOfC qual scope s₀.heap.objs.size f cd :: outer):=fun b u z hm=>by
   have:=I.stkFree b hm
   rw [z] at this
   cases this
  refine (I.hok a o q).stay (fun b u hb z=>PySem.W.hideAll_get _ z ?_) (fun _ z=>z) fun _ _ z=>z
  rcases hb with rfl | hb
  ·exact nfr _ _ q
  ·exact nfr _ _ hb
 ·exact PySem.W.hideAll_get _ (base0.keep b o q n hb (by simp)) (nin b o q hb)
 ·obtain ⟨o',e1⟩:=base0.there b o q (by simp)
  exact ⟨o',PySem.W.hideAll_get _ e1 (nin b o q hb)⟩
theorem Fly.over {X:Cx} {pins:List (Addr × Obj)} {σ:St} {H H':Hp} {s s':Shared} {ea C:Addr} {B h2:Heap} (I:Inv X pins σ H s) (F:Fly X.prog X.w X.stack H H' s s' ea C B) (k1:∀b o,B.get? b=some o->h2.get? b=some o) (k2:s'.heap.UpToSlots h2) :
  Un (frs X.stack) [] H H' s.heap h2:=by
 have slot:∀b o,s.heap.get? b=some o->H b=none->b∈frs X.stack->∃sl,h2.get? b=some { o with slots:=sl }:=fun b o q n hb=>by
  obtain ⟨sl,e1⟩:=F.un.slot b o q n hb (by simp)
  obtain ⟨_,o',e2,hd⟩:=I.stack.mem hb
  rw [q] at e2
  cases e2
  obtain ⟨sl',e3⟩:=k2 b _ e1 hd
  exact ⟨sl',e3⟩
 refine ⟨fun b o q n hb _=>k1 _ _ (F.inB b o q n hb),fun b o q n hb _=>slot b o q n hb,F.un.free,fun b o q _=>?_,F.un.tups,F.un.frzs,F.un.tbls⟩
 by_cases hb:b∈frs X.stack
 ·obtain ⟨sl,e1⟩:=slot b o q (I.stkFree b hb) hb
  exact ⟨_,e1⟩
 ·obtain ⟨o',e1⟩:=F.ex b o q hb
  exact ⟨o',k1 _ _ e1⟩
end
theorem Aag {K:Θf} {mg:Str->Option Value} {base:Heap} (M:Mod K mg base) (p:Program):∃loose mb,PySem.W.TopRead p loose mg mb base:=by
 obtain ⟨mb,hb,hbb⟩:=M.blt
 obtain ⟨o,es,ep,ho,hd,hk,hf⟩:=id M.glob
 refine ⟨es.toList.filterMap fun e=>match e.key with | .str x _=>some x | _=>none,mb,⟨M.glob,hb,M.nolimit,hbb,fun x _ hx _ _ _=>?_⟩⟩
 rw [<-hf x]
 cases q:nsFind es x with
 | none=>rfl
 | some v=>
  exfalso
  unfold nsFind findBy at q
  obtain ⟨e,he,_⟩:=Option.map_eq_some_iff.mp q
  have h1:=Array.mem_of_find?_eq_some he
  have h2:=Array.find?_some he
  obtain ⟨n,t,ek⟩:=hk e h1
  rw [ek] at h2
  have h3:x=n:=by
   simp only [Value.isStr] at h2
   exact (beq_iff_eq.mp h2).symm
  refine hx (List.mem_filterMap.mpr ⟨e,Array.mem_toList_iff.mpr h1,?_⟩)
  rw [ek,h3]
structure Exc (K:Θf) (x:Str) (C:Addr):Prop where
 ns:PySem.W.nsIn K mainGlobals x=some (some (.ref C))
 ex:PySem.W.excIn K C [.type "ValueError",.type "Exception",.type "BaseException",.type "object"] "ValueError.__new__" = true
section
variable {X:Cx} {x:Str} {C:Addr} {np cpos pos:Pos} {e:Expr} {es:List Expr} {t:TA} {EX:XK}
noncomputable def Adc (EX:XK) (C:Addr) (t:TA):TS:=fun _ σ H=>t σ H fun vs H1=>vs.length<=sizeLine/\EX (.ref C) none H1
theorem Vo (O:Exc X.K x C) (hg:Gl X x) (hc:X.calm=true) (ha:PA X (e :: es) t)
  (hout:∀(pins:List (Addr × Obj)) (σ:St) (H:Hp) (s:Shared) (h':Heap) (ea:Addr) (vs:List Value),Inv X pins σ H s->Heap.MadeExcOf s.heap h' ea (.ref C) vs->EX (.ref C) none H->X.xe (.ref ea) { s with heap:=h' })
  (hdb:(x == ("__debug__":Str))=false:=by decide) (he:starEach (e :: es) X.env=(false,eval e X.env) :: starEach es X.env:=by rfl) (hpl:(backTo cpos (starEach es X.env)).any (·.1)=false:=by rfl) :
  PS X (.Raise (some (.Call (.Name x np) (e :: es) [] cpos)) none pos) (Adc EX C t):=by
 intro pins s σ H D I h
 obtain ⟨loose,mb,T⟩:=Aag I.ok.mod X.prog
 have W:=PySem.W.own_of_in I.ok.mod.kin T O.ns O.ex
 obtain ⟨tl,N,nm,q,bs,hdct,sn,sub,ab,col,dd,k0,k1,k2,k3,k5,mN,hC,hN,hni,TL⟩:=W.obj
 refine wpAny_Raise_call_subT (nm:=nm) (q:=q) (N:=N) (bs:=bs) (hdct:=hdct) (sn:=sn) (sub:=sub) (ab:=ab) (col:=col) (dd:=dd) (k0:=k0) (k1:=k1) (k2:=k2) (k3:=k3) (k5:=k5) PySem.F.excBase_ValueError (mN:=mN) (TL.hasType PySem.F.excBase_ValueError.hasBase) (I.ok.hd hc) (by rw [he]; show (false || (backTo cpos (starEach es X.env)).any (·.1))=false; rw [hpl]; rfl) hni (Cq I hg W.bound ⟨rfl,?_⟩ hdb)
 have h1:=ha cpos pins s σ H _ I h
 rw [he] at h1 ⊢
 refine Calls.evalArgs_plain (thn h1 fun us s1 ⟨vs,H1,I1,r,hz,q⟩=>⟨rfl,by rw [<-r.length]; exact hz,I1.bk _ _ hC,hN.keeps I1.bk,TL.keeps I1.bk,fun h' ea hm=>hout pins σ H1 s1 h' ea us I1 hm q⟩)
end
section
variable {X:Cx} {a b:Str} {e:Expr} {te:TE} {j1 j2:Nat} {p1 p2 p3 pos:Pos}
noncomputable def tFs (te:TE):TE:=fun σ H Q=>te σ H fun v H1=>∃i:Int,v = .int i/\i.natAbs.log2 < 1920/\∀x,Q (.str x) H1
theorem Abn {out:Str} {i:Int} (h1:out.length<=1000) (h2:i.natAbs.log2 < 1920):(out++Str.ofString (toString i)).length<=3000:=by
 rw [strLen_append,PySem.ofString_length]
 have:=int_text_length_le (k:=1920) (by decide) h2
 omega
theorem X5 {n:Nat} (h:n<=5000):n<=sizeLine:=Zo_ h (by decide)
theorem Pz (a:Str) (h:a.length<=1000):(Str.empty++a).length<=1000:=by
 rw [strLen_append]
 show 0 + a.length<=1000
 omega
theorem Acl (he:PE X e te) (h1:a.length<=1000:=by decide) (h2:b.length<=1000:=by decide):PE X (.JoinedStr [.Constant (.str a) j1 p1,.FormattedValue e (-1) none p2,.Constant (.str b) j2 p3] pos) (tFs te):=by
 intro pins s σ H Q I h
 have hz:=Pz a h1
 refine JoinedStr_many (joinParts_cons (Calls.Constant_str ⟨X5 (by omega),?_⟩))
 refine joinParts_cons (FormattedValue_plain (thn (he pins _ σ H _ (I.tok _) h) fun u s1 ⟨v,H1,I1,r,i,ev,hd,q⟩=>?_))
 subst ev
 obtain ⟨tk,rfl⟩:=r
 have hz2:=Abn hz hd
 refine formatField_int_small hd ⟨X5 (by omega),?_⟩
 have hz3:(Str.empty++a++Str.ofString (toString i)++b).length<=4000:=by
  rw [strLen_append]
  omega
 exact joinParts_cons (Calls.Constant_str ⟨X5 (by omega),joinParts_nil ⟨.str _,H1,I1.tok _,⟨_,rfl⟩,q _⟩ (X5 (by omega))⟩)
end
theorem Fun.ok1 {P:Program} {w:World} {K:Θf} {mg:Str->Option Value} {base:Heap} {x qual:Str} {st:Stmt} {f:Addr} {fd:FuncData} {N ps:List Str} {k:Nat} {sp:Sp} (F:Fun K x qual st f fd) (S:FnScope N ps (C3 st)) (len:∀vs H Q E,sp vs H Q E->vs.length=ps.length)
  (hbody:∀(cdv:Value) (A:Around) (outer:List Env) (s:Shared) (H:Hp) (vs:List V) (Q:VK) (E:XK),Room k (A.deeper (envOfC qual (C3 st) s.heap.objs.size f cdv))->sp vs H Q E->
   ∃t,PSs (Gq (CX1 P w) P w K mg base N qual (C3 st) f cdv A outer s H E) (T6 st) t/\t { nx:=fun _ H'=>Q .non H',rt:=Q } (start N vs) H):FnOk P w K mg base (CX1 P w) (k + 1) f fd ps sp:=by
 obtain ⟨oc,od,kV,doc,pm,an,cdv,ct,osl,rfl,lk,hcd⟩:=F.ex
 exact Aaw lk hcd S len fun A outer s H vs Q E hr hsp=>hbody cdv A outer s H vs Q E hr hsp
noncomputable def Adr (ea C:Addr):HO:=.ext fun h=>∃o vs,h.get? ea=some o/\o.cls = .ref C/\o.data = .fields vs
noncomputable abbrev Cx.within (X:Cx) (ea:Addr):Cx:={ X with A:=X.A.mark (some (.ref ea)),calm:=false,xe:=fun _ _=>False }
section
variable {X:Cx} {pins:List (Addr × Obj)} {σ:St} {H:Hp} {s:Shared} {ea:Addr}
theorem Inv.inS (I:Inv X pins σ H s) (ea:Addr):Inv (X.within ea) pins σ H s:=
 ⟨⟨I.ok.mod,I.ok.kind,I.ok.glob,I.ok.blt,I.ok.above,I.ok.inj,I.ok.has,I.ok.cab,(fun z=>by cases z),I.ok.frames,I.ok.stk,I.ok.exf,I.ok.bs,I.ok.bsz,I.ok.noex,I.ok.exfs,I.ok.funs,I.ok.frf⟩,I.os,I.bare,I.base,I.loc,I.cell,I.free,I.freeC,I.pin,I.hok,I.len⟩
theorem Inv.outS (hd:X.calm=true->X.A.handled=none) (I:Inv (X.within ea) pins σ H s):Inv X pins σ H s:=
 ⟨⟨I.ok.mod,I.ok.kind,I.ok.glob,I.ok.blt,I.ok.above,I.ok.inj,I.ok.has,I.ok.cab,hd,I.ok.frames,I.ok.stk,I.ok.exf,I.ok.bs,I.ok.bsz,I.ok.noex,I.ok.exfs,I.ok.funs,I.ok.frf⟩,I.os,I.bare,I.base,I.loc,I.cell,I.free,I.freeC,I.pin,I.hok,I.len⟩
theorem Fly.landed {H':Hp} {s':Shared} {C:Addr} {B h2:Heap} (I:Inv X pins σ H s) (F:Fly X.prog X.w X.stack H H' s s' ea C B) {a0:Value} (f:Heap.FlyingW B X.stack ea (.ref C) a0 h2) (k2:s'.heap.UpToSlots h2) :
  Inv X pins σ (upd H' ea (Adr ea C)) { s' with heap:=h2 }:=by
 have u:=F.over I f.1 k2
 have hn:=F.fresh
 obtain ⟨oe,vs,hoe,hoc,hod,_⟩:=f.first
 have nfr:ea∉frs X.stack:=fun hm=>by
  obtain ⟨_,o,ho,hd⟩:=f.2.2.1.mem hm
  rw [hoe] at ho
  cases ho
  exact hd vs hod
 have nes:∀b o,s.heap.get? b=some o->H b=none->b≠ea:=fun b o e n z=>by
  subst z
  have:=F.inB b o e n nfr
  rw [f.2.1] at this
  cases this
 refine I.call' (ch:=[]) (s':={ s' with heap:=h2 }) F.os ⟨u.keep,u.slot,fun b o e n hx=>?_,u.there,fun b xs e=>?_,fun b o xs e=>?_,fun b ps e=>?_⟩ (fun b ob e=>?_) F.bare fun b hb=>absurd hb (by simp)
 ·rw [C9 (nes b o e n)]
  exact u.free b o e n hx
 ·have:=u.tups b xs e
  rw [C9 (C7 this hn)]
  exact this
 ·have:=u.frzs b o xs e
  rw [C9 (C7 this hn)]
  exact this
 ·obtain ⟨more,h3⟩:=u.tbls b ps e
  exact ⟨more,by rw [C9 (C7 h3 hn)]; exact h3⟩
 ·by_cases z:b=ea
  ·subst z
   rw [A8] at e
   cases e
   exact ⟨⟨oe,vs,hoe,hoc,hod⟩,⟨oe,hoe⟩,fun h1 h2' ⟨o,vs',h3,h4,h5⟩ k=>⟨o,vs',k o h3,h4,h5⟩⟩
  ·rw [C9 z] at e
   exact ((F.hok.kept f.1) b ob e).stay (fun _ _ _ q=>q) (fun c q=>by rw [C9 (C7 q hn)]; exact q) fun c xs q=>by rw [C9 (C7 q hn)]; exact q
end
noncomputable def Adl (X:Cx) (st:List Stmt) (t:(St->Hp->Prop)->(St->XK)->St->Hp->Prop):Prop:=
 ∀(pins:List (Addr × Obj)) (s:Shared) (σ:St) (H:Hp) (N:St->Hp->Prop) (E:St->XK),Inv X pins σ H s->t N E σ H->
  wpAny (model X.prog X.w) X.A (execs st X.env) (fun f s1=>f = .next/\∃σ' H',Inv X pins σ' H' s1/\N σ' H') (fun e s'=>∃σ' H1 s1,Inv X pins σ' H1 s1/\CX1 X.prog X.w X.stack H1 s1 (E σ') e s') s
section
variable {X:Cx} {k:Nat} {f:Addr} {fd:FuncData} {ps:List Str} {sp:Sp} {x y:Str} {p yp ap pos:Pos} {e:Expr} {es:List Expr} {t:TA} {i:Nat}
theorem Xg (F:FnOk X.prog X.w X.K X.mg X.base (CX1 X.prog X.w) k f fd ps sp) (hr:Room k X.A) (hg:Gl X x) (hm:X.mg x=some (.ref f)) (hk:PySem.W.keepIn X.K (.ref f)=true) (hb:Binds X.K fd ps [])
  (ha:∀E',PA (X.wish E') (e :: es) t) (hdb:(x == ("__debug__":Str))=false) (he:starEach (e :: es) X.env=(false,eval e X.env) :: starEach es X.env) (hpl:(backTo pos (starEach es X.env)).any (·.1)=false)
  {pins:List (Addr × Obj)} {s:Shared} {σ:St} {H:Hp} {Q:VK} {E:XK} (I:Inv X pins σ H s) (h:t σ H fun vs H1=>sp vs H1 Q E) :
  wpAny (model X.prog X.w) X.A (eval (.Call (.Name x p) (e :: es) [] pos) X.env) (EP X pins σ Q) (fun e s'=>∃σ' H1 s1,σ' = σ/\Inv X pins σ' H1 s1/\CX1 X.prog X.w X.stack H1 s1 E e s') s:=by
 refine wpAny_Call_Name_kw (Cq I hg hm ?_ hdb)
 refine PySem.W.callWith_K (h₀:=X.base) I.ok.mod.kin hk (thn (ha (fun e s'=>∃σ' H1 s1,σ' = σ/\Inv X pins σ' H1 s1/\CX1 X.prog X.w X.stack H1 s1 E e s') pos pins s σ H _ (I.wish _) h) fun us s1 ⟨vs,H1,I1,r,q⟩=>⟨I1.unwish.kIn,?_⟩) he hpl
 have I1:=I1.unwish
 have hl:(us++[]).length=ps.length:=by rw [List.append_nil,<-r.length]; exact F.len _ _ _ _ q
 have hb2:=hb s1 us I1.kIn hl
 rw [List.append_nil] at hb2
 refine wpAny_call (codeAny_mono (F.run X.A X.stack s1 H1 ⟨us,[]⟩ us vs Q E hr I1.env0 hb2 r q) fun r s' hq=>?_)
 cases r with
 | error e=>exact ⟨σ,H1,s1,rfl,I1,hq⟩
 | ok fl=>
  cases fl with
  | ret u=>exact I1.after hq
  | next=>exact False.elim hq
  | brk=>exact False.elim hq
  | cont=>exact False.elim hq
theorem Acp (F:FnOk X.prog X.w X.K X.mg X.base (CX1 X.prog X.w) k f fd ps sp) (hr:Room k X.A) (hg:Gl X x) (hm:X.mg x=some (.ref f)) (hk:PySem.W.keepIn X.K (.ref f)=true) (hb:Binds X.K fd ps [])
  (ha:∀E',PA (X.wish E') (e :: es) t) (hN:X.N.Nodup) (hi:X.N[i]? = some y) (hx:Loc X.env.scope y) (hdb:(x == ("__debug__":Str))=false:=by decide) (he:starEach (e :: es) X.env=(false,eval e X.env) :: starEach es X.env:=by rfl) (hpl:(backTo pos (starEach es X.env)).any (·.1)=false:=by rfl)
  (hs:swapsWith (.Call (.Name x p) (e :: es) [] pos) (some (.Name y yp)) ap.line X.env=pure false:=by rfl) (hf:X.fn y=true\/X.env.scope.names.lookup y=some .local:=by first | exact .inl rfl | exact .inr rfl | assumption) :
  Adl X [.Assign [.Name y yp] (.Call (.Name x p) (e :: es) [] pos) ap] (fun N E σ H=>t σ H fun vs H1=>sp vs H1 (fun v H2=>N (σ.set i (some v)) H2) (E σ)):=by
 intro pins s σ H N E I h
 refine wpAny_execs_cons (wpAny_Assign_Name (wpAny_mono (Xg F hr hg hm hk hb ha hdb he hpl I h) (fun v s1 ⟨z,H1,I1,r1,q1⟩=>?_) fun e s' ⟨σ',H1,s1,e1,I1,q1⟩=>?_) hs)
 ·exact Eu I1 hN hi hx r1 (fun s2 I2=>wpAny_execs_nil ⟨rfl,_,H1,I2,q1⟩) hf
 ·subst e1
  exact ⟨_,H1,s1,I1,q1⟩
end
section
variable {X:Cx} {body:List Stmt} {tb:(St->Hp->Prop)->(St->XK)->St->Hp->Prop} {cx n z:Str} {c:Value} {cp np zp zp2 hp pos:Pos} {j l:Nat}
end
section
open PySem.W PySem.Calls PySem.Builtin PySem.Builtin.ObjectAttr PySem.Builtin.Getset_descriptor
variable {K:Θf} {prog:Program} {w:World} {A:Around} {E:Value->Shared->Prop} {s:Shared} {ea C:Addr}
end
noncomputable def Aet:Option Nat->V
 | none=>.non
 | some g=>vN g
noncomputable def Adm (H:Hp):Option (Nat × Nat)->V->Prop
 | none,v=>v = .non
 | some u,v=>∃a,v = .ref a/\H a=some (.tup [vN u.1,vN u.2])
noncomputable def TreeV (H:Hp):Tr->V->Prop
 | .whole p,v=>∃a,v = .ref a/\H a=some (.tup [.str "whole",vN p])
 | .cut p s g l r,v=>∃a x y,v = .ref a/\H a=some (.tup [.str "cut",vN p,vN s,vN g,x,y])/\TreeV H l x/\TreeV H r y
theorem TreeV.same {H H':Hp} (e:Same H H'):∀{t:Tr} {v:V},TreeV H t v->TreeV H' t v
 | .whole _,_,⟨a,h1,h2⟩=>⟨a,h1,e _ _ h2⟩
 | .cut _ _ _ _ _,_,⟨a,x,y,h1,h2,h3,h4⟩=>⟨a,x,y,h1,e _ _ h2,h3.same e,h4.same e⟩
theorem TreeV.put {H:Hp} {l:Addr} {xs:List V} {o:HO} (hl:H l=some (.lst xs)):∀{t:Tr} {v:V},TreeV H t v->TreeV (upd H l o) t v
 | .whole _,_,⟨a,h1,h2⟩=>⟨a,h1,by rw [C9 (P4 h2 hl (by intro z; cases z))]; exact h2⟩
 | .cut _ _ _ _ _,_,⟨a,x,y,h1,h2,h3,h4⟩=>⟨a,x,y,h1,by rw [C9 (P4 h2 hl (by intro z; cases z))]; exact h2,h3.put hl,h4.put hl⟩
inductive TreesV (H:Hp):List Tr->List V->Prop
 | nil:TreesV H [] []
 | cons {t:Tr} {v:V} {ts:List Tr} {vs:List V}:TreeV H t v->TreesV H ts vs->TreesV H (t :: ts) (v :: vs)
theorem TreesV.same {H H':Hp} (e:Same H H'):∀{ts:List Tr} {vs:List V},TreesV H ts vs->TreesV H' ts vs
 | _,_,.nil=>.nil
 | _,_,.cons a b=>.cons (a.same e) (b.same e)
theorem TreesV.put {H:Hp} {l:Addr} {xs:List V} {o:HO} (hl:H l=some (.lst xs)):∀{ts:List Tr} {vs:List V},TreesV H ts vs->TreesV (upd H l o) ts vs
 | _,_,.nil=>.nil
 | _,_,.cons a b=>.cons (a.put hl) (b.put hl)
theorem TreesV.len {H:Hp}:∀{ts:List Tr} {vs:List V},TreesV H ts vs->vs.length=ts.length
 | _,_,.nil=>rfl
 | _,_,.cons _ b=>by rw [ZA,ZA,b.len]
theorem TreesV.app {H:Hp}:∀{ts us:List Tr} {vs ws:List V},TreesV H ts vs->TreesV H us ws->TreesV H (ts++us) (vs++ws)
 | _,_,_,_,.nil,h=>h
 | _,_,_,_,.cons a b,h=>.cons a (b.app h)
theorem TreesV.snoc {H:Hp}:∀{ts:List Tr} {vs:List V} {v:V},TreesV H ts (vs++[v])->∃ts' t,ts=ts'++[t]/\TreesV H ts' vs/\TreeV H t v
 | _,[],v,h=>by
  cases h with
  | cons a b=>cases b with | nil=>exact ⟨[],_,rfl,.nil,a⟩
 | _,w :: vs,v,h=>by
  cases h with
  | cons a b=>
   obtain ⟨ts',t,rfl,h1,h2⟩:=TreesV.snoc (vs:=vs) b
   exact ⟨_ :: ts',t,rfl,.cons a h1,h2⟩
theorem Jf:∀ts:List Tr,ts.length<=W4 ts
 | []=>Zp_ _
 | t :: ts=>by
  have h1:=Jf ts
  have h2:=t.cnt_pos
  have e:W4 (t :: ts)=t.cnt + W4 ts:=by unfold W4; rw [List.map_cons,List.sum_cons]
  rw [e,ZA]
  omega
noncomputable def Pb (K:Θf):Sp:=fun vs H Q _=>∃(m p x:Nat) (rl:Addr) (rs:List Rl),vs=[vN m,.ref rl,vN p,vN x]/\m<=7/\x < 2 ^ m/\SqL K H rl (rs.map fun r=>V.ref r.r)/\RulesAt H m rs/\rs.length<=200/\
 ∀H',Same H H'->Q (Aet (U2 m (rs.map Rl.d) p x)) H'
noncomputable def Pk (K:Θf):Sp:=fun vs H Q _=>∃(m p:Nat) (rl:Addr) (rs:List Rl),vs=[vN m,.ref rl,vN p]/\m<=7/\p < 2 ^ m/\SqL K H rl (rs.map fun r=>V.ref r.r)/\RulesAt H m rs/\rs.length<=200/\
 ∀v H',Same H H'->Adm H' (twF m (rs.map Rl.d) p) v->Q v H'
noncomputable def Xd (K:Θf) (n:Nat):Sp:=fun vs H Q _=>∃(m p:Nat) (rl:Addr) (rs:List Rl),vs=[vN m,.ref rl,vN p]/\m<=7/\p < 2 ^ m/\p < n/\SqL K H rl (rs.map fun r=>V.ref r.r)/\RulesAt H m rs/\rs.length<=200/\
 ∀v H',Same H H'->TreeV H' (trP m (rs.map Rl.d) p) v->Q v H'
noncomputable def Pf (n:Nat):Sp:=fun vs H Q _=>∃(v:V) (t:Tr),vs=[v]/\TreeV H t v/\t.dep < n/\Q (vN t.cnt) H
noncomputable def Fx (K:Θf) (CT:Addr):Sp:=fun vs H Q E=>∃(m:Nat) (rl:Addr) (rs:List Rl),vs=[vN m,.ref rl]/\m<=7/\SqL K H rl (rs.map fun r=>V.ref r.r)/\RulesAt H m rs/\rs.length<=200/\
 (60 < (trP m (rs.map Rl.d) (2 ^ m - 1)).cnt->∀H',Same H H'->E (.ref CT) none H')/\((trP m (rs.map Rl.d) (2 ^ m - 1)).cnt<=60->∀v H',Same H H'->TreeV H' (trP m (rs.map Rl.d) (2 ^ m - 1)) v->Q v H')
end L2
namespace L2
open PySem PySem.W PyProof.Rows
namespace ST
section
variable {lt:Nat->Nat->Bool}
section
variable {N:Nat} (h0:0 < N)
include h0
end
end
end ST
end L2
namespace L2
open PySem PySem.W PyProof.Rows
namespace ST
noncomputable def lexB:List Int->List Int->Bool
 | x :: xs,y :: ys=>if x=y then lexB xs ys else decide (x < y)
 | _,_=>false
theorem Uh:∀{x y:List Int},lexB x y=true->lexB y x=false
 | [],y,h=>by cases y <;> rfl
 | _ :: _,[],h=>rfl
 | a :: x,b :: y,h=>by
  unfold lexB at h ⊢
  by_cases e:a=b
  ·rw [if_pos e] at h
   rw [if_pos e.symm]
   exact Uh h
  ·rw [if_neg e] at h
   rw [if_neg (Ne.symm e)]
   have:=Zj_ h
   exact decide_eq_false (by omega)
theorem Ui:∀{x y z:List Int},x.length=y.length->y.length=z.length->lexB y x=false->lexB z y=false->lexB z x=false
 | [],[],[],_,_,_,_=>rfl
 | a :: x,b :: y,c :: z,h1,h2,h3,h4=>by
  unfold lexB at h3 h4 ⊢
  by_cases e1:b=a
  ·subst e1
   rw [if_pos rfl] at h3
   by_cases e2:c=b
   ·subst e2
    rw [if_pos rfl] at h4 ⊢
    exact Ui (Nat.succ.inj h1) (Nat.succ.inj h2) h3 h4
   ·rw [if_neg e2] at h4 ⊢
    exact h4
  ·rw [if_neg e1] at h3
   have n1:=of_decide_eq_false h3
   by_cases e2:c=b
   ·subst e2
    rw [if_neg e1]
    exact h3
   ·rw [if_neg e2] at h4
    have n2:=of_decide_eq_false h4
    rw [if_neg (by omega)]
    exact decide_eq_false (by omega)
theorem lex_total:∀{x y:List Int},x.length=y.length->lexB x y=false->lexB y x=false->x=y
 | [],[],_,_,_=>rfl
 | a :: x,b :: y,h,h1,h2=>by
  unfold lexB at h1 h2
  by_cases e:a=b
  ·subst e
   rw [if_pos rfl] at h1 h2
   rw [lex_total (Nat.succ.inj h) h1 h2]
  ·rw [if_neg e] at h1
   rw [if_neg (Ne.symm e)] at h2
   have:=of_decide_eq_false h1
   have:=of_decide_eq_false h2
   omega
section
variable {prog:Program} {w:World} {A:Around} {E:Value->Shared->Prop} {s:Shared}
theorem Ob {Q:Bool->Shared->Prop}:∀{us vs:List Value} {xs ys:List Int} (i:Nat),IntsAre us xs->IntsAre vs ys->xs.length=ys.length->Q (lexB xs ys) s->KatLex prog w A true false Q (us.zip vs) i s
 | _,_,_,_,_,.nil,.nil,_,q=>q
 | _,_,_,_,i,.cons (vs:=us) (ns:=xs) x t hx,.cons (vs:=vs) (ns:=ys) y u hy,hl,q=>by
  refine kat_cons (wpAny_eqBool_int ?_)
  unfold lexB at q
  by_cases e:x=y
  ·subst e
   rw [if_pos rfl] at q
   rw [beq_self_eq_true]
   exact kat_yes (Ob (i + 1) hx hy (Nat.succ.inj hl) q)
  ·rw [if_neg e] at q
   rw [beq_eq_false_iff_ne.mpr e]
   refine kat_no ?_
   cases c:(true && i == 0) with
   | true=>exact oneLt_int q
   | false=>exact kat_one _ _ (lt_int q)
noncomputable def RowAt (h:Heap) (m:Nat) (r:Addr × List Int):Prop:=r.2.length=m/\∃o its n,h.get? r.1=some o/\o.cls = .type "tuple"/\o.data = .seq its n/\IntsAre its.toList r.2
theorem Acu {m:Nat} {a b:Addr × List Int} {Q:Bool->Shared->Prop} (ha:RowAt s.heap m a) (hb:RowAt s.heap m b) (q:Q (lexB a.2 b.2) s):wpAny (model prog w) A (keyLt' (tuples' true) (.ref a.1) (.ref b.1)) Q E s:=by
 obtain ⟨l1,o1,i1,n1,h1,_,d1,r1⟩:=ha
 obtain ⟨l2,o2,i2,n2,h2,_,d2,r2⟩:=hb
 have e1:i1.size=m:=by rw [<-Zz_,r1.length,l1]
 have e2:i2.size=m:=by rw [<-Zz_,r2.length,l2]
 refine kat_lt h1 d1 h2 d2 ?_
 rw [e1,e2,decide_eq_false (Nat.lt_irrefl _)]
 exact Ob 0 r1 r2 (by rw [l1,l2]) q
end
end ST
end L2
namespace L2
open PySem PySem.W PyProof.Rows
namespace SR
noncomputable def Abo:Bool->Keyed->Array Keyed->Nat->Nat->Nat->StateT SortSt Sem (Option Nat):=sortPriv% PySem.Builtin.gallop
noncomputable def mLo:Array Keyed->Array Keyed->StateT SortSt Sem (Array Keyed):=sortPriv% PySem.Builtin.mergeLo
noncomputable def mHi:Array Keyed->Array Keyed->StateT SortSt Sem (Array Keyed):=sortPriv% PySem.Builtin.mergeHi
structure TO (L:Keyed->Keyed->Bool):Prop where
 as_:∀{x y},L x y=true->L y x=false
 tr:∀{x y z},L y x=false->L z y=false->L z x=false
section
variable {prog:Program} {w:World} {A:Around} {E:Value->Shared->Prop} {s:Shared} {κ:SortKind} {U:Keyed->Prop} {L:Keyed->Keyed->Bool}
noncomputable def V3 (prog:Program) (w:World) (A:Around) (s:Shared) (κ:SortKind) (U:Keyed->Prop) (L:Keyed->Keyed->Bool):Prop:=
 ∀x y,U x->U y->wpAny (model prog w) A (keyLt' κ x.1 y.1) (fun b s'=>s' = s/\b=L x y) (fun _ _=>False) s
theorem K3 {arr:Array Keyed} {i:Nat} {x:Keyed} {Q:Keyed->SortSt->Prop} {st:SortSt} (hx:arr[i]? = some x) (h:Q x st):wpS (model prog w) A E s (elem' arr i) Q st:=by
 rw [elem'_eq,hx]
 exact Zl_ h
theorem Vx (H:V3 prog w A s κ U L) {x y:Keyed} {Q:Option Bool->SortSt->Prop} {st:SortSt} (hk:kindOf st=κ) (ux:U x) (uy:U y) (h:Q (some (L x y)) st):wpS (model prog w) A E s (lt' x y) Q st:=by
 rw [lt'_eq]
 refine Zk_ (wpS_get (Zk_ (wpS_lift (wpAny_attempt (wpAny_mono (by rw [hk]; exact H x y ux uy) (fun b s' hb=>?_) fun _ _ f=>False.elim f)))))
 obtain ⟨rfl,rfl⟩:=hb
 exact ⟨rfl,Zl_ h⟩
theorem Ca {r:String} {Q:Unit->SortSt->Prop} {st:SortSt} (h:Q () st):wpS (model prog w) A E s (liftM (rule r):StateT SortSt Sem Unit) Q st:=wpS_lift (wpAny_rule ⟨rfl,h⟩)
theorem Kg (H:V3 prog w A s κ U L) {left:Bool} {key x:Keyed} {arr:Array Keyed} {j:Nat} {Q:Option Bool->SortSt->Prop} {st:SortSt} (hk:kindOf st=κ) (uk:U key) (hx:arr[j]? = some x) (ux:U x)
  (h:Q (some (if left=true then L x key else !(L key x))) st):wpS (model prog w) A E s (elem' arr j >>= fun x=>if left=true then lt' x key else lt' key x >>= fun r=>pure (r.map fun c=>!c)) Q st:=by
 refine Zk_ (K3 hx ?_)
 cases left with
 | true=>exact Vx H hk ux uk h
 | false=>exact Zk_ (Vx H hk uk ux (Zl_ h))
theorem Vv (H:V3 prog w A s κ U L) {left:Bool} {key:Keyed} {arr:Array Keyed} {base n hint:Nat} {b:Nat->Bool} {Q:Option Nat->SortSt->Prop} {st:SortSt} (hk:kindOf st=κ) (uk:U key)
  (hb:∀i,i < n->∃x,arr[base + i]? = some x/\U x/\(if left=true then L x key else !(L key x))=b i) (hm:∀i j,i<=j->j < n->b j=true->b i=true) (hh:hint < n)
  (h:∀k,k<=n->(∀i,i < k->b i=true)->(∀i,k<=i->i < n->b i=false)->Q (some k) st):wpS (model prog w) A E s (Abo left key arr base n hint) Q st:=by
 have hf:∀i j,i<=j->j < n->b i=false->b j=false:=fun i j h1 h2 h3=>by
  cases c:b j with
  | false=>rfl
  | true=>rw [hm i j h1 h2 c] at h3; exact h3
 obtain ⟨x0,g1,g2,g3⟩:=hb hint hh
 refine Zk_ (Kg H hk uk g1 g2 ?_)
 rw [g3]
 dsimp only
 cases c0:b hint with
 | true=>
  rw [if_pos rfl]
  refine Zk_ (wpS_mono (wpS_forRange (I:=fun i c st'=>∃la of,c=(none,la,of)/\st' = st/\hint + la < n/\b (hint + la)=true/\la < of/\i + 1<=of)
   (Q:=fun c st'=>∃la of,c=(none,la,of)/\st' = st/\hint + la < n/\b (hint + la)=true/\la < of/\(n - hint<=of\/b (hint + of)=false)) ?_ ?_ ⟨0,1,rfl,rfl,hh,c0,by omega,by omega⟩) ?_)
  ·rintro i c st' _ hi ⟨la,of,rfl,rfl,p1,p2,p3,p4⟩
   dsimp only
   by_cases d:of ≥ n - hint
   ·rw [if_pos d]
    exact Zl_ ⟨la,of,rfl,rfl,p1,p2,p3,.inl d⟩
   ·rw [if_neg d]
    obtain ⟨x1,k1,k2,k3⟩:=hb (hint + of) (by omega)
    refine Zk_ (Kg H hk uk k1 k2 ?_)
    rw [k3]
    cases c1:b (hint + of) with
    | true=>exact Zl_ ⟨of,2 * of + 1,rfl,rfl,by omega,c1,by omega,by omega⟩
    | false=>exact Zl_ ⟨la,of,rfl,rfl,p1,p2,p3,.inr c1⟩
  ·rintro c st' ⟨la,of,rfl,rfl,p1,p2,p3,p4⟩
   exact ⟨la,of,rfl,rfl,p1,p2,p3,.inl (by omega)⟩
  ·rintro c st' ⟨la,of,rfl,rfl,p1,p2,p3,p4⟩
   dsimp only
   obtain ⟨lo,elo⟩:∃lo,hint + la + 1=lo:=⟨_,rfl⟩
   obtain ⟨hi,ehi⟩:∃hi,hint + min of (n - hint)=hi:=⟨_,rfl⟩
   rw [elo,ehi]
   have q1:∀i,i < lo->b i=true:=fun i hi=>hm i (hint + la) (by omega) p1 p2
   have q2:∀i,hi<=i->i < n->b i=false:=fun i h1 h2=>by
    rcases p4 with p4 | p4
    ·omega
    ·by_cases e:of<=n - hint
     ·exact hf (hint + of) i (by omega) h2 p4
     ·omega
   have q3:lo<=hi/\hi<=n:=by omega
   clear p1 p2 p3 p4 elo ehi c0
   refine Zk_ (wpS_mono (wpS_forRange (I:=fun i c st''=>∃lo hi,c=(none,lo,hi)/\st'' = st'/\(∀i,i < lo->b i=true)/\(∀i,hi<=i->i < n->b i=false)/\lo<=hi/\hi<=n/\hi - lo + i<=n)
    (Q:=fun c st''=>∃lo hi,c=(none,lo,hi)/\st'' = st'/\(∀i,i < lo->b i=true)/\(∀i,hi<=i->i < n->b i=false)/\lo=hi/\hi<=n) ?_ ?_ ⟨lo,hi,rfl,rfl,q1,q2,q3.1,q3.2,by omega⟩) ?_)
   ·rintro i c st'' _ hi ⟨lo,hi,rfl,rfl,p1,p2,p3,p4,p5⟩
    dsimp only
    by_cases d:lo ≥ hi
    ·rw [if_pos d]
     exact Zl_ ⟨lo,hi,rfl,rfl,p1,p2,by omega,p4⟩
    ·rw [if_neg d]
     obtain ⟨x1,k1,k2,k3⟩:=hb (lo + (hi - lo) / 2) (by omega)
     refine Zk_ (Kg H hk uk k1 k2 ?_)
     rw [k3]
     cases c1:b (lo + (hi - lo) / 2) with
     | true=>exact Zl_ ⟨lo + (hi - lo) / 2 + 1,hi,rfl,rfl,fun i hi'=>hm i _ (by omega) (by omega) c1,p2,by omega,p4,by omega⟩
     | false=>exact Zl_ ⟨lo,lo + (hi - lo) / 2,rfl,rfl,p1,fun i h1 h2=>hf _ i h1 h2 c1,by omega,by omega,by omega⟩
   ·rintro c st'' ⟨lo,hi,rfl,rfl,p1,p2,p3,p4,p5⟩
    exact ⟨lo,hi,rfl,rfl,p1,p2,by omega,p4⟩
   ·rintro c st'' ⟨lo,hi,rfl,rfl,p1,p2,rfl,p4⟩
    exact Zl_ (h lo p4 p1 p2)
 | false=>
  rw [if_neg Zf_]
  refine Zk_ (wpS_mono (wpS_forRange (I:=fun i c st'=>∃la of,c=(none,la,of)/\st' = st/\la<=hint/\b (hint - la)=false/\la < of/\i + 1<=of)
   (Q:=fun c st'=>∃la of,c=(none,la,of)/\st' = st/\la<=hint/\b (hint - la)=false/\la < of/\(hint + 1<=of\/b (hint - of)=true)) ?_ ?_ ⟨0,1,rfl,rfl,by omega,c0,by omega,by omega⟩) ?_)
  ·rintro i c st' _ hi ⟨la,of,rfl,rfl,p1,p2,p3,p4⟩
   dsimp only
   by_cases d:of ≥ hint + 1
   ·rw [if_pos d]
    exact Zl_ ⟨la,of,rfl,rfl,p1,p2,p3,.inl d⟩
   ·rw [if_neg d]
    obtain ⟨x1,k1,k2,k3⟩:=hb (hint - of) (by omega)
    refine Zk_ (Kg H hk uk k1 k2 ?_)
    rw [k3]
    cases c1:b (hint - of) with
    | true=>exact Zl_ ⟨la,of,rfl,rfl,p1,p2,p3,.inr c1⟩
    | false=>exact Zl_ ⟨of,2 * of + 1,rfl,rfl,by omega,c1,by omega,by omega⟩
  ·rintro c st' ⟨la,of,rfl,rfl,p1,p2,p3,p4⟩
   exact ⟨la,of,rfl,rfl,p1,p2,p3,.inl (by omega)⟩
  ·rintro c st' ⟨la,of,rfl,rfl,p1,p2,p3,p4⟩
   dsimp only
   obtain ⟨lo,elo⟩:∃lo,hint + 1 - min of (hint + 1)=lo:=⟨_,rfl⟩
   obtain ⟨hi,ehi⟩:∃hi,hint - la=hi:=⟨_,rfl⟩
   rw [elo,ehi]
   have q1:∀i,i < lo->b i=true:=fun i hi=>by
    rcases p4 with p4 | p4
    ·omega
    ·exact hm i (hint - of) (by omega) (by omega) p4
   have q2:∀i,hi<=i->i < n->b i=false:=fun i h1 h2=>hf (hint - la) i (by omega) h2 p2
   have q3:lo<=hi/\hi<=n:=by omega
   clear p1 p2 p3 p4 elo ehi c0
   refine Zk_ (wpS_mono (wpS_forRange (I:=fun i c st''=>∃lo hi,c=(none,lo,hi)/\st'' = st'/\(∀i,i < lo->b i=true)/\(∀i,hi<=i->i < n->b i=false)/\lo<=hi/\hi<=n/\hi - lo + i<=n)
    (Q:=fun c st''=>∃lo hi,c=(none,lo,hi)/\st'' = st'/\(∀i,i < lo->b i=true)/\(∀i,hi<=i->i < n->b i=false)/\lo=hi/\hi<=n) ?_ ?_ ⟨lo,hi,rfl,rfl,q1,q2,q3.1,q3.2,by omega⟩) ?_)
   ·rintro i c st'' _ hi ⟨lo,hi,rfl,rfl,p1,p2,p3,p4,p5⟩
    dsimp only
    by_cases d:lo ≥ hi
    ·rw [if_pos d]
     exact Zl_ ⟨lo,hi,rfl,rfl,p1,p2,by omega,p4⟩
    ·rw [if_neg d]
     obtain ⟨x1,k1,k2,k3⟩:=hb (lo + (hi - lo) / 2) (by omega)
     refine Zk_ (Kg H hk uk k1 k2 ?_)
     rw [k3]
     cases c1:b (lo + (hi - lo) / 2) with
     | true=>exact Zl_ ⟨lo + (hi - lo) / 2 + 1,hi,rfl,rfl,fun i hi'=>hm i _ (by omega) (by omega) c1,p2,by omega,p4,by omega⟩
     | false=>exact Zl_ ⟨lo,lo + (hi - lo) / 2,rfl,rfl,p1,fun i h1 h2=>hf _ i h1 h2 c1,by omega,by omega,by omega⟩
   ·rintro c st'' ⟨lo,hi,rfl,rfl,p1,p2,p3,p4,p5⟩
    exact ⟨lo,hi,rfl,rfl,p1,p2,by omega,p4⟩
   ·rintro c st'' ⟨lo,hi,rfl,rfl,p1,p2,rfl,p4⟩
    exact Zl_ (h lo p4 p1 p2)
end
end SR
end L2
namespace L2
open PySem PySem.W PyProof.Rows
namespace SR
section
variable {L:Keyed->Keyed->Bool} {la lb out ro:List Keyed} {ia ib na nb k:Nat}
noncomputable abbrev Le (L:Keyed->Keyed->Bool) (x y:Keyed):Prop:=L y x=false
noncomputable abbrev Inc (L:Keyed->Keyed->Bool) (l:List Keyed):Prop:=l.Pairwise (Le L)
theorem Le.of_lt (O:TO L) {x y:Keyed} (h:L x y=true):Le L x y:=O.as_ h
theorem Le.trans (O:TO L) {x y z:Keyed} (h:Le L x y) (g:Le L y z):Le L x z:=O.tr h g
theorem Inc.le (S:Inc L la) {i j:Nat} {x y:Keyed} (hi:la[i]? = some x) (hj:la[j]? = some y) (h:i < j):Le L x y:=by
 obtain ⟨h1,e1⟩:=Ze_.mp hi
 obtain ⟨h2,e2⟩:=Ze_.mp hj
 have:=List.pairwise_iff_getElem.mp S i j h1 h2 h
 rw [e1,e2] at this
 exact this
theorem irr (O:TO L) (x:Keyed):Le L x x:=by
 show L x x=false
 cases c:L x x with
 | false=>rfl
 | true=>have:=O.as_ c; rw [c] at this; exact this
theorem Inc.le' (O:TO L) (S:Inc L la) {i j:Nat} {x y:Keyed} (hi:la[i]? = some x) (hj:la[j]? = some y) (h:i<=j):Le L x y:=by
 rcases Nat.lt_or_ge i j with c | c
 ·exact S.le hi hj c
 ·have:i=j:=by omega
  subst this
  rw [hi] at hj
  cases hj
  exact irr O x
theorem Z0 {l:List Keyed} {i:Nat} {y:Keyed} (h:y∈l.drop i):∃j,i<=j/\l[j]? = some y:=by
 obtain ⟨j,hj⟩:=List.mem_iff_getElem?.mp h
 rw [List.getElem?_drop] at hj
 exact ⟨i + j,by omega,hj⟩
theorem P0 {l:List Keyed} {n:Nat} {y:Keyed} (h:y∈l.take n):∃j,j < n/\l[j]? = some y:=by
 obtain ⟨j,hj⟩:=List.mem_iff_getElem?.mp h
 rw [List.getElem?_take] at hj
 split at hj
 ·exact ⟨j,by assumption,hj⟩
 ·cases hj
structure LI (L:Keyed->Keyed->Bool) (la lb out:List Keyed) (ia ib:Nat):Prop where
 perm:out.Perm (la.take ia++lb.take ib)
 srt:Inc L out
 ha:∀x∈out,∀y∈la.drop ia,Le L x y
 hb:∀x∈out,∀y∈lb.drop ib,Le L x y
theorem LI.swap (I:LI L la lb out ia ib):LI L lb la out ib ia:=⟨I.perm.trans List.perm_append_comm,I.srt,I.hb,I.ha⟩
theorem LI.take (Sa:Inc L la) (I:LI L la lb out ia ib) (k:Nat) (h:∀x∈(la.drop ia).take k,∀y∈lb.drop ib,Le L x y):LI L la lb (out++(la.drop ia).take k) (ia + k) ib:=by
 have sd:Inc L (la.drop ia):=List.Pairwise.sublist (List.drop_sublist ..) Sa
 have sc:Inc L ((la.drop ia).take k++(la.drop ia).drop k):=by rw [List.take_append_drop]; exact sd
 have sp:=List.pairwise_append.mp sc
 refine ⟨?_,List.pairwise_append.mpr ⟨I.srt,sp.1,fun x hx y hy=>I.ha x hx y (List.mem_of_mem_take hy)⟩,fun x hx y hy=>?_,fun x hx y hy=>?_⟩
 ·rw [List.take_add]
  refine (I.perm.append_right _).trans ?_
  rw [Zy_,Zy_]
  exact List.Perm.append_left _ List.perm_append_comm
 ·rw [<-List.drop_drop] at hy
  rcases Θa hx with hx | hx
  ·exact I.ha x hx y (List.mem_of_mem_drop hy)
  ·exact sp.2.2 x hx y hy
 ·rcases Θa hx with hx | hx
  ·exact I.hb x hx y hy
  ·exact h x hx y hy
theorem LI.fin (Sa:Inc L la) (Sb:Inc L lb) (I:LI L la lb out ia ib) (h:∀x∈la.drop ia,∀y∈lb.drop ib,Le L x y):(out++la.drop ia++lb.drop ib).Perm (la++lb)/\Inc L (out++la.drop ia++lb.drop ib):=by
 have J:=I.take Sa (la.length - ia) fun x hx y hy=>h x (List.mem_of_mem_take hx) y hy
 have e1:(la.drop ia).take (la.length - ia)=la.drop ia:=List.take_of_length_le (by simp)
 rw [e1] at J
 have J2:=J.swap.take Sb (lb.length - ib) fun x hx y hy=>by
  rw [List.drop_eq_nil_of_le (by omega)] at hy; cases hy
 rw [List.take_of_length_le (by simp)] at J2
 refine ⟨J2.perm.trans ?_,J2.srt⟩
 rw [List.take_of_length_le (by omega),List.take_of_length_le (by omega)]
 exact List.perm_append_comm
structure HI (L:Keyed->Keyed->Bool) (la lb ro:List Keyed) (na nb:Nat):Prop where
 perm:ro.Perm (la.drop na++lb.drop nb)
 srt:Inc L ro
 ha:∀x∈la.take na,∀y∈ro,Le L x y
 hb:∀x∈lb.take nb,∀y∈ro,Le L x y
theorem HI.swap (I:HI L la lb ro na nb):HI L lb la ro nb na:=⟨I.perm.trans List.perm_append_comm,I.srt,I.hb,I.ha⟩
theorem HI.drop (Sa:Inc L la) (I:HI L la lb ro na nb) (k:Nat) (hk:k<=na) (h:∀x∈lb.take nb,∀y∈(la.take na).drop k,Le L x y):HI L la lb ((la.take na).drop k++ro) k nb:=by
 have sd:Inc L (la.take na):=List.Pairwise.sublist (List.take_sublist ..) Sa
 have sc:Inc L ((la.take na).take k++(la.take na).drop k):=by rw [List.take_append_drop]; exact sd
 have sp:=List.pairwise_append.mp sc
 have ek:(la.take na).take k=la.take k:=by rw [List.take_take,Nat.min_eq_left hk]
 refine ⟨?_,List.pairwise_append.mpr ⟨sp.2.1,I.srt,fun x hx y hy=>I.ha x (List.mem_of_mem_drop hx) y hy⟩,fun x hx y hy=>?_,fun x hx y hy=>?_⟩
 ·have e:la.drop k=(la.take na).drop k++la.drop na:=by
   rcases Nat.lt_or_ge la.length na with c | c
   ·rw [List.take_of_length_le (by omega),List.drop_eq_nil_of_le (i:=na) (by omega),List.append_nil]
   ·conv=>lhs; rw [<-List.take_append_drop na la]
    rw [List.drop_append_of_le_length (by rw [ZB]; omega)]
  rw [e,Zy_]
  exact I.perm.append_left _
 ·rw [<-ek] at hx
  rcases Θa hy with hy | hy
  ·exact sp.2.2 x hx y hy
  ·exact I.ha x (List.mem_of_mem_take hx) y hy
 ·rcases Θa hy with hy | hy
  ·exact h x hx y hy
  ·exact I.hb x hx y hy
theorem HI.fin (Sa:Inc L la) (Sb:Inc L lb) (I:HI L la lb ro na nb) (h:∀x∈la.take na,∀y∈lb.take nb,Le L x y):(la.take na++lb.take nb++ro).Perm (la++lb)/\Inc L (la.take na++lb.take nb++ro):=by
 have J:=I.swap.drop Sb 0 (Zp_ _) fun x hx y hy=>h x hx y (List.mem_of_mem_drop hy)
 have J2:=J.swap.drop Sa 0 (Zp_ _) fun x hx y hy=>by rw [List.take_zero] at hx; cases hx
 rw [List.drop_zero,List.drop_zero] at J2
 rw [Zy_]
 refine ⟨J2.perm.trans ?_,J2.srt⟩
 rw [List.drop_zero,List.drop_zero]
end
end SR
end L2
namespace L2
open PySem PySem.W PyProof.Rows
namespace SR
section
variable {L:Keyed->Keyed->Bool} {a b out:Array Keyed} {ia ib k:Nat} {x y:Keyed}
structure Kp (st st':SortSt):Prop where
 kind:kindOf st' = kindOf st
 arr:arrOf st' = arrOf st
 pend:pendingOf st' = pendingOf st
 failed:failedOf st' = failedOf st
theorem Kp.refl (st:SortSt):Kp st st:=⟨rfl,rfl,rfl,rfl⟩
theorem U0 {a:Array Keyed} {i j:Nat}:(a.extract i j).toList=(a.toList.drop i).take (j - i):=by
 simp
theorem Gu {a:Array Keyed} {i:Nat}:(a.extract i a.size).toList=a.toList.drop i:=by
 rw [U0]; exact List.take_of_length_le (by simp)
theorem R0 {a:Array Keyed} {i:Nat}:a.toList[i]? = a[i]?:=by simp
theorem Aa6 (h:a[ia]? = some x):(a.toList.drop ia).take 1=[x]:=by
 rw [<-R0] at h
 obtain ⟨h1,h2⟩:=Ze_.mp h
 rw [List.drop_eq_getElem_cons h1,h2]
 rfl
theorem up (O:TO L) (Sa:Inc L a.toList) (h:a[ia]? = some x) (g:Le L y x):∀z∈a.toList.drop ia,Le L y z:=fun z hz=>by
 obtain ⟨j,hj,ej⟩:=Z0 hz
 rw [<-R0] at h
 exact g.trans O (Sa.le' O h ej hj)
noncomputable abbrev Fin (L:Keyed->Keyed->Bool) (a b r:Array Keyed):Prop:=r.toList.Perm (a.toList++b.toList)/\Inc L r.toList
noncomputable abbrev Lo (L:Keyed->Keyed->Bool) (a b out:Array Keyed) (ia ib:Nat):Prop:=LI L a.toList b.toList out.toList ia ib
theorem Lo.pushA (Sa:Inc L a.toList) (I:Lo L a b out ia ib) (h:a[ia]? = some x) (g:∀y∈b.toList.drop ib,Le L x y):Lo L a b (out.push x) (ia + 1) ib:=by
 have:=LI.take Sa I 1 (by rw [Aa6 h]; intro z hz; rw [List.mem_singleton] at hz; rw [hz]; exact g)
 rw [Aa6 h] at this
 show LI L a.toList b.toList (out.push x).toList _ _
 rw [Array.toList_push]
 exact this
theorem Lo.pushB (Sb:Inc L b.toList) (I:Lo L a b out ia ib) (h:b[ib]? = some y) (g:∀x∈a.toList.drop ia,Le L y x):Lo L a b (out.push y) ia (ib + 1):=(Lo.pushA (a:=b) (b:=a) Sb I.swap h g).swap
theorem Lo.chunkA (Sa:Inc L a.toList) (I:Lo L a b out ia ib) (k:Nat) (g:∀i x,i < k->a[ia + i]? = some x->∀y∈b.toList.drop ib,Le L x y):Lo L a b (out++a.extract ia (ia + k)) (ia + k) ib:=by
 have:=LI.take Sa I k (fun x hx=>by
  obtain ⟨j,hj,ej⟩:=P0 hx
  rw [List.getElem?_drop,R0] at ej
  exact g j x hj ej)
 show LI L a.toList b.toList (out++a.extract ia (ia + k)).toList _ _
 rw [Array.toList_append,U0,Nat.add_sub_cancel_left]
 exact this
theorem Lo.chunkB (Sb:Inc L b.toList) (I:Lo L a b out ia ib) (k:Nat) (g:∀i y,i < k->b[ib + i]? = some y->∀x∈a.toList.drop ia,Le L y x):Lo L a b (out++b.extract ib (ib + k)) ia (ib + k):=(Lo.chunkA (a:=b) (b:=a) Sb I.swap k g).swap
theorem Lo.done (Sa:Inc L a.toList) (Sb:Inc L b.toList) (I:Lo L a b out ia ib) (h:ia=a.size\/ib=b.size):Fin L a b (out++a.extract ia a.size++b.extract ib b.size):=by
 have:=LI.fin Sa Sb I fun x hx y hy=>by
  rcases h with h | h
  ·rw [h,List.drop_eq_nil_of_le (by simp)] at hx; cases hx
  ·rw [h,List.drop_eq_nil_of_le (by simp)] at hy; cases hy
 unfold Fin
 rw [Array.toList_append,Array.toList_append,Gu,Gu]
 exact this
theorem Lo.last (Sa:Inc L a.toList) (Sb:Inc L b.toList) (h1:∀y∈b.toList,∀x,a[a.size - 1]? = some x->Le L y x) (I:Lo L a b out ia ib) (h:ia + 1=a.size):Fin L a b (out++b.extract ib b.size++a.extract ia a.size):=by
 have:=LI.fin Sb Sa I.swap fun y hy x hx=>by
  obtain ⟨j,hj,ej⟩:=Z0 hx
  have hl:=(Ze_.mp ej).1
  rw [Zz_] at hl
  rw [R0] at ej
  exact h1 y (List.mem_of_mem_drop hy) x (by rw [<-ej]; congr 1; omega)
 unfold Fin
 rw [Array.toList_append,Array.toList_append,Gu,Gu]
 exact ⟨this.1.trans List.perm_append_comm,this.2⟩
end
section
variable {prog:Program} {w:World} {A:Around} {E:Value->Shared->Prop} {s:Shared} {κ:SortKind} {U:Keyed->Prop} {L:Keyed->Keyed->Bool}
theorem Hq (O:TO L) (H:V3 prog w A s κ U L) {key:Keyed} {a:Array Keyed} {ia hint n:Nat} {Q:Option Nat->SortSt->Prop} {st:SortSt} (hk:kindOf st=κ) (uk:U key) (ua:∀x∈a.toList,U x) (hn:ia + n<=a.size)
  (Sa:∀i j x y,i<=j->j < n->a[ia + i]? = some x->a[ia + j]? = some y->Le L x y) (hh:hint < n)
  (h:∀k,k<=n->(∀i x,i < k->a[ia + i]? = some x->Le L x key)->(∀i x,k<=i->i < n->a[ia + i]? = some x->L key x=true)->Q (some k) st):wpS (model prog w) A E s (Abo false key a ia n hint) Q st:=by
 have at_:∀i,i < n->∃x,a[ia + i]? = some x/\U x:=fun i hi=>⟨a[ia + i],Array.getElem?_eq_getElem (by omega),ua _ (by simp)⟩
 refine Vv H (b:=fun i=>match a[ia + i]? with | some x=>!(L key x) | none=>false) hk uk (fun i hi=>?_) (fun i j hij hj hb=>?_) hh fun k hk1 hk2 hk3=>h k hk1 (fun i x hi ex=>?_) fun i x h1 h2 ex=>?_
 ·obtain ⟨x,ex,ux⟩:=at_ i hi
  refine ⟨x,ex,ux,?_⟩
  rw [if_neg Zf_,ex]
 ·obtain ⟨x,ex,_⟩:=at_ i (by omega)
  obtain ⟨y,ey,_⟩:=at_ j hj
  try dsimp only at hb ⊢
  rw [ey] at hb
  rw [ex]
  have h1:L key y=false:=by simpa using hb
  have h2:L key x=false:=(Sa i j x y hij hj ex ey).trans O h1
  dsimp only
  rw [h2]
  rfl
 ·have:=hk2 i hi
  try dsimp only at this
  rw [ex] at this
  simpa using this
 ·have:=hk3 i h1 h2
  try dsimp only at this
  rw [ex] at this
  simpa using this
theorem Md (O:TO L) (H:V3 prog w A s κ U L) {key:Keyed} {a:Array Keyed} {ia hint n:Nat} {Q:Option Nat->SortSt->Prop} {st:SortSt} (hk:kindOf st=κ) (uk:U key) (ua:∀x∈a.toList,U x) (hn:ia + n<=a.size)
  (Sa:∀i j x y,i<=j->j < n->a[ia + i]? = some x->a[ia + j]? = some y->Le L x y) (hh:hint < n)
  (h:∀k,k<=n->(∀i x,i < k->a[ia + i]? = some x->L x key=true)->(∀i x,k<=i->i < n->a[ia + i]? = some x->Le L key x)->Q (some k) st):wpS (model prog w) A E s (Abo true key a ia n hint) Q st:=by
 have at_:∀i,i < n->∃x,a[ia + i]? = some x/\U x:=fun i hi=>⟨a[ia + i],Array.getElem?_eq_getElem (by omega),ua _ (by simp)⟩
 refine Vv H (b:=fun i=>match a[ia + i]? with | some x=>L x key | none=>false) hk uk (fun i hi=>?_) (fun i j hij hj hb=>?_) hh fun k hk1 hk2 hk3=>h k hk1 (fun i x hi ex=>?_) fun i x h1 h2 ex=>?_
 ·obtain ⟨x,ex,ux⟩:=at_ i hi
  refine ⟨x,ex,ux,?_⟩
  rw [if_pos rfl,ex]
 ·obtain ⟨x,ex,_⟩:=at_ i (by omega)
  obtain ⟨y,ey,_⟩:=at_ j hj
  try dsimp only at hb ⊢
  rw [ey] at hb
  rw [ex]
  try dsimp only at hb ⊢
  cases c:L x key with
  | true=>rfl
  | false=>
   have c':Le L key x:=c
   have:=c'.trans O (Sa i j x y hij hj ex ey)
   rw [show L y key=false from this] at hb
   exact hb
 ·have:=hk2 i hi
  try dsimp only at this
  rw [ex] at this
  exact this
 ·have:=hk3 i h1 h2
  try dsimp only at this
  rw [ex] at this
  exact this
theorem Dc (O:TO L) {a:Array Keyed} (Sa:Inc L a.toList) {ia n:Nat}:∀i j x y,i<=j->j < n->a[ia + i]? = some x->a[ia + j]? = some y->Le L x y:=fun i j x y hij hj ex ey=>
 Sa.le' O (by rw [R0]; exact ex) (by rw [R0]; exact ey) (by omega)
end
end SR
end L2
namespace L2
open PySem PySem.W PyProof.Rows
namespace SR
section
variable {prog:Program} {w:World} {A:Around} {E:Value->Shared->Prop} {s:Shared} {κ:SortKind} {U:Keyed->Prop} {L:Keyed->Keyed->Bool}
theorem Aea (O:TO L) (H:V3 prog w A s κ U L) {a b:Array Keyed} {Q:Array Keyed->SortSt->Prop} {st:SortSt} (hk:kindOf st=κ) (ua:∀x∈a.toList,U x) (ub:∀x∈b.toList,U x)
  (Sa:Inc L a.toList) (Sb:Inc L b.toList) (a1:1<=a.size) (b1:1<=b.size) (h0:∀x∈a.toList,∀y,b[0]? = some y->Le L y x) (h1:∀y∈b.toList,∀x,a[a.size - 1]? = some x->Le L y x)
  (h:∀out st',Kp st st'->Fin L a b out->Q out st'):wpS (model prog w) A E s (mLo a b) Q st:=by
 have atA:∀i,i < a.size->∃x,a[i]? = some x/\U x:=fun i hi=>⟨a[i],Array.getElem?_eq_getElem hi,ua _ (by simp)⟩
 have atB:∀i,i < b.size->∃x,b[i]? = some x/\U x:=fun i hi=>⟨b[i],Array.getElem?_eq_getElem hi,ub _ (by simp)⟩
 refine Zk_ (Ca ?_)
 dsimp only
 obtain ⟨y0,e0⟩:∃y,b[0]? = some y:=⟨_,ZC (by omega)⟩
 refine Zk_ (K3 e0 ?_)
 have I0:Lo L a b #[y0] 0 1:=by
  have z:Lo L a b #[] 0 0:=⟨by simp,List.Pairwise.nil,fun x hx=>by simp at hx,fun x hx=>by simp at hx⟩
  exact Lo.pushB Sb z e0 fun x hx=>h0 x (by simpa using hx) y0 e0
 by_cases d1:(1 == b.size)=true
 ·rw [if_pos d1]
  exact wpS_pure (h _ st (Kp.refl _) (I0.done Sa Sb (.inr (by simpa using d1))))
 rw [if_neg d1]
 by_cases d2:(0 + 1 == a.size)=true
 ·rw [if_pos d2]
  exact wpS_pure (h _ st (Kp.refl _) (I0.last Sa Sb h1 (by simpa using d2)))
 rw [if_neg d2]
 have d1':1≠b.size:=by simpa using d1
 have d2':1≠a.size:=by simpa using d2
 refine Zk_ (wpS_get ?_)
 refine Zk_ (wpS_mono (wpS_forRange (I:=fun i c st'=>∃out ia ib mg,c=(none,out,ia,ib,mg)/\Kp st st'/\Lo L a b out ia ib/\ia + 1 < a.size/\ib < b.size/\i + 1<=ia + ib)
  (Q:=fun c st'=>∃r z,c=(some r,z)/\Kp st st'/\Fin L a b r) ?step ?fin ⟨#[y0],0,1,_,rfl,Kp.refl _,I0,by omega,by omega,by omega⟩) ?post)
 case fin=>
  rintro c st' ⟨out,ia,ib,mg,rfl,_,_,p1,p2,p3⟩
  omega
 case post=>
  rintro c st' ⟨r,z,rfl,K,F⟩
  exact Zl_ (h r st' K F)
 case step=>
  rintro i c st1 _ hi ⟨out,ia,ib,mg,rfl,K1,I1,p1,p2,p3⟩
  dsimp only
  refine Zk_ (wpS_mono (wpS_forRange (I:=fun j c st'=>∃out ia' ib' ac bc,c=(none,out,ia',ib',ac,bc)/\st' = st1/\Lo L a b out ia' ib'/\ia' + 1 < a.size/\ib' < b.size/\ia + ib + j<=ia' + ib')
   (Q:=fun c st'=>st' = st1/\((∃r z,c=(some r,z)/\Fin L a b r)\/∃out ia' ib' ac bc,c=(none,out,ia',ib',ac,bc)/\Lo L a b out ia' ib'/\ia' + 1 < a.size/\ib' < b.size/\ia + ib + 1<=ia' + ib')) ?step1 ?fin1 ⟨out,ia,ib,0,0,rfl,rfl,I1,p1,p2,by omega⟩) ?post1)
  case fin1=>
   rintro c st' ⟨out,ia',ib',ac,bc,rfl,rfl,I,q1,q2,q3⟩
   exact ⟨rfl,.inr ⟨out,ia',ib',ac,bc,rfl,I,q1,q2,by omega⟩⟩
  case step1=>
   rintro j c st' _ hj ⟨out,ia',ib',ac,bc,rfl,rfl,I,q1,q2,q3⟩
   dsimp only
   obtain ⟨xa,ea,uxa⟩:=atA ia' (by omega)
   obtain ⟨xb,eb,uxb⟩:=atB ib' q2
   refine Zk_ (K3 eb (Zk_ (K3 ea (Zk_ (Vx H (K1.kind.trans hk) uxb uxa ?_)))))
   cases c:L xb xa with
   | true=>
    have J:=Lo.pushB Sb I eb (up O Sa ea (Le.of_lt O c))
    refine Zk_ (K3 eb ?_)
    by_cases d:(ib' + 1 == b.size)=true
    ·rw [if_pos d]
     exact wpS_pure ⟨rfl,.inl ⟨_,_,rfl,J.done Sa Sb (.inr (by simpa using d))⟩⟩
    ·rw [if_neg d]
     have d':ib' + 1≠b.size:=by simpa using d
     split
     ·exact Zl_ ⟨rfl,.inr ⟨_,_,_,_,_,rfl,J,q1,by omega,by omega⟩⟩
     ·exact Zl_ ⟨_,_,_,_,_,rfl,rfl,J,q1,by omega,by omega⟩
   | false=>
    have J:=Lo.pushA Sa I ea (up O Sb eb c)
    refine Zk_ (K3 ea ?_)
    by_cases d:(ia' + 1 + 1 == a.size)=true
    ·rw [if_pos d]
     exact wpS_pure ⟨rfl,.inl ⟨_,_,rfl,J.last Sa Sb h1 (by simpa using d)⟩⟩
    ·rw [if_neg d]
     have d':ia' + 1 + 1≠a.size:=by simpa using d
     split
     ·exact Zl_ ⟨rfl,.inr ⟨_,_,_,_,_,rfl,J,by omega,q2,by omega⟩⟩
     ·exact Zl_ ⟨_,_,_,_,_,rfl,rfl,J,by omega,q2,by omega⟩
  case post1=>
   rintro c st' ⟨rfl,⟨r,⟨z1,z2,z3,z4,z5⟩,rfl,F⟩ | ⟨out,ia',ib',ac,bc,rfl,I2,q1,q2,q3⟩⟩
   ·exact Zl_ ⟨r,_,rfl,K1,F⟩
   ·dsimp only
    refine Zk_ (Ca ?_)
    refine Zk_ (wpS_mono (wpS_forRange (I:=fun j c st'=>∃out ja jb mg ac bc,c=(none,out,ja,jb,mg,ac,bc)/\Kp st st'/\Lo L a b out ja jb/\ja + 1 < a.size/\jb < b.size/\ia' + ib'<=ja + jb)
     (Q:=fun c st'=>Kp st st'/\((∃r z,c=(some r,z)/\Fin L a b r)\/∃out ja jb mg ac bc,c=(none,out,ja,jb,mg,ac,bc)/\Lo L a b out ja jb/\ja + 1 < a.size/\jb < b.size/\ia' + ib'<=ja + jb)) ?step2 ?fin2 ⟨out,ia',ib',_,ac,bc,rfl,K1,I2,q1,q2,Zd_ _⟩) ?post2)
    case fin2=>
     rintro c st' ⟨out,ja,jb,mg,ac,bc,rfl,K,I,r1,r2,r3⟩
     exact ⟨K,.inr ⟨out,ja,jb,mg,ac,bc,rfl,I,r1,r2,r3⟩⟩
    case post2=>
     rintro c st' ⟨K,⟨r,⟨z1,z2,z3,z4,z5,z6⟩,rfl,F⟩ | ⟨out,ja,jb,mg,ac,bc,rfl,I,r1,r2,r3⟩⟩
     ·exact Zl_ ⟨r,_,rfl,K,F⟩
     ·dsimp only
      exact Zk_ (wpS_modify (Zl_ ⟨out,ja,jb,_,rfl,⟨K.kind,K.arr,K.pend,K.failed⟩,I,r1,r2,by omega⟩))
    case step2=>
     rintro j c st' _ hj ⟨out,ja,jb,mg,ac,bc,rfl,K,I,r1,r2,r3⟩
     dsimp only
     obtain ⟨xb,eb,uxb⟩:=atB jb r2
     by_cases cg:mg > 1
     case' pos=>rw [if_pos cg]
     case' neg=>rw [if_neg cg]
     all_goals
      refine Zk_ (wpS_modify (Zk_ (K3 eb ?_)))
      refine Zk_ (Hq O H (K.kind.trans hk) uxb ua (by omega) (Dc O Sa) (by omega) fun k k1 k2 k3=>?_)
      dsimp only
      have up_b:∀y∈b.toList.drop jb,Le L xb y:=up O Sb eb (irr O xb)
      by_cases ck:k > 0
      case' pos=>
       rw [if_pos ck]
       have J:=Lo.chunkA Sa I k fun i x hi ex y hy=>(k2 i x hi ex).trans O (up_b y hy)
       by_cases d:(ja + k + 1 == a.size)=true
       ·rw [if_pos d]
        exact wpS_pure ⟨⟨K.kind,K.arr,K.pend,K.failed⟩,.inl ⟨_,_,rfl,J.last Sa Sb h1 (by simpa using d)⟩⟩
       rw [if_neg d]
       by_cases e:(ja + k == a.size)=true
       ·rw [if_pos e]
        exact wpS_pure ⟨⟨K.kind,K.arr,K.pend,K.failed⟩,.inl ⟨_,_,rfl,J.done Sa Sb (.inl (by simpa using e))⟩⟩
       rw [if_neg e]
       have f2:ja + k + 1 < a.size:=by
        have d':ja + k + 1≠a.size:=by simpa using d
        have e':ja + k≠a.size:=by simpa using e
        omega
       have g2:∀x∈a.toList.drop (ja + k),Le L xb x:=by
        obtain ⟨xx,ex,_⟩:=atA (ja + k) (by omega)
        exact up O Sa ex (Le.of_lt O (k3 k xx (Zd_ _) (by omega) ex))
       have r3':ia' + ib'<=ja + k + jb:=by omega
       clear d e k2 k3 k1
       generalize out++a.extract ja (ja + k)=out2 at J ⊢
       generalize ja + k=ja2 at J f2 g2 r3' ⊢
      case' neg=>
       rw [if_neg ck]
       have J:=I
       have f2:=r1
       have g2:∀x∈a.toList.drop ja,Le L xb x:=by
        obtain ⟨xx,ex,_⟩:=atA ja (by omega)
        exact up O Sa ex (Le.of_lt O (k3 0 xx (by omega) (by omega) ex))
       have r3':=r3
       clear k2 k3 k1
       generalize out=out2 at J ⊢
       generalize ja=ja2 at J f2 g2 r3' ⊢
      all_goals
       refine Zk_ (K3 eb ?_)
       have J2:=Lo.pushB Sb J eb g2
       clear J g2
       by_cases d:(jb + 1 == b.size)=true
       ·rw [if_pos d]
        exact wpS_pure ⟨⟨K.kind,K.arr,K.pend,K.failed⟩,.inl ⟨_,_,rfl,J2.done Sa Sb (.inr (by simpa using d))⟩⟩
       rw [if_neg d]
       have d':jb + 1≠b.size:=by simpa using d
       obtain ⟨xa,ea,uxa⟩:=atA ja2 (by omega)
       refine Zk_ (K3 ea ?_)
       refine Zk_ (Md O H (K.kind.trans hk) uxa ub (by omega) (Dc O Sb) (by omega) fun m m1 m2 m3=>?_)
       dsimp only
       have up_a:∀y∈a.toList.drop ja2,Le L xa y:=up O Sa ea (irr O xa)
       generalize out2.push xb=out3 at J2 ⊢
       by_cases cm:m > 0
       case' pos=>
        rw [if_pos cm]
        have J3:=Lo.chunkB Sb J2 m fun i y hi ey x hx=>(Le.of_lt O (m2 i y hi ey)).trans O (up_a x hx)
        by_cases d:(jb + 1 + m == b.size)=true
        ·rw [if_pos d]
         exact wpS_pure ⟨⟨K.kind,K.arr,K.pend,K.failed⟩,.inl ⟨_,_,rfl,J3.done Sa Sb (.inr (by simpa using d))⟩⟩
        rw [if_neg d]
        have f3:jb + 1 + m < b.size:=by
         have d':jb + 1 + m≠b.size:=by simpa using d
         omega
        have g3:∀y∈b.toList.drop (jb + 1 + m),Le L xa y:=by
         obtain ⟨xx,ex,_⟩:=atB (jb + 1 + m) (by omega)
         exact up O Sb ex (m3 m xx (Zd_ _) (by omega) ex)
        have r4:ia' + ib'<=ja2 + (jb + 1 + m):=by omega
        generalize out3++b.extract (jb + 1) (jb + 1 + m)=out4 at J3 ⊢
        generalize jb + 1 + m=jb2 at J3 f3 g3 r4 ⊢
       case' neg=>
        rw [if_neg cm]
        have J3:=J2
        have f3:jb + 1 < b.size:=by omega
        have g3:∀y∈b.toList.drop (jb + 1),Le L xa y:=by
         obtain ⟨xx,ex,_⟩:=atB (jb + 1) (by omega)
         exact up O Sb ex (m3 0 xx (by omega) (by omega) ex)
        have r4:ia' + ib'<=ja2 + (jb + 1):=by omega
        generalize out3=out4 at J3 ⊢
        generalize jb + 1=jb2 at J3 f3 g3 r4 ⊢
       all_goals
        refine Zk_ (K3 ea ?_)
        have J4:=Lo.pushA Sa J3 ea g3
        by_cases d:(ja2 + 1 + 1 == a.size)=true
        ·rw [if_pos d]
         exact wpS_pure ⟨⟨K.kind,K.arr,K.pend,K.failed⟩,.inl ⟨_,_,rfl,J4.last Sa Sb h1 (by simpa using d)⟩⟩
        rw [if_neg d]
        have d':ja2 + 1 + 1≠a.size:=by simpa using d
        split
        ·exact Zl_ ⟨⟨K.kind,K.arr,K.pend,K.failed⟩,.inr ⟨_,_,_,_,_,_,rfl,J4,by omega,f3,by omega⟩⟩
        ·exact Zl_ ⟨_,_,_,_,_,_,rfl,⟨K.kind,K.arr,K.pend,K.failed⟩,J4,by omega,f3,by omega⟩
end
end SR
end L2
namespace L2
open PySem PySem.W PyProof.Rows
namespace SR
section
variable {L:Keyed->Keyed->Bool} {a b out:Array Keyed} {na nb k:Nat} {x y:Keyed}
theorem dn (O:TO L) (Sa:Inc L a.toList) (h:a[na - 1]? = some x) (g:Le L x y):∀z∈a.toList.take na,Le L z y:=fun z hz=>by
 obtain ⟨j,hj,ej⟩:=P0 hz
 rw [<-R0] at h
 exact (Sa.le' O ej h (by omega)).trans O g
theorem Aau (hn:1<=na) (h:a[na - 1]? = some x):(a.toList.take na).drop (na - 1)=[x]:=by
 rw [<-R0] at h
 obtain ⟨h1,h2⟩:=Ze_.mp h
 have e:na=(na - 1) + 1:=by omega
 rw [show a.toList.take na=a.toList.take ((na - 1) + 1) by rw [<-e],List.take_add_one,h,List.drop_append_of_le_length (by rw [ZB]; omega),List.drop_eq_nil_of_le (by rw [ZB]; omega)]
 rfl
noncomputable abbrev Hi (L:Keyed->Keyed->Bool) (a b out:Array Keyed) (na nb:Nat):Prop:=HI L a.toList b.toList out.toList.reverse na nb
theorem Hi.pushA (Sa:Inc L a.toList) (I:Hi L a b out na nb) (hn:1<=na) (h:a[na - 1]? = some x) (g:∀y∈b.toList.take nb,Le L y x):Hi L a b (out.push x) (na - 1) nb:=by
 have:=HI.drop Sa I (na - 1) (by omega) (by rw [Aau hn h]; intro y hy z hz; rw [List.mem_singleton] at hz; rw [hz]; exact g y hy)
 rw [Aau hn h] at this
 show HI L a.toList b.toList (out.push x).toList.reverse _ _
 rw [Array.toList_push,List.reverse_append]
 exact this
theorem Hi.pushB (Sb:Inc L b.toList) (I:Hi L a b out na nb) (hn:1<=nb) (h:b[nb - 1]? = some y) (g:∀x∈a.toList.take na,Le L x y):Hi L a b (out.push y) na (nb - 1):=(Hi.pushA (a:=b) (b:=a) Sb I.swap hn h g).swap
theorem Hi.chunkA (Sa:Inc L a.toList) (I:Hi L a b out na nb) (at_:Nat) (h1:at_<=na) (g:∀i x,at_<=i->i < na->a[i]? = some x->∀y∈b.toList.take nb,Le L y x):Hi L a b (out++(a.extract at_ na).reverse) at_ nb:=by
 have e:(a.extract at_ na).toList=(a.toList.take na).drop at_:=by rw [U0,List.take_drop]; congr 2; omega
 have:=HI.drop Sa I at_ h1 (fun y hy x hx=>by
  obtain ⟨j,hj,ej⟩:=Z0 hx
  rw [List.getElem?_take] at ej
  split at ej
  ·rw [R0] at ej
   exact g j x hj (by assumption) ej y hy
  ·cases ej)
 show HI L a.toList b.toList (out++(a.extract at_ na).reverse).toList.reverse _ _
 rw [Array.toList_append,Array.toList_reverse,List.reverse_append,List.reverse_reverse,e]
 exact this
theorem Hi.chunkB (Sb:Inc L b.toList) (I:Hi L a b out na nb) (at_:Nat) (h1:at_<=nb) (g:∀i y,at_<=i->i < nb->b[i]? = some y->∀x∈a.toList.take na,Le L x y):Hi L a b (out++(b.extract at_ nb).reverse) na at_:=(Hi.chunkA (a:=b) (b:=a) Sb I.swap at_ h1 g).swap
theorem ex0 {a:Array Keyed} {n:Nat}:(a.extract 0 n).toList=a.toList.take n:=by rw [U0]; rfl
theorem Hi.done (Sa:Inc L a.toList) (Sb:Inc L b.toList) (I:Hi L a b out na nb) (h:na=0\/nb=0):Fin L a b (a.extract 0 na++b.extract 0 nb++out.reverse):=by
 have:=HI.fin Sa Sb I fun x hx y hy=>by
  rcases h with h | h
  ·rw [h] at hx; cases hx
  ·rw [h] at hy; cases hy
 unfold Fin
 rw [Array.toList_append,Array.toList_append,ex0,ex0,Array.toList_reverse]
 exact this
theorem Hi.first (Sa:Inc L a.toList) (Sb:Inc L b.toList) (h0:∀x∈a.toList,∀y,b[0]? = some y->Le L y x) (I:Hi L a b out na nb) (h:nb=1):Fin L a b (b.extract 0 nb++a.extract 0 na++out.reverse):=by
 have:=HI.fin Sb Sa I.swap fun y hy x hx=>by
  obtain ⟨j,hj,ej⟩:=P0 hy
  rw [R0] at ej
  exact h0 x (List.mem_of_mem_take hx) y (by rw [<-ej]; congr 1; omega)
 unfold Fin
 rw [Array.toList_append,Array.toList_append,ex0,ex0,Array.toList_reverse]
 exact ⟨this.1.trans List.perm_append_comm,this.2⟩
end
section
variable {prog:Program} {w:World} {A:Around} {E:Value->Shared->Prop} {s:Shared} {κ:SortKind} {U:Keyed->Prop} {L:Keyed->Keyed->Bool}
theorem z_ {a:Array Keyed} {i:Nat}:a[0 + i]? = a[i]?:=by rw [Nat.zero_add]
theorem Ad9 (O:TO L) (H:V3 prog w A s κ U L) {a b:Array Keyed} {Q:Array Keyed->SortSt->Prop} {st:SortSt} (hk:kindOf st=κ) (ua:∀x∈a.toList,U x) (ub:∀x∈b.toList,U x)
  (Sa:Inc L a.toList) (Sb:Inc L b.toList) (a1:1<=a.size) (b1:1<=b.size) (h0:∀x∈a.toList,∀y,b[0]? = some y->Le L y x) (h1:∀y∈b.toList,∀x,a[a.size - 1]? = some x->Le L y x)
  (h:∀out st',Kp st st'->Fin L a b out->Q out st'):wpS (model prog w) A E s (mHi a b) Q st:=by
 have atA:∀i,i < a.size->∃x,a[i]? = some x/\U x:=fun i hi=>⟨a[i],Array.getElem?_eq_getElem hi,ua _ (by simp)⟩
 have atB:∀i,i < b.size->∃x,b[i]? = some x/\U x:=fun i hi=>⟨b[i],Array.getElem?_eq_getElem hi,ub _ (by simp)⟩
 refine Zk_ (Ca ?_)
 dsimp only
 obtain ⟨x0,e0,_⟩:=atA (a.size - 1) (by omega)
 refine Zk_ (K3 e0 ?_)
 have I0:Hi L a b #[x0] (a.size - 1) b.size:=by
  have z:Hi L a b #[] a.size b.size:=⟨by simp,List.Pairwise.nil,fun x hx y hy=>by simp at hy,fun x hx y hy=>by simp at hy⟩
  exact Hi.pushA Sa z a1 e0 fun y hy=>h1 y (List.mem_of_mem_take hy) x0 e0
 by_cases d1:(a.size - 1 == 0)=true
 ·rw [if_pos d1]
  exact wpS_pure (h _ st (Kp.refl _) (I0.done Sa Sb (.inl (by simpa using d1))))
 rw [if_neg d1]
 by_cases d2:(b.size == 1)=true
 ·rw [if_pos d2]
  exact wpS_pure (h _ st (Kp.refl _) (I0.first Sa Sb h0 (by simpa using d2)))
 rw [if_neg d2]
 have d1':a.size - 1≠0:=by simpa using d1
 have d2':b.size≠1:=by simpa using d2
 refine Zk_ (wpS_get ?_)
 refine Zk_ (wpS_mono (wpS_forRange (I:=fun i c st'=>∃na nb out mg,c=(none,na,nb,out,mg)/\Kp st st'/\Hi L a b out na nb/\1<=na/\na < a.size/\2<=nb/\nb<=b.size/\i + 1<=(a.size - na) + (b.size - nb))
  (Q:=fun c st'=>∃r z,c=(some r,z)/\Kp st st'/\Fin L a b r) ?step ?fin ⟨_,_,_,_,rfl,Kp.refl _,I0,by omega,by omega,by omega,by omega,by omega⟩) ?post)
 case fin=>
  rintro c st' ⟨na,nb,out,mg,rfl,_,_,p1,p2,p3,p4,p5⟩
  omega
 case post=>
  rintro c st' ⟨r,z,rfl,K,F⟩
  exact Zl_ (h r st' K F)
 case step=>
  rintro i c st1 _ hi ⟨na,nb,out,mg,rfl,K1,I1,p1,p2,p3,p4,p5⟩
  dsimp only
  refine Zk_ (wpS_mono (wpS_forRange (I:=fun j c st'=>∃na' nb' out ac bc,c=(none,na',nb',out,ac,bc)/\st' = st1/\Hi L a b out na' nb'/\1<=na'/\na' < a.size/\2<=nb'/\nb'<=b.size/\(a.size - na) + (b.size - nb) + j<=(a.size - na') + (b.size - nb'))
   (Q:=fun c st'=>st' = st1/\((∃r z,c=(some r,z)/\Fin L a b r)\/∃na' nb' out ac bc,c=(none,na',nb',out,ac,bc)/\Hi L a b out na' nb'/\1<=na'/\na' < a.size/\2<=nb'/\nb'<=b.size/\(a.size - na) + (b.size - nb) + 1<=(a.size - na') + (b.size - nb'))) ?step1 ?fin1 ⟨na,nb,out,0,0,rfl,rfl,I1,p1,p2,p3,p4,by omega⟩) ?post1)
  case fin1=>
   rintro c st' ⟨na',nb',out,ac,bc,rfl,rfl,I,q1,q2,q3,q4,q5⟩
   exact ⟨rfl,.inr ⟨na',nb',out,ac,bc,rfl,I,q1,q2,q3,q4,by omega⟩⟩
  case step1=>
   rintro j c st' _ hj ⟨na',nb',out,ac,bc,rfl,rfl,I,q1,q2,q3,q4,q5⟩
   dsimp only
   obtain ⟨xa,ea,uxa⟩:=atA (na' - 1) (by omega)
   obtain ⟨xb,eb,uxb⟩:=atB (nb' - 1) (by omega)
   refine Zk_ (K3 eb (Zk_ (K3 ea (Zk_ (Vx H (K1.kind.trans hk) uxb uxa ?_)))))
   cases c:L xb xa with
   | true=>
    have J:=Hi.pushA Sa I q1 ea (dn O Sb eb (Le.of_lt O c))
    refine Zk_ (K3 ea ?_)
    by_cases d:(na' - 1 == 0)=true
    ·rw [if_pos d]
     exact wpS_pure ⟨rfl,.inl ⟨_,_,rfl,J.done Sa Sb (.inl (by simpa using d))⟩⟩
    ·rw [if_neg d]
     have d':na' - 1≠0:=by simpa using d
     split
     ·exact Zl_ ⟨rfl,.inr ⟨_,_,_,_,_,rfl,J,by omega,by omega,q3,q4,by omega⟩⟩
     ·exact Zl_ ⟨_,_,_,_,_,rfl,rfl,J,by omega,by omega,q3,q4,by omega⟩
   | false=>
    have J:=Hi.pushB Sb I (by omega) eb (dn O Sa ea c)
    refine Zk_ (K3 eb ?_)
    by_cases d:(nb' - 1 == 1)=true
    ·rw [if_pos d]
     exact wpS_pure ⟨rfl,.inl ⟨_,_,rfl,J.first Sa Sb h0 (by simpa using d)⟩⟩
    ·rw [if_neg d]
     have d':nb' - 1≠1:=by simpa using d
     split
     ·exact Zl_ ⟨rfl,.inr ⟨_,_,_,_,_,rfl,J,q1,q2,by omega,by omega,by omega⟩⟩
     ·exact Zl_ ⟨_,_,_,_,_,rfl,rfl,J,q1,q2,by omega,by omega,by omega⟩
  case post1=>
   rintro c st' ⟨rfl,⟨r,⟨z1,z2,z3,z4,z5⟩,rfl,F⟩ | ⟨na',nb',out,ac,bc,rfl,I2,q1,q2,q3,q4,q5⟩⟩
   ·exact Zl_ ⟨r,_,rfl,K1,F⟩
   ·dsimp only
    refine Zk_ (Ca ?_)
    refine Zk_ (wpS_mono (wpS_forRange (I:=fun j c st'=>∃ma mb out mg ac bc,c=(none,ma,mb,out,mg,ac,bc)/\Kp st st'/\Hi L a b out ma mb/\1<=ma/\ma<=na'/\2<=mb/\mb<=nb')
     (Q:=fun c st'=>Kp st st'/\((∃r z,c=(some r,z)/\Fin L a b r)\/∃ma mb out mg ac bc,c=(none,ma,mb,out,mg,ac,bc)/\Hi L a b out ma mb/\1<=ma/\ma<=na'/\2<=mb/\mb<=nb')) ?step2 ?fin2 ⟨na',nb',out,_,ac,bc,rfl,K1,I2,q1,Zd_ _,q3,Zd_ _⟩) ?post2)
    case fin2=>
     rintro c st' ⟨ma,mb,out,mg,ac,bc,rfl,K,I,r1,r2,r3,r4⟩
     exact ⟨K,.inr ⟨ma,mb,out,mg,ac,bc,rfl,I,r1,r2,r3,r4⟩⟩
    case post2=>
     rintro c st' ⟨K,⟨r,⟨z1,z2,z3,z4,z5,z6⟩,rfl,F⟩ | ⟨ma,mb,out,mg,ac,bc,rfl,I,r1,r2,r3,r4⟩⟩
     ·exact Zl_ ⟨r,_,rfl,K,F⟩
     ·dsimp only
      exact Zk_ (wpS_modify (Zl_ ⟨ma,mb,out,_,rfl,⟨K.kind,K.arr,K.pend,K.failed⟩,I,r1,by omega,r3,by omega,by omega⟩))
    case step2=>
     rintro j c st' _ hj ⟨ma,mb,out,mg,ac,bc,rfl,K,I,r1,r2,r3,r4⟩
     dsimp only
     obtain ⟨xb,eb,uxb⟩:=atB (mb - 1) (by omega)
     by_cases cg:mg > 1
     case' pos=>rw [if_pos cg]
     case' neg=>rw [if_neg cg]
     all_goals
      refine Zk_ (wpS_modify (Zk_ (K3 eb ?_)))
      refine Zk_ (Hq O H (K.kind.trans hk) uxb ua (by omega) (Dc O Sa) (by omega) fun t k1 k2 k3=>?_)
      dsimp only
      have dn_b:∀y∈b.toList.take mb,Le L y xb:=dn O Sb eb (irr O xb)
      by_cases ck:ma - t > 0
      case' pos=>
       rw [if_pos ck]
       have J:=Hi.chunkA Sa I t k1 fun i x hi1 hi2 ex y hy=>(dn_b y hy).trans O (Le.of_lt O (k3 i x hi1 hi2 (by rw [z_]; exact ex)))
       by_cases d:(t == 0)=true
       ·rw [if_pos d]
        exact wpS_pure ⟨⟨K.kind,K.arr,K.pend,K.failed⟩,.inl ⟨_,_,rfl,J.done Sa Sb (.inl (by simpa using d))⟩⟩
       rw [if_neg d]
       have f2:1<=t:=by
        have d':t≠0:=by simpa using d
        omega
       have g2:∀x∈a.toList.take t,Le L x xb:=fun x hx=>by
        obtain ⟨i,hi,ei⟩:=P0 hx
        exact k2 i x hi (by rw [z_,<-R0]; exact ei)
       have r2':t<=na':=by omega
       clear d k2 k3 k1
       generalize out++(a.extract t ma).reverse=out2 at J ⊢
       generalize t=ma2 at J f2 g2 r2' ⊢
      case' neg=>
       rw [if_neg ck]
       have J:=I
       have f2:=r1
       have g2:∀x∈a.toList.take ma,Le L x xb:=fun x hx=>by
        obtain ⟨i,hi,ei⟩:=P0 hx
        exact k2 i x (by omega) (by rw [z_,<-R0]; exact ei)
       have r2':=r2
       clear k2 k3 k1
       generalize out=out2 at J ⊢
       generalize ma=ma2 at J f2 g2 r2' ⊢
      all_goals
       refine Zk_ (K3 eb ?_)
       have J2:=Hi.pushB Sb J (by omega) eb g2
       clear J g2
       by_cases d:(mb - 1 == 1)=true
       ·rw [if_pos d]
        exact wpS_pure ⟨⟨K.kind,K.arr,K.pend,K.failed⟩,.inl ⟨_,_,rfl,J2.first Sa Sb h0 (by simpa using d)⟩⟩
       rw [if_neg d]
       have d':mb - 1≠1:=by simpa using d
       obtain ⟨xa,ea,uxa⟩:=atA (ma2 - 1) (by omega)
       refine Zk_ (K3 ea ?_)
       refine Zk_ (Md O H (K.kind.trans hk) uxa ub (by omega) (Dc O Sb) (by omega) fun m m1 m2 m3=>?_)
       dsimp only
       have dn_a:∀y∈a.toList.take ma2,Le L y xa:=dn O Sa ea (irr O xa)
       generalize out2.push xb=out3 at J2 ⊢
       by_cases cm:mb - 1 - m > 0
       case' pos=>
        rw [if_pos cm]
        have J3:=Hi.chunkB Sb J2 m m1 fun i y hi1 hi2 ey x hx=>(dn_a x hx).trans O (m3 i y hi1 hi2 (by rw [z_]; exact ey))
        by_cases d:(m == 1)=true
        ·rw [if_pos d]
         exact wpS_pure ⟨⟨K.kind,K.arr,K.pend,K.failed⟩,.inl ⟨_,_,rfl,J3.first Sa Sb h0 (by simpa using d)⟩⟩
        rw [if_neg d]
        by_cases e:(m == 0)=true
        ·rw [if_pos e]
         exact wpS_pure ⟨⟨K.kind,K.arr,K.pend,K.failed⟩,.inl ⟨_,_,rfl,J3.done Sa Sb (.inr (by simpa using e))⟩⟩
        rw [if_neg e]
        have f3:2<=m:=by
         have d':m≠1:=by simpa using d
         have e':m≠0:=by simpa using e
         omega
        have g3:∀y∈b.toList.take m,Le L y xa:=fun y hy=>by
         obtain ⟨i,hi,ei⟩:=P0 hy
         exact Le.of_lt O (m2 i y hi (by rw [z_,<-R0]; exact ei))
        have r4':m<=nb':=by omega
        clear d e m2 m3 m1
        generalize out3++(b.extract m (mb - 1)).reverse=out4 at J3 ⊢
        generalize m=mb2 at J3 f3 g3 r4' ⊢
       case' neg=>
        rw [if_neg cm]
        have J3:=J2
        have f3:2<=mb - 1:=by omega
        have g3:∀y∈b.toList.take (mb - 1),Le L y xa:=fun y hy=>by
         obtain ⟨i,hi,ei⟩:=P0 hy
         exact Le.of_lt O (m2 i y (by omega) (by rw [z_,<-R0]; exact ei))
        have r4':mb - 1<=nb':=by omega
        clear m2 m3 m1
        generalize out3=out4 at J3 ⊢
        generalize mb - 1=mb2 at J3 f3 g3 r4' ⊢
       all_goals
        refine Zk_ (K3 ea ?_)
        have J4:=Hi.pushA Sa J3 f2 ea g3
        by_cases d:(ma2 - 1 == 0)=true
        ·rw [if_pos d]
         exact wpS_pure ⟨⟨K.kind,K.arr,K.pend,K.failed⟩,.inl ⟨_,_,rfl,J4.done Sa Sb (.inl (by simpa using d))⟩⟩
        rw [if_neg d]
        have d':ma2 - 1≠0:=by simpa using d
        split
        ·exact Zl_ ⟨⟨K.kind,K.arr,K.pend,K.failed⟩,.inr ⟨_,_,_,_,_,_,rfl,J4,by omega,by omega,f3,by omega⟩⟩
        ·exact Zl_ ⟨_,_,_,_,_,_,rfl,⟨K.kind,K.arr,K.pend,K.failed⟩,J4,by omega,by omega,f3,by omega⟩
end
end SR
end L2
namespace L2
open PySem PySem.W PyProof.Rows
namespace SR
section
variable {L:Keyed->Keyed->Bool}
theorem Kf:∀(l:List Keyed) (k sa:Nat) (xs:Array Keyed),sa + k + l.length<=xs.size->((l.zipIdx k).foldl (fun a (q:Keyed × Nat)=>a.setIfInBounds (sa + q.2) q.1) xs).toList=xs.toList.take (sa + k)++l++xs.toList.drop (sa + k + l.length)
 | [],k,sa,xs,h=>by simp
 | x :: l,k,sa,xs,h=>by
  rw [ZA] at h
  rw [List.zipIdx_cons,List.foldl_cons,Kf l (k + 1) sa _ (by rw [Array.size_setIfInBounds]; omega),Array.toList_setIfInBounds]
  have e1:(xs.toList.set (sa + k) x).take (sa + (k + 1))=xs.toList.take (sa + k)++[x]:=by
   rw [<-Nat.add_assoc,List.take_add_one,List.take_set_of_le (Zd_ _),List.getElem?_set_self (by rw [Zz_]; omega)]
   rfl
  have e2:(xs.toList.set (sa + k) x).drop (sa + (k + 1) + l.length)=xs.toList.drop (sa + k + (x :: l).length):=by
   rw [List.drop_set_of_lt (by omega),ZA]
   congr 1
   omega
  rw [e1,e2,Zy_,Zy_,Zy_]
  rfl
theorem Ea (O:TO L) {ra rb mg:List Keyed} {k n:Nat} {y0 xl:Keyed} (Sa:Inc L ra) (Sb:Inc L rb) (hy:rb[0]? = some y0) (hx:ra[ra.length - 1]? = some xl)
  (c1:∀x∈ra.take k,Le L x y0) (c2:∀y∈rb.drop n,Le L xl y) (hp:mg.Perm (ra.drop k++rb.take n)) (hi:Inc L mg):(ra.take k++mg++rb.drop n).Perm (ra++rb)/\Inc L (ra.take k++mg++rb.drop n):=by
 have y_le:∀y∈rb,Le L y0 y:=fun y h=>by
  obtain ⟨j,hj⟩:=List.mem_iff_getElem?.mp h
  exact Sb.le' O hy hj (Zp_ _)
 have le_x:∀x∈ra,Le L x xl:=fun x h=>by
  obtain ⟨j,hj⟩:=List.mem_iff_getElem?.mp h
  have:=(Ze_.mp hj).1
  exact Sa.le' O hj hx (by omega)
 have sa:=List.pairwise_append.mp (show Inc L (ra.take k++ra.drop k) by rw [List.take_append_drop]; exact Sa)
 have sb:=List.pairwise_append.mp (show Inc L (rb.take n++rb.drop n) by rw [List.take_append_drop]; exact Sb)
 refine ⟨?_,List.pairwise_append.mpr ⟨List.pairwise_append.mpr ⟨sa.1,hi,fun x hx' y hy'=>?_⟩,sb.2.1,fun x hx' y hy'=>?_⟩⟩
 ·refine ((hp.append_left _).append_right _).trans ?_
  conv=>rhs; rw [<-List.take_append_drop k ra,<-List.take_append_drop n rb]
  simp only [List.append_assoc]
  exact List.Perm.refl _
 ·rcases Θa (hp.mem_iff.mp hy') with z | z
  ·exact sa.2.2 x hx' y z
  ·exact (c1 x hx').trans O (y_le y (List.mem_of_mem_take z))
 ·rcases Θa hx' with z | z
  ·exact (le_x x (List.mem_of_mem_take z)).trans O (c2 y hy')
  ·rcases Θa (hp.mem_iff.mp z) with z | z
   ·exact (le_x x (List.mem_of_mem_drop z)).trans O (c2 y hy')
   ·exact sb.2.2 x z y hy'
end
section
variable {prog:Program} {w:World} {A:Around} {E:Value->Shared->Prop} {s:Shared} {κ:SortKind} {U:Keyed->Prop} {L:Keyed->Keyed->Bool}
theorem Aeb {st1 st:SortSt} {Q:PUnit->SortSt->Prop} (h:Q ⟨⟩ st1):wpS (model prog w) A E s (set st1:StateT SortSt Sem PUnit) Q st:=by
 unfold wpS
 rw [StateT.run_set]
 exact Zb_ ⟨rfl,h⟩
theorem Rq {p:Array (Nat × Nat × Nat)} {u v z:Nat × Nat × Nat} {ps1 ps2:List (Nat × Nat × Nat)} {i:Nat} (hp:p.toList=ps1++u :: v :: ps2) (hi:i=ps1.length):((p.setIfInBounds i z).eraseIdxIfInBounds (i + 1)).toList=ps1++z :: ps2:=by
 have hs:p.size=ps1.length + (ps2.length + 2):=by rw [<-Array.length_toList,hp]; simp
 unfold Array.eraseIdxIfInBounds
 rw [dif_pos (by rw [Array.size_setIfInBounds]; omega),Array.toList_eraseIdx,Array.toList_setIfInBounds,hp,hi,List.set_append_right _ _ (Zd_ _),Nat.sub_self,List.set_cons_zero,List.eraseIdx_append_of_length_le (by omega),Nat.add_sub_cancel_left]
 rfl
theorem Ru (O:TO L) (H:V3 prog w A s κ U L) {i sa na pw sb nb pz:Nat} {ps1 ps2:List (Nat × Nat × Nat)} {P ra rb S:List Keyed} {Q:Bool->SortSt->Prop} {st:SortSt} (hk:kindOf st=κ) (hf:failedOf st=none)
  (hp:(pendingOf st).toList=ps1++(sa,na,pw) :: (sb,nb,pz) :: ps2) (hi:i=ps1.length) (ha:(arrOf st).toList=P++ra++rb++S) (ua:∀x∈(arrOf st).toList,U x)
  (e1:sa=P.length) (e2:na=ra.length) (e3:sb=P.length + ra.length) (e4:nb=rb.length) (a1:1<=ra.length) (b1:1<=rb.length) (Sa:Inc L ra) (Sb:Inc L rb)
  (h:∀(m:List Keyed) (st':SortSt),kindOf st' = κ->failedOf st' = none->(pendingOf st').toList=ps1++(sa,na + nb,pw) :: ps2->(arrOf st').toList=P++m++S->m.Perm (ra++rb)->Inc L m->Q true st'):wpS (model prog w) A E s (mergeAt' i) Q st:=by
 refine Zk_ (wpS_get ?_)
 have p1:(pendingOf st)[i]? = some (sa,na,pw):=by rw [<-Array.getElem?_toList,hp,hi,ZD (Zd_ _),Nat.sub_self]; rfl
 have p2:(pendingOf st)[i + 1]? = some (sb,nb,pz):=by rw [<-Array.getElem?_toList,hp,hi,ZD (by omega),Nat.add_sub_cancel_left]; rfl
 have hl:(arrOf st).size=P.length + ra.length + rb.length + S.length:=by rw [<-Array.length_toList,ha]; simp [Nat.add_assoc]
 have gA:∀j,j < ra.length->(arrOf st)[sa + j]? = ra[j]?:=fun j hj=>by
  rw [<-Array.getElem?_toList,ha,Zy_,Zy_,e1,ZD (by omega),Nat.add_sub_cancel_left,List.getElem?_append_left hj]
 have gB:∀j,j < rb.length->(arrOf st)[sb + j]? = rb[j]?:=fun j hj=>by
  rw [<-Array.getElem?_toList,ha,Zy_,e3,ZD (by rw [Zv_]; omega),Zv_,Nat.add_sub_cancel_left,List.getElem?_append_left hj]
 have leA:sa + na<=(arrOf st).size:=by omega
 have leB:sb + nb<=(arrOf st).size:=by omega
 have uA:∀x∈ra,U x:=fun x hx=>ua x (by rw [ha]; simp [hx])
 have uB:∀x∈rb,U x:=fun x hx=>ua x (by rw [ha]; simp [hx])
 obtain ⟨y0,ey⟩:∃y,rb[0]? = some y:=⟨_,Θh (by omega)⟩
 obtain ⟨xl,ex⟩:∃x,ra[ra.length - 1]? = some x:=⟨_,Θh (by omega)⟩
 dsimp only
 rw [p1,p2]
 dsimp only
 refine Zk_ (Aeb ?_)
 refine Zk_ (K3 (x:=y0) (by rw [<-ey,<-gB 0 (by omega)]; rfl) ?_)
 have incA:∀i j x y,i<=j->j < na->(arrOf st)[sa + i]? = some x->(arrOf st)[sa + j]? = some y->Le L x y:=fun i j x y hij hj hx hy=>by
  rw [gA i (by omega)] at hx
  rw [gA j (by omega)] at hy
  exact Sa.le' O hx hy hij
 have incB:∀i j x y,i<=j->j < nb->(arrOf st)[sb + i]? = some x->(arrOf st)[sb + j]? = some y->Le L x y:=fun i j x y hij hj hx hy=>by
  rw [gB i (by omega)] at hx
  rw [gB j (by omega)] at hy
  exact Sb.le' O hx hy hij
 refine Zk_ (Hq O H hk (uB y0 (Θe ey)) ua leA incA (by omega) fun k k1 k2 k3=>?_)
 have c1:∀x∈ra.take k,Le L x y0:=fun x hx=>by
  obtain ⟨j,hj,ej⟩:=P0 hx
  exact k2 j x hj (by rw [gA j (by omega)]; exact ej)
 have d1:∀x∈ra.drop k,Le L y0 x:=fun x hx=>by
  obtain ⟨j,hj,ej⟩:=Z0 hx
  have:=(Ze_.mp ej).1
  exact Le.of_lt O (k3 j x hj (by omega) (by rw [gA j (by omega)]; exact ej))
 dsimp only
 have pj:=Rq (z:=(sa,na + nb,pw)) hp hi
 by_cases c0:(na - k == 0)=true
 ·rw [if_pos c0]
  have c0':na - k=0:=by simpa using c0
  have ek:ra.take k=ra:=List.take_of_length_le (by omega)
  obtain ⟨q1,q2⟩:=Ea O (mg:=rb) (k:=k) (n:=rb.length) Sa Sb ey ex c1 (fun y hy=>by rw [List.drop_eq_nil_of_le (Zd_ _)] at hy; cases hy) (by rw [List.drop_eq_nil_of_le (i:=k) (by omega),List.take_of_length_le (Zd_ _)]; exact List.Perm.refl _) Sb
  rw [ek,List.drop_eq_nil_of_le (Zd_ _),List.append_nil] at q1 q2
  exact wpS_pure (h (ra++rb) _ hk hf pj (by show (arrOf st).toList=_; rw [ha]; simp only [List.append_assoc]) q1 q2)
 rw [if_neg c0]
 have c0':na - k≠0:=by simpa using c0
 refine Zk_ (K3 (x:=xl) (by rw [<-ex,<-gA _ (by omega)]; congr 1; omega) ?_)
 refine Zk_ (Md O H hk (uA xl (Θe ex)) ua leB incB (by omega) fun n n1 n2 n3=>?_)
 have c2:∀y∈rb.drop n,Le L xl y:=fun y hy=>by
  obtain ⟨j,hj,ej⟩:=Z0 hy
  have:=(Ze_.mp ej).1
  exact n3 j y hj (by omega) (by rw [gB j (by omega)]; exact ej)
 have d2:∀y∈rb.take n,Le L y xl:=fun y hy=>by
  obtain ⟨j,hj,ej⟩:=P0 hy
  exact Le.of_lt O (n2 j y hj (by rw [gB j (by omega)]; exact ej))
 dsimp only
 by_cases c3:(n == 0)=true
 ·rw [if_pos c3]
  have c3':n=0:=by simpa using c3
  subst c3'
  obtain ⟨q1,q2⟩:=Ea O (mg:=ra.drop k) (k:=k) (n:=0) Sa Sb ey ex c1 c2 (by simp) (List.Pairwise.sublist (List.drop_sublist ..) Sa)
  rw [List.take_append_drop,List.drop_zero] at q1 q2
  exact wpS_pure (h (ra++rb) _ hk hf pj (by show (arrOf st).toList=_; rw [ha]; simp only [List.append_assoc]) q1 q2)
 rw [if_neg c3]
 have c3':n≠0:=by simpa using c3
 have xA:((arrOf st).extract (sa + k) sb).toList=ra.drop k:=by
  rw [U0,ha,Zy_,Zy_,e1,<-List.drop_drop,List.drop_left,List.drop_append_of_le_length (by omega),e3,show P.length + ra.length - (P.length + k)=(ra.drop k).length by rw [List.length_drop]; omega,List.take_left]
 have xB:((arrOf st).extract sb (sb + n)).toList=rb.take n:=by
  rw [U0,ha,Zy_,e3,show P.length + ra.length=(P++ra).length by rw [Zv_],List.drop_left,Nat.add_sub_cancel_left,List.take_append_of_le_length (by omega)]
 have zA:((arrOf st).extract (sa + k) sb).size=ra.length - k:=by rw [<-Zz_,xA,List.length_drop]
 have zB:((arrOf st).extract sb (sb + n)).size=n:=by rw [<-Zz_,xB,ZB]; omega
 have key:∀(mg:Array Keyed) (st':SortSt),Kp (SortSt.mk' (kindOf st) (arrOf st) (((pendingOf st).setIfInBounds i (sa,na + nb,pw)).eraseIdxIfInBounds (i + 1)) (gallopOf st) (failedOf st)) st'->
   Fin L ((arrOf st).extract (sa + k) sb) ((arrOf st).extract sb (sb + n)) mg->
   Q true (SortSt.mk' (kindOf st') (List.foldl (fun a (x:Keyed × Nat)=>a.setIfInBounds (sa + k + x.2) x.1) (arrOf st') mg.toList.zipIdx) (pendingOf st') (gallopOf st') (failedOf st')):=fun mg st' K F=>by
  obtain ⟨f1,f2⟩:=F
  rw [xA,xB] at f1
  obtain ⟨q1,q2⟩:=Ea O (mg:=mg.toList) (k:=k) (n:=n) Sa Sb ey ex c1 c2 f1 f2
  have lm:mg.toList.length=ra.length - k + n:=by rw [f1.length_eq,Zv_,List.length_drop,ZB]; omega
  refine h _ _ (K.kind.trans hk) (K.failed.trans hf) (by show (pendingOf st').toList=_; rw [K.pend]; exact pj) ?_ q1 q2
  show (List.foldl (fun a (x:Keyed × Nat)=>a.setIfInBounds (sa + k + x.2) x.1) (arrOf st') mg.toList.zipIdx).toList=_
  rw [K.arr]
  show (List.foldl (fun a (x:Keyed × Nat)=>a.setIfInBounds (sa + k + x.2) x.1) (arrOf st) (mg.toList.zipIdx 0)).toList=_
  rw [Kf mg.toList 0 (sa + k) (arrOf st) (by omega),Nat.add_zero,lm,ha]
  have t1:(P++ra++rb++S).take (sa + k)=P++ra.take k:=by
   rw [Zy_,Zy_,e1,List.take_length_add_append,List.take_append_of_le_length (by omega)]
  have t2:(P++ra++rb++S).drop (sa + k + (ra.length - k + n))=rb.drop n++S:=by
   rw [show sa + k + (ra.length - k + n)=(P++ra).length + n by rw [Zv_]; omega,Zy_,<-List.drop_drop,List.drop_left,List.drop_append_of_le_length (by omega)]
  rw [t1,t2]
  simp only [List.append_assoc]
 have h0:∀x∈((arrOf st).extract (sa + k) sb).toList,∀y,((arrOf st).extract sb (sb + n))[0]? = some y->Le L y x:=fun x hx y hy=>by
  rw [xA] at hx
  rw [<-R0,xB,List.getElem?_take,if_pos (by omega),ey] at hy
  cases hy
  exact d1 x hx
 have h1:∀y∈((arrOf st).extract sb (sb + n)).toList,∀x,((arrOf st).extract (sa + k) sb)[((arrOf st).extract (sa + k) sb).size - 1]? = some x->Le L y x:=fun y hy x hx=>by
  rw [xB] at hy
  rw [<-R0,xA,zA,List.getElem?_drop,show k + (ra.length - k - 1)=ra.length - 1 by omega,ex] at hx
  cases hx
  exact d2 y hy
 have uX:∀x∈((arrOf st).extract (sa + k) sb).toList,U x:=fun x hx=>by rw [xA] at hx; exact uA x (List.mem_of_mem_drop hx)
 have uY:∀x∈((arrOf st).extract sb (sb + n)).toList,U x:=fun x hx=>by rw [xB] at hx; exact uB x (List.mem_of_mem_take hx)
 have sX:Inc L ((arrOf st).extract (sa + k) sb).toList:=by rw [xA]; exact List.Pairwise.sublist (List.drop_sublist ..) Sa
 have sY:Inc L ((arrOf st).extract sb (sb + n)).toList:=by rw [xB]; exact List.Pairwise.sublist (List.take_sublist ..) Sb
 have s1:1<=((arrOf st).extract (sa + k) sb).size:=by omega
 have s2:1<=((arrOf st).extract sb (sb + n)).size:=by omega
 by_cases c4:na - k<=n
 ·rw [if_pos c4]
  refine Zk_ (Aea O H hk uX uY sX sY s1 s2 h0 h1 fun out st' K F=>?_)
  refine Zk_ (wpS_modify (Zk_ (wpS_get ?_)))
  have e:(failedOf st').isNone=true:=by rw [show failedOf st' = none from K.failed.trans hf]; rfl
  refine Zl_ (?_:Q (failedOf st').isNone _)
  rw [e]
  exact key out st' K F
 ·rw [if_neg c4]
  refine Zk_ (Ad9 O H hk uX uY sX sY s1 s2 h0 h1 fun out st' K F=>?_)
  refine Zk_ (wpS_modify (Zk_ (wpS_get ?_)))
  have e:(failedOf st').isNone=true:=by rw [show failedOf st' = none from K.failed.trans hf]; rfl
  refine Zl_ (?_:Q (failedOf st').isNone _)
  rw [e]
  exact key out st' K F
end
end SR
end L2
namespace L2
open PySem PySem.W PyProof.Rows
namespace SR
section
variable {L:Keyed->Keyed->Bool} {xs:Array Keyed} {lo n q:Nat}
noncomputable def at_ (xs:Array Keyed) (k:Nat):Keyed:=(xs[k]?).getD (Value.none,Value.none)
theorem Ck {k:Nat} (h:k < xs.size):xs[k]? = some (at_ xs k):=by
 unfold at_
 rw [ZC h]
 rfl
theorem Aj {i j:Nat} (hj:j<=xs.size) (k:Nat):at_ (mirror xs i j ((j - i) / 2)) k=if i<=k/\k < j then at_ xs (i + j - 1 - k) else at_ xs k:=by
 unfold at_
 rw [getElem?_mirror_all hj]
 split <;> rfl
theorem Tc {src d:Nat} (hs:src < xs.size) (hd:d<=src) (k:Nat):at_ (bubble xs src d) k=if k=src - d then at_ xs src else if src - d < k/\k<=src then at_ xs (k - 1) else at_ xs k:=by
 unfold at_
 rw [getElem?_bubble hs d hd]
 split
 ·rfl
 ·split <;> rfl
noncomputable def Up (L:Keyed->Keyed->Bool) (xs:Array Keyed) (lo n:Nat):Prop:=∀i j,i < j->j < n->Le L (at_ xs (lo + i)) (at_ xs (lo + j))
noncomputable def Dn (L:Keyed->Keyed->Bool) (xs:Array Keyed) (lo n:Nat):Prop:=∀i j,i < j->j < n->Le L (at_ xs (lo + j)) (at_ xs (lo + i))
theorem Up.more (O:TO L) (h:Up L xs lo n) (h1:1<=n) (g:Le L (at_ xs (lo + n - 1)) (at_ xs (lo + n))):Up L xs lo (n + 1):=fun i j hij hj=>by
 by_cases c:j < n
 ·exact h i j hij c
 ·have e:j=n:=by omega
  subst e
  by_cases d:i=j - 1
  ·rw [d,show lo + (j - 1)=lo + j - 1 by omega]; exact g
  ·have:=h i (j - 1) (by omega) (by omega)
   rw [show lo + (j - 1)=lo + j - 1 by omega] at this
   exact this.trans O g
theorem Dn.more (O:TO L) (h:Dn L xs lo n) (h1:1<=n) (g:Le L (at_ xs (lo + n)) (at_ xs (lo + n - 1))):Dn L xs lo (n + 1):=fun i j hij hj=>by
 by_cases c:j < n
 ·exact h i j hij c
 ·have e:j=n:=by omega
  subst e
  by_cases d:i=j - 1
  ·rw [d,show lo + (j - 1)=lo + j - 1 by omega]; exact g
  ·have:=h i (j - 1) (by omega) (by omega)
   rw [show lo + (j - 1)=lo + j - 1 by omega] at this
   exact g.trans O this
structure DI (L:Keyed->Keyed->Bool) (xs:Array Keyed) (lo n q:Nat):Prop where
 q1:q + 1<=n
 dn:Dn L xs lo n
 eq:∀i j,n - (q + 1)<=i->i < n->n - (q + 1)<=j->j < n->Le L (at_ xs (lo + i)) (at_ xs (lo + j))
theorem DI.one (O:TO L) (h1:1<=n) (h:Dn L xs lo n):DI L xs lo n 0:=⟨by omega,h,fun i j a b c d=>by
 have:i=j:=by omega
 rw [this]; exact irr O _⟩
theorem DI.rev (O:TO L) (D:DI L xs lo n q) (hs:lo + n<=xs.size):Dn L (mirror xs (lo + n - (q + 1)) (lo + n) ((lo + n - (lo + n - (q + 1))) / 2)) lo n/\Le L (at_ xs (lo + n - 1)) (at_ (mirror xs (lo + n - (q + 1)) (lo + n) ((lo + n - (lo + n - (q + 1))) / 2)) (lo + n - 1)):=by
 have q1:=D.q1
 have inn:∀i,n - (q + 1)<=i->i < n->∃i',n - (q + 1)<=i'/\i' < n/\at_ (mirror xs (lo + n - (q + 1)) (lo + n) ((lo + n - (lo + n - (q + 1))) / 2)) (lo + i)=at_ xs (lo + i'):=fun i h1 h2=>⟨n - (q + 1) + n - 1 - i,by omega,by omega,by rw [Aj hs,if_pos (by omega)]; congr 1; omega⟩
 have out:∀i,i < n - (q + 1)->at_ (mirror xs (lo + n - (q + 1)) (lo + n) ((lo + n - (lo + n - (q + 1))) / 2)) (lo + i)=at_ xs (lo + i):=fun i h=>by rw [Aj hs,if_neg (by omega)]
 refine ⟨fun i j hij hj=>?_,?_⟩
 ·by_cases cj:j < n - (q + 1)
  ·rw [out i (by omega),out j cj]
   exact D.dn i j hij hj
  ·obtain ⟨j',j1,j2,ej⟩:=inn j (by omega) hj
   rw [ej]
   by_cases ci:i < n - (q + 1)
   ·rw [out i ci]
    exact D.dn i j' (by omega) j2
   ·obtain ⟨i',i1,i2,ei⟩:=inn i (by omega) (by omega)
    rw [ei]
    exact D.eq j' i' j1 j2 i1 i2
 ·obtain ⟨i',i1,i2,ei⟩:=inn (n - 1) (by omega) (by omega)
  rw [show lo + n - 1=lo + (n - 1) by omega,ei]
  exact D.eq (n - 1) i' (by omega) (by omega) i1 i2
theorem Dn.turn (D:Dn L xs lo n) (hs:lo + n<=xs.size):Up L (mirror xs lo (lo + n) ((lo + n - lo) / 2)) lo n:=fun i j hij hj=>by
 rw [Aj hs,Aj hs,if_pos (by omega),if_pos (by omega)]
 have:=D (n - 1 - j) (n - 1 - i) (by omega) (by omega)
 rw [show lo + (n - 1 - j)=lo + (lo + n) - 1 - (lo + j) by omega,show lo + (n - 1 - i)=lo + (lo + n) - 1 - (lo + i) by omega] at this
 exact this
theorem Up.same (O:TO L) (h:Up L xs lo n) (h1:1<=n) (g:Le L (at_ xs (lo + n - 1)) (at_ xs lo)):∀i j,i < n->j < n->Le L (at_ xs (lo + i)) (at_ xs (lo + j)):=fun i j hi hj=>by
 have top:Le L (at_ xs (lo + i)) (at_ xs (lo + n - 1)):=by
  by_cases c:i=n - 1
  ·rw [c,show lo + (n - 1)=lo + n - 1 by omega]; exact irr O _
  ·have:=h i (n - 1) (by omega) (by omega)
   rwa [show lo + (n - 1)=lo + n - 1 by omega] at this
 have low:Le L (at_ xs lo) (at_ xs (lo + j)):=by
  by_cases c:j=0
  ·rw [c]; exact irr O _
  ·exact h 0 j (by omega) hj
 exact (top.trans O g).trans O low
theorem Dn.of_same (hs:lo + n<=xs.size) (h:∀i j,i < n->j < n->Le L (at_ xs (lo + i)) (at_ xs (lo + j))):(∀i j,i < n->j < n->Le L (at_ xs (lo + j)) (at_ (mirror xs lo (lo + n) ((lo + n - lo) / 2)) (lo + i)))/\Dn L (mirror xs lo (lo + n) ((lo + n - lo) / 2)) lo n:=by
 have e:∀i,i < n->∃i',i' < n/\at_ (mirror xs lo (lo + n) ((lo + n - lo) / 2)) (lo + i)=at_ xs (lo + i'):=fun i hi=>⟨n - 1 - i,by omega,by rw [Aj hs,if_pos (by omega)]; congr 1; omega⟩
 refine ⟨fun i j hi hj=>?_,fun i j hij hj=>?_⟩
 ·obtain ⟨i',h1,e1⟩:=e i hi
  rw [e1]; exact h j i' hj h1
 ·obtain ⟨i',h1,e1⟩:=e i (by omega)
  obtain ⟨j',h2,e2⟩:=e j hj
  rw [e1,e2]; exact h j' i' h2 h1
end
section
variable {prog:Program} {w:World} {A:Around} {E:Value->Shared->Prop} {s:Shared} {κ:SortKind} {U:Keyed->Prop} {L:Keyed->Keyed->Bool} {lo:Nat} {st0 st:SortSt}
structure Sg (κ:SortKind) (lo:Nat) (st0 st:SortSt):Prop where
 kind:kindOf st=κ
 failed:failedOf st=none
 pend:pendingOf st=pendingOf st0
 perm:(arrOf st).Perm (arrOf st0)
 pre:∀k,k < lo->(arrOf st)[k]? = (arrOf st0)[k]?
theorem Sg.size (G:Sg κ lo st0 st):(arrOf st).size=(arrOf st0).size:=G.perm.size_eq
theorem Sg.mir (G:Sg κ lo st0 st) {i j:Nat} (hi:lo<=i) (hj:j<=(arrOf st).size):Sg κ lo st0 (setArr st (mirror (arrOf st) i j ((j - i) / 2))):=
 ⟨G.kind,G.failed,G.pend,(mirror_perm ..).trans G.perm,fun k hk=>by
  show (mirror (arrOf st) i j ((j - i) / 2))[k]? = _
  rw [getElem?_mirror_all hj,if_neg (by omega)]
  exact G.pre k hk⟩
theorem Ou {i j:Nat} {Q:Unit->SortSt->Prop} (h:Q () (setArr st (mirror (arrOf st) i j ((j - i) / 2)))):wpS (model prog w) A E s (reverseSlice' i j) Q st:=by
 rw [reverseSlice'_eq]
 exact wpS_modify h
theorem Acr {i j:Nat} {Q:Unit->SortSt->Prop} (h:Q () (setArr st (bubble (arrOf st) i (i - j)))):wpS (model prog w) A E s (moveDown' i j) Q st:=by
 rw [moveDown'_eq]
 exact wpS_modify h
theorem Sg.u (G:Sg κ lo st0 st) (u0:∀x∈(arrOf st0).toList,U x) {k:Nat} (h:k < (arrOf st).size):U (at_ (arrOf st) k):=by
 have:=Ck h
 exact u0 _ ((Array.perm_iff_toList_perm.mp G.perm).mem_iff.mp (by rw [<-Array.getElem?_toList] at this; exact Θe this))
theorem Bz (H:V3 prog w A s κ U L) (u0:∀x∈(arrOf st0).toList,U x) (G:Sg κ lo st0 st) {i j:Nat} {Q:Option Bool->SortSt->Prop} (hi:i < (arrOf st).size) (hj:j < (arrOf st).size) (h:Q (some (L (at_ (arrOf st) i) (at_ (arrOf st) j))) st):wpS (model prog w) A E s (ltAt' i j) Q st:=by
 rw [ltAt'_eq]
 refine Zk_ (wpS_get (Zk_ (K3 (Ck hi) (Zk_ (K3 (Ck hj) ?_)))))
 exact Vx H G.kind (G.u u0 hi) (G.u u0 hj) h
theorem Zq (O:TO L) (H:V3 prog w A s κ U L) (u0:∀x∈(arrOf st0).toList,U x) {nrem:Nat} {Q:Option Nat->SortSt->Prop} (G:Sg κ lo st0 st) (h1:1<=nrem) (hn:lo + nrem=(arrOf st0).size)
  (h:∀n st',1<=n->n<=nrem->Sg κ lo st0 st'->Up L (arrOf st') lo n->Q (some n) st'):wpS (model prog w) A E s (countRun' lo nrem) Q st:=by
 refine Zk_ (wpS_mono (wpS_forRange (I:=fun i c st'=>c=(none,i)/\st' = st/\Up L (arrOf st) lo i)
  (Q:=fun c st'=>st' = st/\∃n,c=(none,n)/\1<=n/\n<=nrem/\Up L (arrOf st) lo n/\(n=nrem\/L (at_ (arrOf st) (lo + n)) (at_ (arrOf st) (lo + n - 1))=true)) ?_ ?_ ⟨rfl,rfl,fun i j a b=>by omega⟩) ?_)
 ·rintro i c st' h1' h2' ⟨rfl,rfl,up⟩
  refine Zk_ (Bz H u0 G (by rw [G.size]; omega) (by rw [G.size]; omega) ?_)
  cases c:L (at_ (arrOf st') (lo + i)) (at_ (arrOf st') (lo + i - 1)) with
  | true=>exact Zl_ ⟨rfl,i,rfl,h1',by omega,up,.inr c⟩
  | false=>exact Zl_ ⟨rfl,rfl,up.more O h1' c⟩
 ·rintro c st' ⟨rfl,rfl,up⟩
  rw [Nat.max_eq_right h1] at up ⊢
  exact ⟨rfl,nrem,rfl,h1,Zd_ _,up,.inl rfl⟩
 ·rintro c st' ⟨rfl,n,rfl,n1,n2,up,n3⟩
  dsimp only
  by_cases c0:(n == nrem)=true
  ·rw [if_pos c0]
   exact Zl_ (h n st' n1 n2 G up)
  rw [if_neg c0]
  have c0':n≠nrem:=by simpa using c0
  have sm:L (at_ (arrOf st') (lo + n)) (at_ (arrOf st') (lo + n - 1))=true:=n3.resolve_left c0'
  have z0:=G.size
  by_cases c1:n > 1
  case' pos=>
   rw [if_pos c1]
   refine Zk_ (Bz H u0 G (by omega) (by omega) ?_)
   dsimp only
   by_cases c2:L (at_ (arrOf st') lo) (at_ (arrOf st') (lo + n - 1))=true
   ·rw [if_pos c2]
    exact Zl_ (h n st' n1 n2 G up)
   rw [if_neg c2]
   refine Zk_ (Ou ?_)
   have G2:=G.mir (i:=lo) (j:=lo + n) (Zd_ _) (by omega)
   have sa:=up.same O n1 (Bool.eq_false_iff.mpr c2)
   have D:DI L (arrOf (setArr st' (mirror (arrOf st') lo (lo + n) ((lo + n - lo) / 2)))) lo (n + 1) 0:=by
    obtain ⟨s1,s2⟩:=Dn.of_same (xs:=arrOf st') (lo:=lo) (n:=n) (by omega) sa
    refine DI.one O (by omega) (s2.more O n1 ?_)
    have e1:at_ (mirror (arrOf st') lo (lo + n) ((lo + n - lo) / 2)) (lo + n)=at_ (arrOf st') (lo + n):=by rw [Aj (by omega),if_neg (by omega)]
    rw [e1]
    have:=s1 (n - 1) (n - 1) (by omega) (by omega)
    rw [show lo + (n - 1)=lo + n - 1 by omega] at this
    exact (Le.of_lt O sm).trans O this
   clear sa c2 sm up G n3 c0 c1
   generalize setArr st' (mirror (arrOf st') lo (lo + n) ((lo + n - lo) / 2))=st2 at G2 D ⊢
  case' neg=>
   rw [if_neg c1]
   have G2:=G
   have D:DI L (arrOf st') lo (n + 1) 0:=DI.one O (by omega) (Dn.more O (fun i j a b=>by omega) n1 (Le.of_lt O sm))
   clear sm up G n3 c0 c1
   generalize st' = st2 at G2 D ⊢
  all_goals
   refine Zk_ (Ca ?_)
   refine Zk_ (wpS_mono (wpS_forRange (I:=fun i c st3=>∃q,c=(none,i,q)/\Sg κ lo st0 st3/\DI L (arrOf st3) lo i q)
    (Q:=fun c st3=>∃m q,c=(none,m,q)/\Sg κ lo st0 st3/\DI L (arrOf st3) lo m q/\m<=nrem) ?step ?fin ⟨0,rfl,G2,D⟩) ?post)
   case fin=>
    rintro c st3 ⟨q,rfl,G3,D3⟩
    rw [Nat.max_eq_right (by omega)] at D3 ⊢
    exact ⟨nrem,q,rfl,G3,D3,Zd_ _⟩
   case step=>
    rintro i c st3 i1 i2 ⟨q,rfl,G3,D3⟩
    dsimp only
    have z3:=G3.size
    have q1:=D3.q1
    refine Zk_ (Bz H u0 G3 (by omega) (by omega) ?_)
    cases c3:L (at_ (arrOf st3) (lo + i)) (at_ (arrOf st3) (lo + i - 1)) with
    | true=>
     dsimp only
     rw [if_pos rfl]
     by_cases c4:q > 0
     ·rw [if_pos c4]
      refine Zk_ (Ou (Zl_ ⟨0,rfl,G3.mir (by omega) (by omega),DI.one O (by omega) ?_⟩))
      obtain ⟨s1,s2⟩:=D3.rev O (by omega)
      refine s1.more O (by omega) ?_
      have e1:at_ (mirror (arrOf st3) (lo + i - (q + 1)) (lo + i) ((lo + i - (lo + i - (q + 1))) / 2)) (lo + i)=at_ (arrOf st3) (lo + i):=by rw [Aj (by omega),if_neg (by omega)]
      rw [e1]
      exact (Le.of_lt O c3).trans O s2
     ·rw [if_neg c4]
      exact Zl_ ⟨0,rfl,G3,DI.one O (by omega) (D3.dn.more O (by omega) (Le.of_lt O c3))⟩
    | false=>
     dsimp only
     rw [if_neg Zf_]
     refine Zk_ (Bz H u0 G3 (by omega) (by omega) ?_)
     cases c4:L (at_ (arrOf st3) (lo + i - 1)) (at_ (arrOf st3) (lo + i)) with
     | true=>exact Zl_ ⟨i,q,rfl,G3,D3,by omega⟩
     | false=>
      refine Zl_ ⟨q + 1,rfl,G3,by omega,D3.dn.more O (by omega) c4,fun a b a1 a2 b1 b2=>?_⟩
      have lst:∀a,i - (q + 1)<=a->a < i->Le L (at_ (arrOf st3) (lo + a)) (at_ (arrOf st3) (lo + i))/\Le L (at_ (arrOf st3) (lo + i)) (at_ (arrOf st3) (lo + a)):=fun a x1 x2=>by
       have e1:=D3.eq a (i - 1) x1 x2 (by omega) (by omega)
       have e2:=D3.eq (i - 1) a (by omega) (by omega) x1 x2
       rw [show lo + (i - 1)=lo + i - 1 by omega] at e1 e2
       exact ⟨e1.trans O c3,Le.trans O c4 e2⟩
      by_cases ca:a=i
      ·by_cases cb:b=i
       ·rw [ca,cb]; exact irr O _
       ·rw [ca]; exact (lst b (by omega) (by omega)).2
      ·by_cases cb:b=i
       ·rw [cb]; exact (lst a (by omega) (by omega)).1
       ·exact D3.eq a b (by omega) (by omega) (by omega) (by omega)
   case post=>
    rintro c st3 ⟨m,q,rfl,G3,D3,m1⟩
    dsimp only
    have z3:=G3.size
    have q1:=D3.q1
    by_cases c4:q > 0
    case' pos=>
     rw [if_pos c4]
     refine Zk_ (Ou ?_)
     have G4:=G3.mir (i:=lo + m - (q + 1)) (j:=lo + m) (by omega) (by omega)
     have D4:Dn L (arrOf (setArr st3 (mirror (arrOf st3) (lo + m - (q + 1)) (lo + m) ((lo + m - (lo + m - (q + 1))) / 2)))) lo m:=(D3.rev O (by omega)).1
     clear D3 G3 z3
     generalize setArr st3 (mirror (arrOf st3) (lo + m - (q + 1)) (lo + m) ((lo + m - (lo + m - (q + 1))) / 2))=st4 at G4 D4 ⊢
    case' neg=>
     rw [if_neg c4]
     have G4:=G3
     have D4:=D3.dn
     clear D3 G3 z3
     generalize st3=st4 at G4 D4 ⊢
    all_goals
     have z4:=G4.size
     refine Zk_ (Ou ?_)
     have G5:=G4.mir (i:=lo) (j:=lo + m) (Zd_ _) (by omega)
     have U5:Up L (arrOf (setArr st4 (mirror (arrOf st4) lo (lo + m) ((lo + m - lo) / 2)))) lo m:=D4.turn (by omega)
     clear D4 G4 z4
     generalize setArr st4 (mirror (arrOf st4) lo (lo + m) ((lo + m - lo) / 2))=st5 at G5 U5 ⊢
     have z5:=G5.size
     refine Zk_ (wpS_mono (wpS_forRange (I:=fun i c st'=>c=(none,i)/\st' = st5/\Up L (arrOf st5) lo i)
      (Q:=fun c st'=>st' = st5/\∃n,c=(none,n)/\1<=n/\n<=nrem/\Up L (arrOf st5) lo n) ?_ ?_ ⟨rfl,rfl,U5⟩) ?_)
     ·rintro i c st' h1' h2' ⟨rfl,rfl,up⟩
      refine wpS_bind (Bz H u0 G5 (by dsimp only; omega) (by dsimp only; omega) ?_)
      cases c:L (at_ (arrOf st') (lo + i)) (at_ (arrOf st') (lo + i - 1)) with
      | true=>exact Zl_ ⟨rfl,i,rfl,by omega,by omega,up⟩
      | false=>exact Zl_ ⟨rfl,rfl,up.more O (by omega) c⟩
     ·rintro c st' ⟨rfl,rfl,up⟩
      rw [Nat.max_eq_right m1] at up ⊢
      exact ⟨rfl,nrem,rfl,h1,Zd_ _,up⟩
     ·rintro c st' ⟨rfl,n,rfl,n1,n2,up⟩
      exact Zl_ (h n st' n1 n2 G5 up)
theorem Ad8 (O:TO L) (H:V3 prog w A s κ U L) (u0:∀x∈(arrOf st0).toList,U x) {n ok:Nat} {Q:Bool->SortSt->Prop} (G:Sg κ lo st0 st) (h1:1<=ok) (h2:ok<=n) (hn:lo + n<=(arrOf st0).size) (up:Up L (arrOf st) lo ok)
  (h:∀st',Sg κ lo st0 st'->Up L (arrOf st') lo n->Q true st'):wpS (model prog w) A E s (binarySort' lo n ok) Q st:=by
 refine Zk_ (wpS_mono (wpS_forRange (I:=fun k c st'=>c=(none,())/\Sg κ lo st0 st'/\Up L (arrOf st') lo k)
  (Q:=fun c st'=>c=(none,())/\Sg κ lo st0 st'/\Up L (arrOf st') lo n) ?_ ?_ ⟨rfl,G,by rw [Nat.max_eq_left h1]; exact up⟩) ?_)
 ·rintro k c st' k1 k2 ⟨rfl,G1,U1⟩
  have z1:=G1.size
  refine Zk_ (wpS_mono (wpS_forRange (I:=fun i c st2=>∃l r,c=(none,l,r)/\st2=st'/\l<=r/\r<=k/\r - l + i<=k/\(∀i,i < l->Le L (at_ (arrOf st') (lo + i)) (at_ (arrOf st') (lo + k)))/\∀i,r<=i->i < k->Le L (at_ (arrOf st') (lo + k)) (at_ (arrOf st') (lo + i)))
   (Q:=fun c st2=>∃l,c=(none,l,l)/\st2=st'/\l<=k/\(∀i,i < l->Le L (at_ (arrOf st') (lo + i)) (at_ (arrOf st') (lo + k)))/\∀i,l<=i->i < k->Le L (at_ (arrOf st') (lo + k)) (at_ (arrOf st') (lo + i))) ?_ ?_ ⟨0,k,rfl,rfl,by omega,by omega,by omega,fun i a=>by omega,fun i a b=>by omega⟩) ?_)
  ·rintro i c st2 _ i2 ⟨l,r,rfl,rfl,a1,a2,a3,a4,a5⟩
   dsimp only
   by_cases c0:l ≥ r
   ·rw [if_pos c0]
    have:l=r:=by omega
    subst this
    exact Zl_ ⟨l,rfl,rfl,a2,a4,a5⟩
   ·rw [if_neg c0]
    refine Zk_ (Bz H u0 G1 (by omega) (by omega) ?_)
    cases c1:L (at_ (arrOf st2) (lo + k)) (at_ (arrOf st2) (lo + (l + r) / 2)) with
    | true=>
     refine Zl_ ⟨l,(l + r) / 2,rfl,rfl,by omega,by omega,by omega,a4,fun i b1 b2=>?_⟩
     by_cases e:i=(l + r) / 2
     ·rw [e]; exact Le.of_lt O c1
     ·exact (Le.of_lt O c1).trans O (U1 _ i (by omega) b2)
    | false=>
     refine Zl_ ⟨(l + r) / 2 + 1,r,rfl,rfl,by omega,by omega,by omega,fun i b1=>?_,a5⟩
     by_cases e:i=(l + r) / 2
     ·rw [e]; exact c1
     ·exact (U1 i ((l + r) / 2) (by omega) (by omega)).trans O c1
  ·rintro c st2 ⟨l,r,rfl,rfl,a1,a2,a3,a4,a5⟩
   have:l=r:=by omega
   subst this
   exact ⟨l,rfl,rfl,a2,a4,a5⟩
  ·rintro c st2 ⟨l,rfl,rfl,a2,a4,a5⟩
   have hs:lo + k < (arrOf st2).size:=by omega
   have ed:lo + k - (lo + k - (lo + l))=lo + l:=by omega
   refine Zk_ (Acr (Zl_ ⟨rfl,⟨G1.kind,G1.failed,G1.pend,(bubble_perm ..).trans G1.perm,fun j hj=>?_⟩,fun i j hij hj=>?_⟩))
   ·show (bubble (arrOf st2) (lo + k) (lo + k - (lo + l)))[j]? = _
    rw [getElem?_bubble hs _ (by omega),if_neg (by omega),if_neg (by omega)]
    exact G1.pre j hj
   ·show Le L (at_ (bubble (arrOf st2) (lo + k) (lo + k - (lo + l))) (lo + i)) (at_ (bubble (arrOf st2) (lo + k) (lo + k - (lo + l))) (lo + j))
    rw [Tc hs (by omega),Tc hs (by omega),ed]
    by_cases b1:j=l
    ·rw [if_neg (by omega),if_neg (by omega),if_pos (by omega)]
     exact a4 i (by omega)
    ·rw [if_neg (c:=lo + j=lo + l) (by omega)]
     by_cases b2:j < l
     ·rw [if_neg (by omega),if_neg (by omega),if_neg (by omega)]
      exact U1 i j hij (by omega)
     ·rw [if_pos (c:=lo + l < lo + j/\lo + j<=lo + k) (by omega)]
      by_cases b3:i=l
      ·rw [if_pos (by omega),show lo + j - 1=lo + (j - 1) by omega]
       exact a5 (j - 1) (by omega) (by omega)
      ·rw [if_neg (by omega)]
       by_cases b4:i < l
       ·rw [if_neg (by omega),show lo + j - 1=lo + (j - 1) by omega]
        by_cases b5:i=j - 1
        ·omega
        ·exact U1 i (j - 1) (by omega) (by omega)
       ·rw [if_pos (by omega),show lo + j - 1=lo + (j - 1) by omega,show lo + i - 1=lo + (i - 1) by omega]
        exact U1 (i - 1) (j - 1) (by omega) (by omega)
 ·rintro c st' ⟨rfl,G1,U1⟩
  rw [Nat.max_eq_right (by rw [Nat.max_eq_left h1]; exact h2)] at U1
  exact ⟨rfl,G1,U1⟩
 ·rintro c st' ⟨rfl,G1,U1⟩
  exact Zl_ (h st' G1 U1)
end
end SR
end L2
namespace L2
open PySem PySem.W PyProof.Rows
namespace SR
section
variable {L:Keyed->Keyed->Bool}
noncomputable def Runs (L:Keyed->Keyed->Bool):Nat->List (Nat × Nat × Nat)->List (List Keyed)->Prop
 | _,[],[]=>True
 | o,p :: ps,r :: rs=>p.1=o/\p.2.1=r.length/\1<=r.length/\Inc L r/\Runs L (o + r.length) ps rs
 | _,_,_=>False
theorem Runs.len:∀{o:Nat} {ps:List (Nat × Nat × Nat)} {rs:List (List Keyed)},Runs L o ps rs->ps.length=rs.length/\rs.length<=rs.flatten.length
 | _,[],[],_=>⟨rfl,Zd_ _⟩
 | _,p :: ps,r :: rs,h=>by
  obtain ⟨_,_,h3,_,h5⟩:=h
  obtain ⟨e1,e2⟩:=h5.len
  rw [ZA,ZA,e1,List.flatten_cons,Zv_]
  exact ⟨rfl,by omega⟩
 | _,[],_ :: _,h=>h.elim
 | _,_ :: _,[],h=>h.elim
theorem Runs.push:∀{o:Nat} {ps:List (Nat × Nat × Nat)} {rs:List (List Keyed)} {r:List Keyed} {z:Nat},Runs L o ps rs->1<=r.length->Inc L r->Runs L o (ps++[(o + rs.flatten.length,r.length,z)]) (rs++[r])
 | o,[],[],r,z,_,h1,h2=>⟨by simp,rfl,h1,h2,trivial⟩
 | o,p :: ps,q :: rs,r,z,h,h1,h2=>by
  obtain ⟨a1,a2,a3,a4,a5⟩:=h
  have:=a5.push (z:=z) h1 h2
  refine ⟨a1,a2,a3,a4,?_⟩
  show Runs L (o + q.length) (ps++_) (rs++[r])
  rw [List.flatten_cons,Zv_,<-Nat.add_assoc]
  exact this
 | _,[],_ :: _,_,_,h,_,_=>h.elim
 | _,_ :: _,[],_,_,h,_,_=>h.elim
theorem Runs.alike:∀{o:Nat} {ps ps':List (Nat × Nat × Nat)} {rs:List (List Keyed)},Runs L o ps rs->ps'.map (fun p=>(p.1,p.2.1))=ps.map (fun p=>(p.1,p.2.1))->Runs L o ps' rs
 | _,[],[],[],_,_=>trivial
 | o,p :: ps,p' :: ps',r :: rs,h,e=>by
  obtain ⟨a1,a2,a3,a4,a5⟩:=h
  rw [List.map_cons,List.map_cons] at e
  injection e with e1 e2
  injection e1 with e3 e4
  exact ⟨e3.trans a1,e4.trans a2,a3,a4,a5.alike e2⟩
 | _,p :: ps,[],_,_,e=>by simp at e
 | _,[],p' :: ps',_,_,e=>by simp at e
 | _,[],_,_ :: _,h,_=>h.elim
 | _,_ :: _,_,[],h,_=>h.elim
theorem Runs.cut:∀{i o:Nat} {ps:List (Nat × Nat × Nat)} {rs:List (List Keyed)},Runs L o ps rs->i + 1 < ps.length->∃ps1 u v ps2 rs1 ra rb rs2,ps=ps1++u :: v :: ps2/\i=ps1.length/\rs=rs1++ra :: rb :: rs2/\u.1=o + rs1.flatten.length/\u.2.1=ra.length/\v.1=o + rs1.flatten.length + ra.length/\v.2.1=rb.length/\1<=ra.length/\1<=rb.length/\Inc L ra/\Inc L rb/\
  ∀m:List Keyed,m.length=ra.length + rb.length->Inc L m->Runs L o (ps1++(u.1,u.2.1 + v.2.1,u.2.2) :: ps2) (rs1++m :: rs2)
 | 0,o,u :: v :: ps,ra :: rb :: rs,h,_=>by
  obtain ⟨a1,a2,a3,a4,b1,b2,b3,b4,b5⟩:=h
  refine ⟨[],u,v,ps,[],ra,rb,rs,rfl,rfl,rfl,by simpa using a1,a2,by simpa using b1,b2,a3,b3,a4,b4,fun m e hm=>⟨a1,by rw [e,a2,b2],by omega,hm,?_⟩⟩
  rw [e,<-Nat.add_assoc]
  exact b5
 | i + 1,o,p :: ps,r :: rs,h,hi=>by
  obtain ⟨a1,a2,a3,a4,a5⟩:=h
  obtain ⟨ps1,u,v,ps2,rs1,ra,rb,rs2,e1,e2,e3,c1,c2,c3,c4,c5,c6,c7,c8,c9⟩:=a5.cut (i:=i) (by rw [ZA] at hi; omega)
  refine ⟨p :: ps1,u,v,ps2,r :: rs1,ra,rb,rs2,by rw [e1]; rfl,by rw [ZA,e2],by rw [e3]; rfl,?_,c2,?_,c4,c5,c6,c7,c8,fun m e hm=>⟨a1,a2,a3,a4,c9 m e hm⟩⟩
  ·rw [c1,List.flatten_cons,Zv_,Nat.add_assoc]
  ·rw [c3,List.flatten_cons,Zv_,Nat.add_assoc o]
 | _,_,[],_,_,hi=>by simp at hi
 | 0,_,[_],_,_,hi=>by simp at hi
 | 0,_,_ :: _ :: _,[],h,_=>h.elim
 | 0,_,_ :: _ :: _,[_],h,_=>h.2.2.2.2.elim
 | _ + 1,_,_ :: _,[],h,_=>h.elim
end
section
variable {prog:Program} {w:World} {A:Around} {E:Value->Shared->Prop} {s:Shared} {κ:SortKind} {U:Keyed->Prop} {L:Keyed->Keyed->Bool} {a₀:Array Keyed} {R:List Keyed} {st:SortSt}
structure St (L:Keyed->Keyed->Bool) (κ:SortKind) (a₀:Array Keyed) (R:List Keyed) (st:SortSt):Prop where
 kind:kindOf st=κ
 failed:failedOf st=none
 perm:(arrOf st).Perm a₀
 ex:∃rs,(arrOf st).toList=rs.flatten++R/\Runs L 0 (pendingOf st).toList rs
theorem St.u (S:St L κ a₀ R st) (u0:∀x∈a₀.toList,U x):∀x∈(arrOf st).toList,U x:=fun x hx=>u0 x ((Array.perm_iff_toList_perm.mp S.perm).mem_iff.mp hx)
theorem Vw (O:TO L) (H:V3 prog w A s κ U L) (u0:∀x∈a₀.toList,U x) (S:St L κ a₀ R st) {i:Nat} (hi:i + 1 < (pendingOf st).size) {Q:Bool->SortSt->Prop}
  (h:∀st',St L κ a₀ R st'->(pendingOf st').size + 1=(pendingOf st).size->Q true st'):wpS (model prog w) A E s (mergeAt' i) Q st:=by
 obtain ⟨rs,e,r⟩:=S.ex
 obtain ⟨ps1,⟨sa,na,pw⟩,⟨sb,nb,pz⟩,ps2,rs1,ra,rb,rs2,e1,e2,e3,c1,c2,c3,c4,c5,c6,c7,c8,c9⟩:=r.cut (i:=i) (by rw [Zz_]; exact hi)
 rw [Nat.zero_add] at c1 c3
 refine Ru O H S.kind S.failed e1 e2 (P:=rs1.flatten) (ra:=ra) (rb:=rb) (S:=rs2.flatten++R) (by rw [e,e3]; simp) (S.u u0) c1 c2 c3 c4 c5 c6 c7 c8 fun m st' k1 k2 k3 k4 k5 k6=>h st' ⟨k1,k2,?_,?_⟩ ?_
 ·refine (Array.perm_iff_toList_perm.mpr ?_).trans S.perm
  rw [k4,e,e3]
  simp only [List.flatten_append,List.flatten_cons,List.append_assoc]
  have:(m++(rs2.flatten++R)).Perm (ra++(rb++(rs2.flatten++R))):=by
   rw [<-Zy_ ra]
   exact k5.append_right _
  exact this.append_left _
 ·refine ⟨rs1++m :: rs2,?_,?_⟩
  ·rw [k4]; simp
  ·rw [k3]
   exact c9 m (by rw [k5.length_eq,Zv_]) k6
 ·rw [<-Zz_,k3,<-Zz_,e1]
  simp [Nat.add_assoc]
theorem Abr {c:Prop} [Decidable c] {a b:Nat}:(if c then a else b)=a\/(if c then a else b)=b:=by
 split
 ·exact .inl rfl
 ·exact .inr rfl
theorem Aa2 {α:Type} {c:Prop} [Decidable c] {x y:StateT SortSt Sem α} {Q:α->SortSt->Prop} (h1:c->wpS (model prog w) A E s x Q st) (h2:¬c->wpS (model prog w) A E s y Q st):wpS (model prog w) A E s (if c then x else y) Q st:=by
 split
 ·exact h1 (by assumption)
 ·exact h2 (by assumption)
theorem St.seg (S:St L κ a₀ R st) {lo:Nat} {st2:SortSt} (e:lo + R.length=a₀.size) (G:Sg κ lo st st2):St L κ a₀ ((arrOf st2).toList.drop lo) st2:=by
 obtain ⟨rs,e1,r⟩:=S.ex
 refine ⟨G.kind,G.failed,G.perm.trans S.perm,rs,?_,by rw [G.pend]; exact r⟩
 have hl:lo=rs.flatten.length:=by
  have:=S.perm.size_eq
  rw [<-Zz_,e1,Zv_] at this
  omega
 have:(arrOf st2).toList.take lo=rs.flatten:=by
  have h2:(arrOf st).toList.take lo=rs.flatten:=by rw [e1,hl,List.take_left]
  rw [<-h2]
  apply List.ext_getElem?
  intro k
  rw [List.getElem?_take,List.getElem?_take]
  split
  ·rw [Array.getElem?_toList,Array.getElem?_toList]
   exact G.pre k (by assumption)
  ·rfl
 rw [<-this,List.take_append_drop]
theorem St.push (S:St L κ a₀ R st) {lo n:Nat} (e:lo + R.length=a₀.size) (h1:1<=n) (h2:n<=R.length) (hi:Inc L (R.take n)):St L κ a₀ (R.drop n) (setPending st ((pendingOf st).push (lo,n,0))):=by
 obtain ⟨rs,e1,r⟩:=S.ex
 have hl:lo=rs.flatten.length:=by
  have:=S.perm.size_eq
  rw [<-Zz_,e1,Zv_] at this
  omega
 refine ⟨S.kind,S.failed,S.perm,rs++[R.take n],?_,?_⟩
 ·show (arrOf st).toList=_
  rw [e1]
  simp
 ·show Runs L 0 ((pendingOf st).push (lo,n,0)).toList _
  have hn:(R.take n).length=n:=by rw [ZB]; omega
  have:=r.push (r:=R.take n) (z:=0) (by omega) hi
  rw [Nat.zero_add,<-hl,hn] at this
  rw [Array.toList_push]
  exact this
theorem St.mod (S:St L κ a₀ R st) (k pw:Nat):St L κ a₀ R (setPending st ((pendingOf st).modify k fun x=>(x.1,x.2.1,pw))):=by
 obtain ⟨rs,e1,r⟩:=S.ex
 refine ⟨S.kind,S.failed,S.perm,rs,e1,r.alike ?_⟩
 show List.map _ ((pendingOf st).modify k fun x=>(x.1,x.2.1,pw)).toList=_
 apply List.ext_getElem?
 intro j
 rw [Θg,Θg,Array.getElem?_toList,Array.getElem?_toList,Array.getElem?_modify]
 split
 ·cases (pendingOf st)[j]? <;> rfl
 ·rfl
theorem Qf {xs:Array Keyed} {lo n:Nat} (h:Up L xs lo n) (hn:lo + n<=xs.size):Inc L ((xs.toList.drop lo).take n):=by
 refine List.pairwise_iff_getElem.mpr fun i j hi hj hij=>?_
 rw [ZB] at hi hj
 have at':∀k (hk:k < ((xs.toList.drop lo).take n).length),((xs.toList.drop lo).take n)[k]=at_ xs (lo + k):=fun k hk=>by
  rw [ZB,List.length_drop,Zz_] at hk
  have:=Ck (xs:=xs) (k:=lo + k) (by omega)
  rw [List.getElem_take,List.getElem_drop]
  rw [<-Array.getElem?_toList] at this
  exact (Ze_.mp this).2
 rw [at' i (by rw [ZB]; omega),at' j (by rw [ZB]; omega)]
 exact h i j hij (by omega)
theorem r_runs (O:TO L) (H:V3 prog w A s κ U L) (u0:∀x∈a₀.toList,U x) {Q:Unit->SortSt->Prop} (h:∀st',(arrOf st').Perm a₀->failedOf st' = none->Inc L (arrOf st').toList->Q () st'):wpS (model prog w) A E s sortRuns' Q (SortSt.mk' κ a₀ #[] 7 none):=by
 refine Zk_ (wpS_get ?_)
 dsimp only
 refine Zk_ (wpS_mono (wpS_forRange (I:=fun i c st=>∃lo R,c=(none,lo)/\St L κ a₀ R st/\lo + R.length=a₀.size/\(i<=lo\/lo=a₀.size))
  (Q:=fun c st=>∃lo,c=(none,lo)/\St L κ a₀ [] st) ?step ?fin ⟨0,a₀.toList,rfl,⟨rfl,rfl,Array.Perm.refl _,[],by simp [arrOf],trivial⟩,by simp,.inl (Nat.le_refl _)⟩) ?post)
 case fin=>
  rintro c st ⟨lo,R,rfl,S,e1,e2⟩
  have:R=[]:=List.eq_nil_of_length_eq_zero (by
   have:(arrOf (SortSt.mk' κ a₀ #[] 7 none)).size=a₀.size:=rfl
   rcases e2 with e2 | e2
   ·have e3:a₀.size<=lo:=Zo_ (Nat.le_max_right 0 _) e2
    omega
   ·omega)
  subst this
  exact ⟨lo,rfl,S⟩
 case post=>
  rintro c st ⟨lo,rfl,S⟩
  dsimp only
  have s0:(pendingOf st).size<=a₀.size:=by
   obtain ⟨rs,e1,r⟩:=S.ex
   have:=S.perm.size_eq
   rw [<-Zz_,e1,List.append_nil] at this
   have l2:=r.len
   rw [Zz_] at l2
   omega
  refine Zk_ (wpS_mono (wpS_forRange (I:=fun i c st=>c=(none,())/\St L κ a₀ [] st/\((pendingOf st).size + i<=a₀.size\/(pendingOf st).size<=1)) (Q:=fun c st=>c=(none,())/\St L κ a₀ [] st/\(pendingOf st).size<=1) ?_ ?_ ⟨rfl,S,.inl s0⟩) ?_)
  ·rintro i c st1 _ hi ⟨rfl,S1,e⟩
   refine Zk_ (wpS_get ?_)
   by_cases c1:(pendingOf st1).size<=1
   ·rw [if_pos c1]
    exact Zl_ ⟨rfl,S1,c1⟩
   rw [if_neg c1]
   have key:∀j,j=(pendingOf st1).size - 2 - 1\/j=(pendingOf st1).size - 2->j + 1 < (pendingOf st1).size:=fun j hj=>by omega
   refine Zk_ (Vw O H u0 S1 (key _ Abr) fun st2 S2 e2=>?_)
   simp only [Bool.not_true,Bool.false_eq_true,if_false]
   exact Zl_ ⟨rfl,S2,by omega⟩
  ·rintro c st1 ⟨rfl,S1,e⟩
   have:a₀.size<=max 0 (arrOf (SortSt.mk' κ a₀ #[] 7 none)).size:=Nat.le_max_right ..
   exact ⟨rfl,S1,by
    rcases e with e | e
    ·have:(pendingOf st1).size + a₀.size<=a₀.size:=Zo_ (Nat.add_le_add_left this _) e
     omega
    ·exact e⟩
  ·rintro c st1 ⟨rfl,S1,e⟩
   refine Zl_ (h st1 S1.perm S1.failed ?_)
   obtain ⟨rs,e1,r⟩:=S1.ex
   have l2:=r.len.1
   rw [Zz_] at l2
   rw [e1,List.append_nil]
   match rs,l2 with
   | [],_=>exact List.Pairwise.nil
   | [x],_=>
    have:Inc L x:=by
     revert r
     cases (pendingOf st1).toList with
     | nil=>exact fun r=>r.elim
     | cons p ps=>exact fun r=>r.2.2.2.1
    simpa using this
   | _ :: _ :: l,l2=>rw [ZA,ZA] at l2; omega
 case step=>
  rintro i c st _ hi ⟨lo,R,rfl,S,e1,e2⟩
  dsimp only
  generalize (sortPriv% PySem.Builtin.minRun:Nat->Nat->Nat->Nat) a₀.size a₀.size 0=mr
  by_cases c0:lo ≥ a₀.size
  ·rw [if_pos c0]
   have:R=[]:=List.eq_nil_of_length_eq_zero (by omega)
   subst this
   exact Zl_ ⟨lo,rfl,S⟩
  rw [if_neg c0]
  have sz:(arrOf st).size=a₀.size:=S.perm.size_eq
  have e2':i<=lo:=by omega
  refine Zk_ (Zq O H (S.u u0) ⟨S.kind,S.failed,rfl,Array.Perm.refl _,fun _ _=>rfl⟩ (by omega) (by omega) fun n st1 n1 n2 G1 up1=>?_)
  dsimp only
  refine Aa2 (fun c1=>?a) (fun c1=>?b)
  case' a=>
   refine Zk_ (Ca (Zk_ (Ad8 O H (S.u u0) G1 n1 (by omega) (by omega) up1 fun st2 G2 up2=>?_)))
   simp only [Bool.not_true,Bool.false_eq_true,if_false]
   have f1:1<=min (a₀.size - lo) mr:=by omega
   have f2:lo + min (a₀.size - lo) mr<=a₀.size:=by omega
   clear up1 G1 n1 n2 c1
   generalize min (a₀.size - lo) mr=m at f1 f2 up2 ⊢
  case' b=>
   have G2:=G1
   have up2:=up1
   have f1:=n1
   have f2:lo + n<=a₀.size:=by omega
   clear up1 G1 n1 n2 c1
   generalize st1=st2 at G2 up2 ⊢
   generalize n=m at f1 f2 up2 ⊢
  all_goals
   have S2:=S.seg e1 G2
   have z2:(arrOf st2).size=a₀.size:=G2.size.trans sz
   have lR:((arrOf st2).toList.drop lo).length=a₀.size - lo:=by rw [List.length_drop,Zz_,z2]
   have iR:=Qf up2 (by omega)
   have done_:∀st3,St L κ a₀ ((arrOf st2).toList.drop lo) st3->wpS (model prog w) A E s (modify fun s=>setPending s ((pendingOf s).push (lo,m,0))) (fun _ st'=>∃lo' R',((none,lo + m):Option Unit × Nat)=(none,lo')/\St L κ a₀ R' st'/\lo' + R'.length=a₀.size/\(i + 1<=lo'\/lo' = a₀.size)) st3:=fun st3 S3=>
    wpS_modify ⟨lo + m,_,rfl,S3.push (by omega) f1 (by omega) iR,by rw [List.length_drop]; omega,by omega⟩
   refine Zk_ (wpS_get ?_)
   rcases hb:(pendingOf st2).back? with _ | ⟨s1,n1,z⟩
   ·exact Zk_ (wpS_mono (done_ st2 S2) fun _ st' hst=>Zl_ hst)
   ·dsimp only
    refine Zk_ (wpS_mono (wpS_forRange (I:=fun i c st3=>c=(none,())/\St L κ a₀ ((arrOf st2).toList.drop lo) st3) (Q:=fun c st3=>c=(none,())/\St L κ a₀ ((arrOf st2).toList.drop lo) st3) ?_ ?_ ⟨rfl,S2⟩) ?_)
    ·rintro j c st3 _ _ ⟨rfl,S3⟩
     refine Zk_ (wpS_get ?_)
     by_cases c2:(pendingOf st3).size > 1
     ·rw [if_pos c2]
      have hp:(pendingOf st3)[(pendingOf st3).size - 2]? = some (pendingOf st3)[(pendingOf st3).size - 2]:=ZC (by omega)
      rw [hp]
      generalize (pendingOf st3)[(pendingOf st3).size - 2]=q
      obtain ⟨q1,q2,q3⟩:=q
      dsimp only
      refine Aa2 (fun _=>Zl_ ⟨rfl,S3⟩) fun _=>?_
      have key:∀j,j=(pendingOf st3).size - 2->j + 1 < (pendingOf st3).size:=fun j hj=>by omega
      refine Zk_ (Vw O H u0 S3 (key _ rfl) fun st4 S4 _=>?_)
      simp only [Bool.not_true,Bool.false_eq_true,if_false]
      exact Zl_ ⟨rfl,S4⟩
     ·rw [if_neg c2]
      exact Zl_ ⟨rfl,S3⟩
    ·rintro c st3 ⟨rfl,S3⟩
     exact ⟨rfl,S3⟩
    ·rintro c st3 ⟨rfl,S3⟩
     dsimp only
     refine Zk_ (wpS_modify ?_)
     exact Zk_ (wpS_mono (done_ _ (S3.mod _ _)) fun _ st' hst=>Zl_ hst)
end
end SR
end L2
namespace L2
open PySem PySem.Spec PySem.W PyProof.Rows
namespace ST
section
variable {prog:Program} {w:World} {A:Around} {E:Value->Shared->Prop} {s:Shared} {L a:Addr} {mm:Str->Option Value} {m:Nat} {rows:List (Addr × List Int)}
noncomputable abbrev rf (r:Addr × List Int):Value:=.ref r.1
theorem RowAt.keep {h h':Heap} {r:Addr × List Int} (x:RowAt h m r) (e:∀o,h.get? r.1=some o->h'.get? r.1=some o):RowAt h' m r:=by
 obtain ⟨l,o,its,n,h1,h2⟩:=x
 exact ⟨l,o,its,n,e o h1,h2⟩
theorem RowAt.first {h:Heap} (hm:1<=m):∀{rows:List (Addr × List Int)},(∀r∈rows,RowAt h m r)->∃fs:List Value,fs.length=rows.length/\KatTups h (rows.map rf) fs/\∀v∈fs,∃i t,v = .int i t
 | [],_=>⟨[],rfl,.nil,fun v h=>by cases h⟩
 | r :: rows,hr=>by
  obtain ⟨fs,e,t,hv⟩:=RowAt.first hm (rows:=rows) fun x hx=>hr x (Θd _ hx)
  obtain ⟨l,o,its,n,h1,h2,h3,h4⟩:=hr r (Θc ..)
  have:∃i t,its[0]? = some (Value.int i t):=by
   rw [<-Array.getElem?_toList]
   revert h4 l
   generalize its.toList=us
   generalize r.2=zs
   intro l h4
   cases h4 with
   | nil=>exact absurd l (by simp; omega)
   | cons i t _=>exact ⟨i,t,rfl⟩
  obtain ⟨i,t0,e0⟩:=this
  refine ⟨.int i t0 :: fs,by rw [ZA,ZA,e],KatTups.cons h1 h2 h3 e0 t,fun v hv'=>?_⟩
  rcases Zg_.mp hv' with z | z
  ·exact ⟨i,t0,z⟩
  ·exact hv v z
noncomputable def RUp (rows:List (Addr × List Int)):Prop:=rows.Pairwise fun x y=>lexB y.2 x.2=false
theorem Acv {r:Addr × List Int} {o:Obj} {b:Addr} (x:RowAt s.heap m r) (hb:s.heap.get? b=some o) (hc:o.cls≠.type "tuple"):r.1≠b:=fun z=>by
 obtain ⟨_,o',_,_,h1,h2,_⟩:=x
 rw [z,hb] at h1
 cases h1
 exact hc h2
theorem Rr {α β:Type} {f:α->β} {l:List β} {xs:List α} (h:l.Perm (xs.map f)):∃ys:List α,ys.Perm xs/\l=ys.map f:=by
 generalize e:xs.map f=l2 at h
 induction h generalizing xs with
 | nil=>exact ⟨[],by rw [List.map_eq_nil_iff.mp e],rfl⟩
 | cons x h ih=>
  obtain ⟨y,ys,rfl,rfl,e'⟩:=List.map_eq_cons_iff.mp e
  obtain ⟨zs,p,rfl⟩:=ih e'
  exact ⟨y :: zs,p.cons y,rfl⟩
 | swap x y l=>
  obtain ⟨a,as,rfl,rfl,e'⟩:=List.map_eq_cons_iff.mp e
  obtain ⟨b,bs,rfl,rfl,rfl⟩:=List.map_eq_cons_iff.mp e'
  exact ⟨b :: a :: bs,List.Perm.swap ..,rfl⟩
 | trans h1 h2 ih1 ih2=>
  obtain ⟨ys,p,rfl⟩:=ih2 e
  obtain ⟨zs,p',e'⟩:=ih1 rfl
  exact ⟨zs,p'.trans p,e'⟩
theorem Lc:∀rows:List (Addr × List Int),(rows.map rf).zip (rows.map rf)=rows.map fun r=>(rf r,rf r)
 | []=>rfl
 | r :: rows=>by rw [List.map_cons,List.zip_cons_cons,Lc rows]; rfl
noncomputable def Ls (m:Nat) (rows:List (Addr × List Int)) (x:Keyed):List Int:=match x.1 with
 | .ref a=>((rows.find? fun r=>r.1 == a).map (·.2)).getD (List.replicate m 0)
 | _=>List.replicate m 0
theorem Bh (hr:∀r∈rows,r.2.length=m) (x:Keyed):(Ls m rows x).length=m:=by
 unfold Ls
 split
 ·cases e:rows.find? fun r=>r.1 == _ with
  | none=>exact List.length_replicate
  | some r=>exact hr r (List.mem_of_find?_eq_some e)
 ·exact List.length_replicate
theorem Uc (hr:∀r∈rows,r.2.length=m):SR.TO fun x y=>lexB (Ls m rows x) (Ls m rows y):=
 ⟨fun h=>Uh h,fun {x y z} h1 h2=>Ui (by rw [Bh hr,Bh hr]) (by rw [Bh hr,Bh hr]) h1 h2⟩
theorem Cp {h:Heap} (hr:∀r∈rows,RowAt h m r) {r:Addr × List Int} (hm:r∈rows):Ls m rows (rf r,rf r)=r.2:=by
 show ((rows.find? fun q=>q.1 == r.1).map (·.2)).getD (List.replicate m 0)=r.2
 cases e:rows.find? fun q=>q.1 == r.1 with
 | none=>exact absurd (List.find?_eq_none.mp e r hm) (by simp)
 | some q=>
  have e1:q.1=r.1:=by simpa using List.find?_some e
  obtain ⟨_,o1,i1,n1,g1,_,d1,r1⟩:=hr q (List.mem_of_find?_eq_some e)
  obtain ⟨_,o2,i2,n2,g2,_,d2,r2⟩:=hr r hm
  rw [e1,g2] at g1
  cases g1
  rw [d2] at d1
  cases d1
  show q.2=r.2
  rw [<-r1.nums,<-r2.nums]
theorem Sk {c:Nat} {P:PySem.Fin->Shared->Prop} (hm:1<=m) (ho:s.heap.get? a=some (seqObj "list" (rows.map rf).toArray c)) (hr:∀r∈rows,RowAt s.heap m r) (h2:2<=rows.length) (h64:rows.length < 1000)
  (h:∀h' rows' c',rows'.Perm rows->RUp rows'->h'.get? a=some (seqObj "list" (rows'.map rf).toArray c')->(∀b o,b≠a->s.heap.get? b=some o->h'.get? b=some o)->P (.done (.ret .none)) { s with heap:=h' }) :
  wpAny (model prog w) A (Builtin.«list.sort» ⟨[.ref a],[]⟩) P E s:=by
 have lv:(rows.map rf).length=rows.length:=Θl ..
 have sz:¬((rows.map rf).toArray).size < 2:=by rw [Zx_,lv]; omega
 have few:((rows.map rf).toArray).size<=sizeLine:=by rw [Zx_,lv]; exact Zo_ (Nat.le_of_lt h64) (by decide)
 obtain ⟨c1,o1⟩:∃c1,(s.heap.update a (Obj.mapSeq fun _=>(#[]:Array Value))).get? a=some (seqObj "list" #[] c1):=⟨_,get?_update_seq ho _⟩
 have o3:=Zc_ { cls:=.type "list",data:=.seq #[] } (Zc_ { cls:=.type "tuple",data:=.seq (rows.map rf).toArray } o1)
 have k3:∀b o,b≠a->s.heap.get? b=some o->(((s.heap.update a (Obj.mapSeq fun _=>(#[]:Array Value))).push { cls:=.type "tuple",data:=.seq (rows.map rf).toArray }).push { cls:=.type "list",data:=.seq #[] }).get? b=some o:=fun b o nb e=>
  Zc_ _ (Zc_ _ (by rw [Heap.get?_update_ne _ _ _ _ nb]; exact e))
 rw [list_sort_plain]
 refine Za_ (listItems_at ho rfl (Za_ (listUpdate_at ho rfl (Za_ (seqEpoch_at o1 rfl (Za_ (wpAny_newTuple (Za_ (wpAny_newList (wpAny_holding ?_) (Zp_ _))) few)))) few (Zp_ _))))
 dsimp only
 rw [if_neg sz]
 generalize ((s.heap.update a (Obj.mapSeq fun _=>(#[]:Array Value))).push { cls:=.type "tuple",data:=.seq (rows.map rf).toArray }).push { cls:=.type "list",data:=.seq #[] }=h3 at o3 k3
 have r3:∀r∈rows,RowAt h3 m r:=fun r hr'=>(hr r hr').keep fun o e=>k3 _ o (Acv (hr r hr') ho fun z=>absurd (Value.type.inj z) (by decide)) e
 obtain ⟨fs,lf,tf,hf⟩:=RowAt.first hm r3
 refine Za_ (kat_kind (s:={ s with heap:=h3 }) (T:=.type "int") tf (by omega) (fun v hv=>?_) (by rfl) ?_)
 ·obtain ⟨i,t,rfl⟩:=hf v hv
  exact Looks.of_pure rfl
 rw [show (Value.type "int" != Value.type "tuple")=true from by decide,if_neg sz]
 have za:(((rows.map rf).toArray).zip ((rows.map rf).toArray)).toList=rows.map fun r=>(rf r,rf r):=by
  rw [Array.toList_zip,List.toList_toArray]
  exact Lc rows
 refine Za_ (wpAny_mono (SR.r_runs (s:={ s with heap:=h3 }) (κ:=tuples' true) (U:=fun x=>∃r∈rows,x=(rf r,rf r)) (Uc (rows:=rows) fun r hr'=>(hr r hr').1) (fun x y ux uy=>?_) (fun x hx=>?_) (Q:=fun _ st=>failedOf st=none/\∃rows',(arrOf st).map (·.2)=(rows'.map rf).toArray/\rows'.Perm rows/\RUp rows') fun st' pe fl inc=>⟨fl,?_⟩) ?_ fun _ _ e=>e)
 ·obtain ⟨r,hr1,rfl⟩:=ux
  obtain ⟨r',hr2,rfl⟩:=uy
  refine Acu (s:={ s with heap:=h3 }) (r3 r hr1) (r3 r' hr2) ⟨rfl,?_⟩
  dsimp only
  rw [Cp r3 hr1,Cp r3 hr2]
 ·rw [za] at hx
  obtain ⟨r,hr1,rfl⟩:=Θn hx
  exact ⟨r,hr1,rfl⟩
 ·have pl:=Array.perm_iff_toList_perm.mp pe
  rw [za] at pl
  obtain ⟨rows',p',e'⟩:=Rr pl
  refine ⟨rows',?_,p',?_⟩
  ·apply Array.toList_inj.mp
   rw [Array.toList_map,e',List.map_map]
   rfl
  ·unfold RUp
   have:=inc
   rw [e',SR.Inc,List.pairwise_map] at this
   refine this.imp_of_mem fun {x y} hx hy h=>?_
   have h':lexB (Ls m rows (rf y,rf y)) (Ls m rows (rf x,rf x))=false:=h
   rw [Cp r3 (p'.mem_iff.mp hx),Cp r3 (p'.mem_iff.mp hy)] at h'
   exact h'
 ·rintro ⟨⟨⟩,st⟩ s' ⟨rfl,fl,rows',ar,pr,up⟩
  dsimp only
  rw [ar,fl]
  have few':((rows'.map rf).toArray).size<=sizeLine:=by rw [Zx_,Θl,pr.length_eq]; exact Zo_ (Nat.le_of_lt h64) (by decide)
  refine Za_ (seqEpoch_at o3 rfl (Za_ (listUpdate_at o3 rfl ?_ (Zp_ _) (Nat.le_succ_of_le few'))))
  rw [if_neg (by simp)]
  refine Zb_ (h _ rows' _ pr up (get?_update_seq o3 _) fun b o nb e=>?_)
  rw [Heap.get?_update_ne _ _ _ _ nb]
  exact k3 b o nb e
theorem Wx {c:Nat} {P:PySem.Fin->Shared->Prop} (ho:s.heap.get? a=some (seqObj "list" (rows.map rf).toArray c)) (h2:rows.length < 2)
  (h:∀h' c',h'.get? a=some (seqObj "list" (rows.map rf).toArray c')->(∀b o,b≠a->s.heap.get? b=some o->h'.get? b=some o)->P (.done (.ret .none)) { s with heap:=h' }) :
  wpAny (model prog w) A (Builtin.«list.sort» ⟨[.ref a],[]⟩) P E s:=by
 have lv:(rows.map rf).length=rows.length:=Θl ..
 have sz:((rows.map rf).toArray).size < 2:=by rw [Zx_,lv]; exact h2
 have few:((rows.map rf).toArray).size<=sizeLine:=Zo_ (Nat.le_of_lt sz) (by decide)
 have zz:Array.map (fun x=>x.snd) (((rows.map rf).toArray).zip ((rows.map rf).toArray))=(rows.map rf).toArray:=by
  apply Array.toList_inj.mp
  rw [Array.toList_map,Array.toList_zip,List.toList_toArray]
  exact List.map_snd_zip (Zd_ _)
 obtain ⟨c1,o1⟩:∃c1,(s.heap.update a (Obj.mapSeq fun _=>(#[]:Array Value))).get? a=some (seqObj "list" #[] c1):=⟨_,get?_update_seq ho _⟩
 rw [list_sort_plain]
 refine Za_ (listItems_at ho rfl (Za_ (listUpdate_at ho rfl (Za_ (seqEpoch_at o1 rfl (Za_ (wpAny_newTuple (Za_ (wpAny_newList (wpAny_holding ?_) (Zp_ _))) few)))) few (Zp_ _))))
 dsimp only
 rw [if_pos sz]
 refine Za_ (Zb_ ?_)
 rw [if_pos sz]
 refine Za_ (Zb_ ?_)
 dsimp only
 rw [show arrOf (SortSt.mk' general' (((rows.map rf).toArray).zip ((rows.map rf).toArray)) #[] 7 none)=((rows.map rf).toArray).zip ((rows.map rf).toArray) from rfl,zz]
 have o3:=Zc_ { cls:=.type "list",data:=.seq #[] } (Zc_ { cls:=.type "tuple",data:=.seq (rows.map rf).toArray } o1)
 refine Za_ (seqEpoch_at o3 rfl (Za_ (listUpdate_at o3 rfl ?_ (Zp_ _) (Nat.le_succ_of_le few))))
 rw [if_neg (by simp)]
 refine Zb_ (h _ _ (get?_update_seq o3 _) fun b o nb e=>?_)
 rw [Heap.get?_update_ne _ _ _ _ nb]
 refine Zc_ _ (Zc_ _ ?_)
 rw [Heap.get?_update_ne _ _ _ _ nb]
 exact e
theorem Sl {c:Nat} {P:PySem.Fin->Shared->Prop} (hm:1<=m) (ho:s.heap.get? a=some (seqObj "list" (rows.map rf).toArray c)) (hr:∀r∈rows,RowAt s.heap m r) (h64:rows.length < 1000)
  (h:∀h' rows' c',rows'.Perm rows->RUp rows'->h'.get? a=some (seqObj "list" (rows'.map rf).toArray c')->(∀b o,b≠a->s.heap.get? b=some o->h'.get? b=some o)->P (.done (.ret .none)) { s with heap:=h' }) :
  wpAny (model prog w) A (Builtin.«list.sort» ⟨[.ref a],[]⟩) P E s:=by
 by_cases c2:2<=rows.length
 ·exact Sk hm ho hr c2 h64 h
 ·refine Wx ho (by omega) fun h' c' e1 e2=>h h' rows c' (List.Perm.refl _) ?_ e1 e2
  unfold RUp
  match rows,c2 with
  | [],_=>exact List.Pairwise.nil
  | [r],_=>exact List.pairwise_singleton _ _
  | _ :: _ :: l,c2=>exact absurd (by simp) c2
end
end ST
end L2
namespace L2
open PySem PySem.Spec PySem.W PyProof.Rows
namespace ST
section
variable {prog:Program} {w:World} {A:Around} {E:Value->Shared->Prop} {s:Shared} {m:Nat} {S:List (Addr × List Int)->Prop}
theorem sorted_src {src:Value} {Q:Value->Shared->Prop} (hm:1<=m)
  (col:∀Q':List Value->Shared->Prop,(∀rows h1 tk,S rows->(∀r∈rows,RowAt s.heap m r)->rows.length < 1000->s.heap.objs.size<=h1.objs.size->(∀b o,s.heap.get? b=some o->h1.get? b=some o)->Q' (rows.map rf) { s with heap:=h1,toks:=tk })->wpAny (model prog w) A.in1 (collect src) Q' E s)
  (h:∀a h' tk rows rows' c,S rows->(∀r∈rows,RowAt s.heap m r)->rows'.Perm rows->RUp rows'->rows.length < 1000->s.heap.objs.size<=a->h'.get? a=some (seqObj "list" (rows'.map rf).toArray c)->(∀b o,s.heap.get? b=some o->h'.get? b=some o)->Q (.ref a) { s with heap:=h',toks:=tk }) :
  wpAny (model prog w) A (call (.builtin "sorted") [src]) Q E s:=by
 refine Calls.call_function_entry kind_sorted plain_sorted entry_sorted (args_sorted1 _) ?_
 unfold Builtin.«sorted»
 refine Za_ (m:=checkCount "sorted" 1 1 _) (Zb_ (Za_ (col _ fun rows h1 tk hS hr h64 le keep=>?_)))
 have lv:(rows.map rf).length=rows.length:=Θl ..
 refine Za_ (wpAny_newList ?_ (by rw [lv]; exact Zo_ (Nat.le_of_lt h64) (by decide)))
 dsimp only
 have ho:(h1.push { cls:=.type "list",data:=.seq (rows.map rf).toArray }).get? h1.objs.size=some (seqObj "list" (rows.map rf).toArray 0):=Zm_ _ rfl
 refine Za_ (wpAny_holding (wpAny_call_entry slot_list_sort ⟨_,ho,rfl⟩ entry_list_sort (Sl (s:={ s with heap:=h1.push { cls:=.type "list",data:=.seq (rows.map rf).toArray },toks:=tk }) hm ho (fun r hr'=>(hr r hr').keep fun o e=>Zc_ _ (keep _ o e)) h64 fun h' rows' c' pr up ho' k'=>⟨_,rfl,?_⟩) (args_list_sort _)))
 exact Zb_ ⟨_,rfl,h _ h' _ rows rows' c' hS hr pr up h64 le ho' fun b o e=>k' b o (Zs_ (Zn_ (keep b o e))) (Zc_ _ (keep b o e))⟩
end
end ST
end L2
namespace L2
open PySem
namespace ST
noncomputable def nth (t:SetTable) (p:SetTable.Probe):Nat->SetTable.Probe
 | 0=>p
 | n + 1=>nth t (t.advance p) n
theorem Eg (t:SetTable):∀(n:Nat) (p:SetTable.Probe),nth t p (n + 1)=t.advance (nth t p n)
 | 0,_=>rfl
 | n + 1,p=>Eg t n (t.advance p)
theorem Ab (t:SetTable):∀(a b:Nat) (p:SetTable.Probe),nth t p (a + b)=nth t (nth t p a) b
 | 0,b,p=>by rw [Nat.zero_add]; rfl
 | a + 1,b,p=>by rw [show a + 1 + b=(a + b) + 1 by omega]; exact Ab t a b (t.advance p)
noncomputable def beg (t:SetTable) (i q:Nat):SetTable.Probe:=⟨i,SetTable.runEnd t.mask i - i,i,q,none⟩
theorem Sm (t:SetTable) (h:Int):t.probeStart h=beg t (SetTable.bits h % (t.mask + 1)) (SetTable.bits h):=rfl
theorem Wh (m i:Nat):SetTable.runEnd m i - i<=9:=by
 unfold SetTable.runEnd
 split <;> omega
theorem Aba {t:SetTable} {p:SetTable.Probe} (h:0 < p.more):t.advance p={ p with j:=p.j + 1,more:=p.more - 1 }:=by
 unfold SetTable.advance
 rw [if_pos h]
theorem Xx {t:SetTable} {p:SetTable.Probe} (h:p.more=0) (d:p.dummy=none):t.advance p=beg t ((p.i * 5 + 1 + p.perturb / 32) % (t.mask + 1)) (p.perturb / 32):=by
 unfold SetTable.advance
 rw [if_neg (by omega)]
 unfold SetTable.leap beg
 rw [d]
theorem Hf (t:SetTable) (i q:Nat):∀k,k<=SetTable.runEnd t.mask i - i->nth t (beg t i q) k=⟨i + k,SetTable.runEnd t.mask i - i - k,i,q,none⟩
 | 0,_=>rfl
 | k + 1,h=>by
  rw [Eg,Hf t i q k (by omega),Aba (by show 0 < SetTable.runEnd t.mask i - i - k; omega)]
  show (⟨i + k + 1,SetTable.runEnd t.mask i - i - k - 1,i,q,none⟩:SetTable.Probe)=_
  rw [show i + k + 1=i + (k + 1) by omega,show SetTable.runEnd t.mask i - i - k - 1=SetTable.runEnd t.mask i - i - (k + 1) by omega]
theorem Ef (t:SetTable) (i q:Nat):nth t (beg t i q) (SetTable.runEnd t.mask i - i + 1)=beg t ((i * 5 + 1 + q / 32) % (t.mask + 1)) (q / 32):=by
 rw [Eg,Hf t i q _ (Zd_ _),Xx (by show SetTable.runEnd t.mask i - i - (SetTable.runEnd t.mask i - i)=0; omega) rfl]
theorem Aay (t:SetTable):∀(k i q:Nat),i<=t.mask->∃n i',n<=10 * k/\i'<=t.mask/\nth t (beg t i q) n=beg t i' (q / 32 ^ k)
 | 0,i,q,hi=>⟨0,i,Zp_ _,hi,by rw [Nat.pow_zero,Nat.div_one]; rfl⟩
 | k + 1,i,q,hi=>by
  have h1:=Wh t.mask i
  have h2:(i * 5 + 1 + q / 32) % (t.mask + 1)<=t.mask:=Nat.le_of_lt_succ (Nat.mod_lt _ (Nat.succ_pos _))
  obtain ⟨n,i',hn,hi',e⟩:=Aay t k _ (q / 32) h2
  refine ⟨SetTable.runEnd t.mask i - i + 1 + n,i',by omega,hi',?_⟩
  rw [Ab,Ef,e,Nat.div_div_eq_div_mul,Nat.pow_succ,Nat.mul_comm 32]
theorem Sy {t u:SetTable} (h:t.mask=u.mask) (p:SetTable.Probe):t.advance p=u.advance p:=by
 unfold SetTable.advance
 rw [h]
theorem Bj {t u:SetTable} (h:t.mask=u.mask):∀(n:Nat) (p:SetTable.Probe),nth t p n=nth u p n
 | 0,_=>rfl
 | n + 1,p=>by
  show nth t (t.advance p) n=nth u (u.advance p) n
  rw [Sy h,Bj h n]
noncomputable def it (m:Nat):Nat->Nat->Nat
 | 0,i=>i
 | k + 1,i=>it m k ((i * 5 + 1) % (m + 1))
theorem Gx (m:Nat):∀(a b i:Nat),it m (a + b) i=it m b (it m a i)
 | 0,b,i=>by rw [Nat.zero_add]; rfl
 | a + 1,b,i=>by rw [show a + 1 + b=(a + b) + 1 by omega]; exact Gx m a b _
noncomputable def Oe (m j:Nat):Nat->Nat->Bool
 | 0,_=>false
 | n + 1,i=>Nat.beq i j || Oe m j n ((i * 5 + 1) % (m + 1))
theorem Ec (m j:Nat):∀(n i:Nat),Oe m j n i=true->∃k,k < n/\it m k i=j
 | 0,i,h=>by cases h
 | n + 1,i,h=>by
  unfold Oe at h
  rcases Bool.or_eq_true_iff.mp h with h | h
  ·exact ⟨0,Nat.succ_pos _,Nat.eq_of_beq_eq_true h⟩
  ·obtain ⟨k,hk,e⟩:=Ec m j n _ h
   exact ⟨k + 1,Nat.succ_lt_succ hk,e⟩
noncomputable def whole (m:Nat):Bool:=(List.range (m + 1)).all (fun j=>Oe m j (m + 1) 0) && Nat.beq (it m (m + 1) 0) 0
theorem Adj:whole 7=true:=by decide +kernel
theorem Aao:whole 31=true:=by decide +kernel
theorem Xs:whole 127=true:=by decide +kernel
theorem Xt:whole 511=true:=by decide +kernel
noncomputable def Aar (t:SetTable):Prop:=t.mask=7\/t.mask=31\/t.mask=127\/t.mask=511
theorem Kz {m:Nat} (h:m=7\/m=31\/m=127\/m=511):whole m=true:=by
 rcases h with rfl | rfl | rfl | rfl
 ·exact Adj
 ·exact Aao
 ·exact Xs
 ·exact Xt
theorem Ua {m:Nat} (h:whole m=true) {i j:Nat} (hi:i<=m) (hj:j<=m):∃k,k<=m/\it m k i=j:=by
 obtain ⟨h1,h2⟩:=Bool.and_eq_true_iff.mp h
 have per:it m (m + 1) 0=0:=Nat.eq_of_beq_eq_true h2
 obtain ⟨a,ha,ea⟩:=Ec m i _ _ (List.all_eq_true.mp h1 i (List.mem_range.mpr (Nat.lt_succ_of_le hi)))
 obtain ⟨b,hb,eb⟩:=Ec m j _ _ (List.all_eq_true.mp h1 j (List.mem_range.mpr (Nat.lt_succ_of_le hj)))
 by_cases c:a<=b
 ·refine ⟨b - a,by omega,?_⟩
  rw [<-ea,<-Gx,show a + (b - a)=b by omega,eb]
 ·refine ⟨b + (m + 1) - a,by omega,?_⟩
  rw [<-ea,<-Gx,show a + (b + (m + 1) - a)=(m + 1) + b by omega,Gx,per,eb]
theorem Uf (t:SetTable):∀(k i:Nat),∃n,n<=10 * k/\nth t (beg t i 0) n=beg t (it t.mask k i) 0
 | 0,i=>⟨0,Zp_ _,rfl⟩
 | k + 1,i=>by
  have h1:=Wh t.mask i
  obtain ⟨n,hn,e⟩:=Uf t k ((i * 5 + 1) % (t.mask + 1))
  refine ⟨SetTable.runEnd t.mask i - i + 1 + n,by omega,?_⟩
  rw [Ab,Ef,Nat.zero_div,Nat.add_zero,e]
  rfl
theorem Nj (h:Int):SetTable.bits h < 2 ^ 64:=by
 unfold SetTable.bits
 have h1:=Int.emod_nonneg h (show (2 ^ 64:Int)≠0 by decide)
 have h2:=Int.emod_lt_of_pos h (show (0:Int) < 2 ^ 64 by decide)
 omega
theorem Abg {t:SetTable} (s:Aar t) (h:Int) {j:Nat} (hj:j<=t.mask):∃n,n < 10 * SetTable.turns t.mask/\(nth t (t.probeStart h) n).j=j:=by
 obtain ⟨n,i,hn,hi,e⟩:=Aay t 13 (SetTable.bits h % (t.mask + 1)) (SetTable.bits h) (Nat.le_of_lt_succ (Nat.mod_lt _ (Nat.succ_pos _)))
 have q0:SetTable.bits h / 32 ^ 13=0:=Nat.div_eq_of_lt (Zq_ (Nj h) (by decide))
 rw [q0] at e
 obtain ⟨k,hk,ek⟩:=Ua (Kz s) hi hj
 obtain ⟨n',hn',e'⟩:=Uf t k i
 refine ⟨n + n',?_,?_⟩
 ·unfold SetTable.turns
  omega
 ·rw [Sm,Ab,e,e',ek]
  rfl
end ST
end L2
namespace L2
open PySem
namespace ST
noncomputable def Au (xs:Array Nat):Prop:=∀a b,a < b->b < xs.size->xs.getD a 0 < xs.getD b 0
theorem Ts {xs:Array Nat} {k:Nat} (h:k < xs.size) (a b:Nat):xs.getD k a=xs.getD k b:=by
 rw [Array.getD_eq_getD_getElem?,Array.getD_eq_getD_getElem?,ZC h]
 rfl
theorem Bd {xs:Array Nat} {k j:Nat} (h:xs[k]? = some j) (a:Nat):xs.getD k a=j:=by
 rw [Array.getD_eq_getD_getElem?,h]
 rfl
theorem Gi {xs:Array Nat} {k:Nat} (h:k < xs.size):xs[k]? = some (xs.getD k 0):=by
 rw [Array.getD_eq_getD_getElem?,ZC h]
 rfl
structure Bel (xs:Array Nat) (j r:Nat):Prop where
 le:r<=xs.size
 lo:∀k,k < r->xs.getD k 0 < j
 hi:∀k,r<=k->k < xs.size->j<=xs.getD k 0
theorem Dk {xs:Array Nat} (R:Au xs) {j:Nat}:∀(n lo hi:Nat),hi - lo<=n->lo<=hi->hi<=xs.size->(∀k,k < lo->xs.getD k 0 < j)->(∀k,hi<=k->k < xs.size->j<=xs.getD k 0)->Bel xs j (SetTable.below.go xs j n lo hi)
 | 0,lo,hi,h1,h2,h3,h4,h5=>by
  unfold SetTable.below.go
  exact ⟨by omega,h4,fun k a b=>h5 k (by omega) b⟩
 | n + 1,lo,hi,h1,h2,h3,h4,h5=>by
  unfold SetTable.below.go
  by_cases c:lo < hi
  ·rw [if_pos c]
   have hm:(lo + hi) / 2 < xs.size:=by omega
   dsimp only
   rw [Ts hm j 0]
   by_cases d:xs.getD ((lo + hi) / 2) 0 < j
   ·rw [if_pos d]
    refine Dk R n _ hi (by omega) (by omega) h3 (fun k hk=>?_) h5
    by_cases e:k=(lo + hi) / 2
    ·rw [e]; exact d
    ·exact Nat.lt_trans (R k _ (by omega) hm) d
   ·rw [if_neg d]
    refine Dk R n lo _ (by omega) (by omega) (by omega) h4 fun k a b=>?_
    by_cases e:k=(lo + hi) / 2
    ·rw [e]; omega
    ·have:=R ((lo + hi) / 2) k (by omega) b
     omega
  ·rw [if_neg c]
   exact ⟨by omega,h4,fun k a b=>h5 k (by omega) b⟩
theorem Y4 {xs:Array Nat} (R:Au xs) (j:Nat):Bel xs j (SetTable.below xs j):=
 Dk R _ 0 _ (by omega) (Zp_ _) (Zd_ _) (fun k h=>absurd h (Nat.not_lt_zero _)) fun k a b=>by omega
theorem Dj {xs:Array Nat} (R:Au xs) {i j:Nat} (h:xs[i]? = some j):SetTable.below xs j=i:=by
 have B:=Y4 R j
 have hi:i < xs.size:=(Array.getElem?_eq_some_iff.mp h).1
 have e:=Bd h 0
 rcases Nat.lt_trichotomy (SetTable.below xs j) i with c | c | c
 ·have h1:=B.hi _ (Zd_ _) (by omega)
  have h2:=R _ _ c hi
  omega
 ·exact c
 ·have:=B.lo i c
  omega
noncomputable def On (t:SetTable) (j:Nat):Prop:=∃i:Nat,t.place[i]? = some j
theorem Da {t:SetTable} (R:Au t.place) {i j:Nat} (h:t.place[i]? = some j):t.slot j = .live i:=by
 unfold SetTable.slot
 dsimp only
 rw [Dj R h,h,if_pos (by simp)]
theorem Nw (j:Nat):SetTable.has #[] j=false:=by
 unfold SetTable.has
 rfl
theorem Ww {t:SetTable} (d:t.dummies = #[]) {j:Nat} (h:¬On t j):t.slot j = .empty:=by
 unfold SetTable.slot
 dsimp only
 have:(t.place[SetTable.below t.place j]? == some j)=false:=by
  rw [beq_eq_false_iff_ne]
  exact fun e=>h ⟨_,e⟩
 rw [this,d,Nw]
 rfl
theorem Bt {t:SetTable}:∀(n:Nat) {p:SetTable.Probe},p.dummy=none->(nth t p n).dummy=none
 | 0,_,h=>h
 | n + 1,p,h=>by
  refine Bt n ?_
  unfold SetTable.advance
  split
  ·exact h
  ·exact h
theorem Jo {t:SetTable} {hashAt:Nat->Int} {h:Int} (R:Au t.place) (d:t.dummies = #[]):∀(fuel e:Nat) (p:SetTable.Probe),p.dummy=none->e < fuel->¬On t (nth t p e).j->(∀m,m < e->∃i,t.place[i]? = some (nth t p m).j/\hashAt i≠h)->
  SetTable.probe.go t hashAt h fuel p=some (.empty (nth t p e).j none)
 | 0,_,_,_,hf,_,_=>absurd hf (Nat.not_lt_zero _)
 | fuel + 1,0,p,hd,_,he,_=>by
  unfold SetTable.probe.go
  rw [Ww d (show ¬On t p.j from he)]
  show some (SetTable.Met.empty p.j p.dummy)=_
  rw [hd]
  rfl
 | fuel + 1,e + 1,p,hd,hf,he,hm=>by
  obtain ⟨i,hi,hh⟩:=hm 0 (Nat.succ_pos _)
  unfold SetTable.probe.go
  rw [Da R (show t.place[i]? = some p.j from hi)]
  show (if (hashAt i == h)=true then _ else _)=_
  rw [if_neg (by rw [beq_iff_eq]; exact hh)]
  exact Jo R d fuel e (t.advance p) (Bt 1 hd) (Nat.lt_of_succ_lt_succ hf) he fun m h'=>hm (m + 1) (Nat.succ_lt_succ h')
theorem Nu {t:SetTable} {hashAt:Nat->Int} {h:Int} (R:Au t.place):∀(fuel k i:Nat) (p:SetTable.Probe),k < fuel->t.place[i]? = some (nth t p k).j->hashAt i=h->(∀m,m < k->∃i,t.place[i]? = some (nth t p m).j/\hashAt i≠h)->
  SetTable.probe.go t hashAt h fuel p=some (.candidate (nth t p k).j i (nth t p (k + 1)))
 | 0,_,_,_,hf,_,_,_=>absurd hf (Nat.not_lt_zero _)
 | fuel + 1,0,i,p,_,hi,hh,_=>by
  unfold SetTable.probe.go
  rw [Da R (show t.place[i]? = some p.j from hi)]
  show (if (hashAt i == h)=true then _ else _)=_
  rw [if_pos (by rw [beq_iff_eq]; exact hh)]
  rfl
 | fuel + 1,k + 1,i,p,hf,hi,hh,hm=>by
  obtain ⟨i',hi',hh'⟩:=hm 0 (Nat.succ_pos _)
  unfold SetTable.probe.go
  rw [Da R (show t.place[i']? = some p.j from hi')]
  show (if (hashAt i' == h)=true then _ else _)=_
  rw [if_neg (by rw [beq_iff_eq]; exact hh')]
  exact Nu R fuel k i (t.advance p) (Nat.lt_of_succ_lt_succ hf) hi hh fun m h'=>hm (m + 1) (Nat.succ_lt_succ h')
structure TB (t:SetTable) (hs:List Int):Prop where
 dum:t.dummies = #[]
 len:t.place.size=hs.length
 rise:Au t.place
 top:∀(i j:Nat),t.place[i]? = some j->j<=t.mask
 reach:∀(i:Nat) (h:Int),hs[i]? = some h->∃n,t.place[i]? = some (nth t (t.probeStart h) n).j/\∀m,m < n->On t (nth t (t.probeStart h) m).j
structure TOk (t:SetTable) (hs:List Int):Prop extends TB t hs where
 small:t.mask=7/\hs.length<=4\/t.mask=31/\hs.length<=18\/t.mask=127/\hs.length<=76\/t.mask=511/\hs.length<=306
theorem TOk.sm {t:SetTable} {hs:List Int} (T:TOk t hs):Aar t:=by
 rcases T.small with ⟨h,_⟩ | ⟨h,_⟩ | ⟨h,_⟩ | ⟨h,_⟩
 ·exact Or.inl h
 ·exact Or.inr (Or.inl h)
 ·exact Or.inr (Or.inr (Or.inl h))
 ·exact Or.inr (Or.inr (Or.inr h))
theorem nd_sub {α:Type} [DecidableEq α]:∀{A B:List α},A.Nodup->(∀x∈A,x∈B)->A.length<=B.length
 | [],_,_,_=>Zp_ _
 | a :: A,B,nd,h=>by
  obtain ⟨n1,n2⟩:=List.nodup_cons.mp nd
  have h1:a∈B:=h a (Θc ..)
  have h2:A.length<=(B.erase a).length:=nd_sub n2 fun x hx=>(List.mem_erase_of_ne (fun (e:x=a)=>n1 (e ▸ hx))).mpr (h x (Θd _ hx))
  rw [List.length_erase_of_mem h1] at h2
  have h3:0 < B.length:=List.length_pos_of_mem h1
  rw [ZA]
  omega
theorem TOk.free {t:SetTable} {hs:List Int} (T:TOk t hs):∃j,j<=t.mask/\¬On t j:=Classical.byContradiction fun no=>by
 have all:∀x∈List.range (t.mask + 1),x∈t.place.toList:=fun x hx=>Classical.byContradiction fun n=>no ⟨x,Nat.le_of_lt_succ (List.mem_range.mp hx),fun ⟨i,hi⟩=>n (by
  rw [<-Array.getElem?_toList] at hi
  exact Θe hi)⟩
 have:=nd_sub List.nodup_range all
 rw [List.length_range,Zz_,T.len] at this
 rcases T.small with ⟨h1,h2⟩ | ⟨h1,h2⟩ | ⟨h1,h2⟩ | ⟨h1,h2⟩ <;> omega
theorem Ug {P:Nat->Prop}:∀(N n:Nat),n < N->P n->∃k,k<=n/\P k/\∀m,m < k->¬P m
 | 0,_,h,_=>absurd h (Nat.not_lt_zero _)
 | N + 1,n,hn,hp=>by
  by_cases c:∃m,m < n/\P m
  ·obtain ⟨m,hm,pm⟩:=c
   obtain ⟨k,a,b,e⟩:=Ug N m (by omega) pm
   exact ⟨k,by omega,b,e⟩
  ·exact ⟨n,Zd_ _,hp,fun m hm pm=>c ⟨m,hm,pm⟩⟩
theorem TOk.first {t:SetTable} {hs:List Int} (T:TOk t hs) (h:Int):∃e,e < 10 * SetTable.turns t.mask/\¬On t (nth t (t.probeStart h) e).j/\(nth t (t.probeStart h) e).j<=t.mask/\∀m,m < e->On t (nth t (t.probeStart h) m).j:=by
 obtain ⟨j,hj,nj⟩:=T.free
 obtain ⟨n,hn,en⟩:=Abg T.sm h hj
 obtain ⟨k,h1,h2,h3⟩:=Ug (P:=fun n=>¬On t (nth t (t.probeStart h) n).j) _ n (Nat.lt_succ_self n) (by rw [en]; exact nj)
 refine ⟨k,by omega,h2,nth_le t k h,fun m hm=>Classical.byContradiction fun z=>h3 m hm z⟩
where
 nth_le (t:SetTable) (k:Nat) (h:Int):(nth t (t.probeStart h) k).j<=t.mask:=by
  have key:∀(k:Nat) (p:SetTable.Probe),p.j + p.more<=t.mask->(nth t p k).j<=t.mask:=fun k=>by
   induction k with
   | zero=>intro p hp; exact Zo_ (Nat.le_add_right _ _) hp
   | succ k ih=>
    intro p hp
    refine ih (t.advance p) ?_
    unfold SetTable.advance
    split
    ·show p.j + 1 + (p.more - 1)<=t.mask
     omega
    ·show (SetTable.leap t.mask p.i p.perturb).1 + (SetTable.runEnd t.mask (SetTable.leap t.mask p.i p.perturb).1 - (SetTable.leap t.mask p.i p.perturb).1)<=t.mask
     have:(SetTable.leap t.mask p.i p.perturb).1<=t.mask:=Nat.le_of_lt_succ (Nat.mod_lt _ (Nat.succ_pos _))
     generalize (SetTable.leap t.mask p.i p.perturb).1=i at this ⊢
     unfold SetTable.runEnd
     split <;> omega
  refine key k _ ?_
  show SetTable.bits h % (t.mask + 1) + (SetTable.runEnd t.mask (SetTable.bits h % (t.mask + 1)) - SetTable.bits h % (t.mask + 1))<=t.mask
  have:SetTable.bits h % (t.mask + 1)<=t.mask:=Nat.le_of_lt_succ (Nat.mod_lt _ (Nat.succ_pos _))
  generalize SetTable.bits h % (t.mask + 1)=i at this ⊢
  unfold SetTable.runEnd
  split <;> omega
end ST
end L2
namespace L2
open PySem
namespace ST
noncomputable def Bg {α:Type} (l:List α) (p:Nat) (x:α):List α:=l.take p++x :: l.drop p
theorem Jq {α:Type} {l:List α} {p:Nat} (hp:p<=l.length) (x:α) (k:Nat):(Bg l p x)[k]? = if k < p then l[k]? else if k=p then some x else l[k - 1]?:=by
 unfold Bg
 have lt:(l.take p).length=p:=by rw [ZB]; omega
 by_cases c:k < p
 ·rw [if_pos c,List.getElem?_append_left (by omega),List.getElem?_take_of_lt c]
 ·rw [if_neg c,ZD (by omega),lt]
  by_cases d:k=p
  ·rw [if_pos d,d,Nat.sub_self]; rfl
  ·rw [if_neg d]
   obtain ⟨m,rfl⟩:∃m,k=p + 1 + m:=⟨k - (p + 1),by omega⟩
   rw [show p + 1 + m - p=m + 1 by omega,List.getElem?_cons_succ,List.getElem?_drop,show p + 1 + m - 1=p + m by omega]
theorem Dx {α:Type} {l:List α} {p:Nat} (hp:p<=l.length) (x:α):(Bg l p x).length=l.length + 1:=by
 unfold Bg
 rw [Zv_,ZB,ZA,List.length_drop]
 omega
theorem Qg {α:Type} (l:List α) (p:Nat) (x:α):(Bg l p x).Perm (x :: l):=by
 unfold Bg
 refine List.perm_middle.trans ?_
 rw [List.take_append_drop]
theorem Jr {α β:Type} (f:α->β) (l:List α) (p:Nat) (x:α):(Bg l p x).map f=Bg (l.map f) p (f x):=by
 unfold Bg
 rw [Zw_,List.map_cons,List.map_take,List.map_drop]
theorem Dy {α:Type} (xs:Array α) (p:Nat) (x:α):(SetTable.insertAt xs p x).toList=Bg xs.toList p x:=SetTable.toList_insertAt xs p x
theorem T8 {xs:Array Nat} {p:Nat} (hp:p<=xs.size) (x k:Nat):(SetTable.insertAt xs p x)[k]? = if k < p then xs[k]? else if k=p then some x else xs[k - 1]?:=by
 rw [<-Array.getElem?_toList,Dy,Jq (by rw [Zz_]; exact hp),Array.getElem?_toList,Array.getElem?_toList]
theorem Ty {α:Type} {xs:Array α} {p:Nat} (hp:p<=xs.size) (x:α):(SetTable.insertAt xs p x).size=xs.size + 1:=by
 rw [<-Zz_,Dy,Dx (by rw [Zz_]; exact hp),Zz_]
theorem Kh {xs:Array Nat}:Au xs↔∀(a b x y:Nat),a < b->xs[a]? = some x->xs[b]? = some y->x < y:=by
 constructor
 ·intro R a b x y h hx hy
  have:=R a b h (Array.getElem?_eq_some_iff.mp hy).1
  rw [Bd hx,Bd hy] at this
  exact this
 ·intro h a b hab hb
  exact h a b _ _ hab (Gi (by omega)) (Gi hb)
theorem Wa {xs:Array Nat} (R:Au xs) {j:Nat} (no:∀i:Nat,xs[i]?≠some j):Au (SetTable.insertAt xs (SetTable.below xs j) j):=by
 have B:=Y4 R j
 rw [Kh] at R ⊢
 intro a b x y hab hx hy
 rw [T8 B.le] at hx hy
 generalize SetTable.below xs j=p at B hx hy
 have lo:∀(k z:Nat),k < p->xs[k]? = some z->z < j:=fun k z hk hz=>by
  have:=B.lo k hk
  rwa [Bd hz] at this
 have hi:∀(k z:Nat),p<=k->xs[k]? = some z->j < z:=fun k z hk hz=>by
  have:=B.hi k hk (Array.getElem?_eq_some_iff.mp hz).1
  rw [Bd hz] at this
  exact Nat.lt_of_le_of_ne this fun e=>no k (e ▸ hz)
 by_cases c1:a < p
 ·rw [if_pos c1] at hx
  by_cases c2:b < p
  ·rw [if_pos c2] at hy
   exact R a b x y hab hx hy
  ·rw [if_neg c2] at hy
   by_cases c3:b=p
   ·rw [if_pos c3] at hy
    cases hy
    exact lo a x c1 hx
   ·rw [if_neg c3] at hy
    exact R a (b - 1) x y (by omega) hx hy
 ·rw [if_neg c1] at hx
  rw [if_neg (by omega),if_neg (by omega)] at hy
  by_cases c2:a=p
  ·rw [if_pos c2] at hx
   cases hx
   exact hi (b - 1) y (by omega) hy
  ·rw [if_neg c2] at hx
   exact R (a - 1) (b - 1) x y (by omega) hx hy
theorem Os {t:SetTable} (d:t.dummies = #[]) (j:Nat):(t.put j).1={ t with place:=SetTable.insertAt t.place (SetTable.below t.place j) j }:=by
 unfold SetTable.put
 dsimp only
 rw [d,Nw]
 simp
theorem Vr (t:SetTable) (j:Nat):(t.put j).2=SetTable.below t.place j:=rfl
theorem Vc {t:SetTable} {p j k:Nat} (hp:p<=t.place.size) (h:On t k):On { t with place:=SetTable.insertAt t.place p j } k:=by
 obtain ⟨i,hi⟩:=h
 by_cases c:i < p
 ·exact ⟨i,by show (SetTable.insertAt t.place p j)[i]? = _; rw [T8 hp,if_pos c]; exact hi⟩
 ·exact ⟨i + 1,by show (SetTable.insertAt t.place p j)[i + 1]? = _; rw [T8 hp,if_neg (by omega),if_neg (by omega)]; exact hi⟩
theorem TB.put {t:SetTable} {hs:List Int} (T:TB t hs) {h:Int} {e:Nat} (h1:¬On t (nth t (t.probeStart h) e).j) (h2:(nth t (t.probeStart h) e).j<=t.mask) (h3:∀m,m < e->On t (nth t (t.probeStart h) m).j) :
  TB (t.put (nth t (t.probeStart h) e).j).1 (Bg hs (t.put (nth t (t.probeStart h) e).j).2 h):=by
 have B:=Y4 T.rise (nth t (t.probeStart h) e).j
 rw [Os T.dum,Vr]
 obtain ⟨j,ej⟩:∃j,j=(nth t (t.probeStart h) e).j:=⟨_,rfl⟩
 rw [<-ej] at B h1 h2 ⊢
 obtain ⟨p,ep⟩:∃p,p=SetTable.below t.place j:=⟨_,rfl⟩
 rw [<-ep] at B ⊢
 have hp:=B.le
 have hp':p<=hs.length:=by rw [<-T.len]; exact hp
 refine ⟨T.dum,?_,?_,?_,?_⟩
 ·show (SetTable.insertAt t.place p j).size=_
  rw [Ty hp,Dx hp',T.len]
 ·show Au (SetTable.insertAt t.place p j)
  rw [ep]
  exact Wa T.rise fun i hi=>h1 ⟨i,hi⟩
 ·intro i k hk
  have hk':(SetTable.insertAt t.place p j)[i]? = some k:=hk
  rw [T8 hp] at hk'
  split at hk'
  ·exact T.top _ _ hk'
  ·split at hk'
   ·cases hk'; exact h2
   ·exact T.top _ _ hk'
 ·intro i g hg
  rw [Jq hp'] at hg
  have same:∀n p',nth { t with place:=SetTable.insertAt t.place p j } p' n=nth t p' n:=fun n p'=>Bj (t:={ t with place:=SetTable.insertAt t.place p j }) (u:=t) rfl n p'
  have old:∀i',hs[i']? = some g->∀i:Nat,(SetTable.insertAt t.place p j)[i]? = t.place[i']?->∃n,({ t with place:=SetTable.insertAt t.place p j }:SetTable).place[i]? = some (nth { t with place:=SetTable.insertAt t.place p j } (SetTable.probeStart { t with place:=SetTable.insertAt t.place p j } g) n).j/\∀m,m < n->On { t with place:=SetTable.insertAt t.place p j } (nth { t with place:=SetTable.insertAt t.place p j } (SetTable.probeStart { t with place:=SetTable.insertAt t.place p j } g) m).j:=fun i' hi' i ei=>by
   obtain ⟨n,a,b⟩:=T.reach i' g hi'
   refine ⟨n,?_,fun m hm=>?_⟩
   ·rw [same]
    exact ei.trans a
   ·rw [same]
    exact Vc hp (b m hm)
  by_cases c1:i < p
  ·rw [if_pos c1] at hg
   exact old i hg i (by rw [T8 hp,if_pos c1])
  ·rw [if_neg c1] at hg
   by_cases c2:i=p
   ·rw [if_pos c2] at hg
    cases hg
    refine ⟨e,?_,fun m hm=>?_⟩
    ·rw [same]
     show (SetTable.insertAt t.place p j)[i]? = some (nth t (t.probeStart h) e).j
     rw [T8 hp,if_neg c1,if_pos c2,ej]
    ·rw [same]
     exact Vc hp (h3 m hm)
   ·rw [if_neg c2] at hg
    exact old (i - 1) hg i (by rw [T8 hp,if_neg c1,if_neg c2])
end ST
end L2
namespace L2
open PySem
namespace ST
noncomputable abbrev tM (M:Nat):SetTable:=⟨M,#[],#[],0,true,0,true⟩
noncomputable abbrev Big (M:Nat):Prop:=M=7\/M=31\/M=127\/M=511
section
variable {M:Nat}
noncomputable def lp (M:Nat):Nat->Nat->Nat->Nat × Nat
 | 0,i,q=>(i,q)
 | k + 1,i,q=>lp M k ((i * 5 + 1 + q / 32) % (M + 1)) (q / 32)
theorem Uj:∀(a b i q:Nat),lp M (a + b) i q=lp M b (lp M a i q).1 (lp M a i q).2
 | 0,b,i,q=>by rw [Nat.zero_add]; rfl
 | a + 1,b,i,q=>by rw [show a + 1 + b=(a + b) + 1 by omega]; exact Uj a b _ _
theorem Adz:∀(k i q:Nat),(lp M k i q).2=q / 32 ^ k
 | 0,i,q=>by rw [Nat.pow_zero,Nat.div_one]; rfl
 | k + 1,i,q=>by
  show (lp M k _ (q / 32)).2=_
  rw [Adz,Nat.div_div_eq_div_mul,Nat.pow_succ,Nat.mul_comm 32]
theorem Aa0:∀(k i q:Nat),i < M + 1->(lp M k i q).1 < M + 1
 | 0,i,q,h=>h
 | k + 1,i,q,h=>Aa0 k _ _ (Nat.mod_lt _ (Nat.succ_pos _))
theorem Aaz:∀(k i:Nat),(lp M k i 0).1=it M k i
 | 0,i=>rfl
 | k + 1,i=>by
  show (lp M k ((i * 5 + 1 + 0 / 32) % (M + 1)) (0 / 32)).1=_
  rw [Nat.zero_div,Nat.add_zero,Aaz]
  rfl
theorem Qs (hM:Big M) (h:Int) {j:Nat} (hj:j < M + 1):∃k,k < SetTable.turns M/\(lp M k (SetTable.bits h % (M + 1)) (SetTable.bits h)).1=j:=by
 have q0:SetTable.bits h / 32 ^ 13=0:=Nat.div_eq_of_lt (Zq_ (Nj h) (by decide))
 have l1:=Aa0 (M:=M) 13 (SetTable.bits h % (M + 1)) (SetTable.bits h) (Nat.mod_lt _ (Nat.succ_pos _))
 have e1:=Adz (M:=M) 13 (SetTable.bits h % (M + 1)) (SetTable.bits h)
 rw [q0] at e1
 obtain ⟨k,hk,e⟩:=Ua (Kz hM) (Nat.le_of_lt_succ l1) (Nat.le_of_lt_succ hj)
 refine ⟨13 + k,by unfold SetTable.turns; omega,?_⟩
 rw [Uj,e1,Aaz]
 exact e
theorem Aez (i:Nat) (h:i < M + 1):SetTable.runEnd M i < M + 1/\i<=SetTable.runEnd M i:=by
 unfold SetTable.runEnd
 split <;> omega
theorem Nt {owner:Array (Option Nat)} (sz:owner.size=M + 1):∀(fuel i q:Nat),i < M + 1->(∃k,k < fuel/\owner[(lp M k i q).1]? = some none)->
  ∃e,SetTable.layClean.free M owner fuel i q=some (nth (tM M) (beg (tM M) i q) e).j/\owner[(nth (tM M) (beg (tM M) i q) e).j]? = some none/\∀m,m < e->∃k:Nat,owner[(nth (tM M) (beg (tM M) i q) m).j]? = some (some k)
 | 0,i,q,hi,⟨k,hk,_⟩=>absurd hk (Nat.not_lt_zero _)
 | fuel + 1,i,q,hi,⟨k,hk,ek⟩=>by
  obtain ⟨r1,r2⟩:=Aez i hi
  have pos:∀c,c<=SetTable.runEnd M i - i->(nth (tM M) (beg (tM M) i q) c).j=i + c:=fun c hc=>by rw [Hf (tM M) i q c hc]
  have val:∀c,c<=SetTable.runEnd M i - i->∃o,owner[i + c]? = some o/\owner.getD (i + c) (some 0)=o:=fun c hc=>by
   have hb:i + c < owner.size:=by omega
   exact ⟨owner[i + c],ZC hb,by rw [Array.getD_eq_getD_getElem?,ZC hb]; rfl⟩
  unfold SetTable.layClean.free
  cases hf:(List.range (SetTable.runEnd M i + 1 - i)).find? fun k=>(owner.getD (i + k) (some 0)).isNone with
  | some c=>
   obtain ⟨a,b,d⟩:=List.find?_range_eq_some.mp hf
   have hc:c<=SetTable.runEnd M i - i:=by have:=List.mem_range.mp b; omega
   refine ⟨c,?_,?_,fun m hm=>?_⟩
   ·show some (i + c)=_
    rw [pos c hc]
   ·rw [pos c hc]
    obtain ⟨o,e1,e2⟩:=val c hc
    rw [e2] at a
    rw [e1,Option.isNone_iff_eq_none.mp a]
   ·rw [pos m (by omega)]
    obtain ⟨o,e1,e2⟩:=val m (by omega)
    have:=d m hm
    rw [e2] at this
    cases o with
    | none=>simp at this
    | some k=>exact ⟨k,e1⟩
  | none=>
   have no:=List.find?_range_eq_none.mp hf
   have full:∀c,c<=SetTable.runEnd M i - i->∃k:Nat,owner[i + c]? = some (some k):=fun c hc=>by
    obtain ⟨o,e1,e2⟩:=val c hc
    have:=no c (by omega)
    rw [e2] at this
    cases o with
    | none=>simp at this
    | some k=>exact ⟨k,e1⟩
   have k1:k≠0:=fun z=>by
    subst z
    obtain ⟨k',e'⟩:=full 0 (Zp_ _)
    have e2:owner[i]? = some none:=ek
    rw [Nat.add_zero] at e'
    rw [e'] at e2
    cases e2
   obtain ⟨k',rfl⟩:∃k',k=k' + 1:=⟨k - 1,by omega⟩
   obtain ⟨e,a,b,d⟩:=Nt sz fuel ((i * 5 + 1 + q / 32) % (M + 1)) (q / 32) (Nat.mod_lt _ (Nat.succ_pos _)) ⟨k',by omega,ek⟩
   have jump:∀m,nth (tM M) (beg (tM M) i q) (SetTable.runEnd M i - i + 1 + m)=nth (tM M) (beg (tM M) ((i * 5 + 1 + q / 32) % (M + 1)) (q / 32)) m:=fun m=>by
    rw [Ab]
    show nth (tM M) (nth (tM M) (beg (tM M) i q) (SetTable.runEnd (tM M).mask i - i + 1)) m=_
    rw [Ef]
   refine ⟨SetTable.runEnd M i - i + 1 + e,?_,?_,fun m hm=>?_⟩
   ·rw [jump]
    exact a
   ·rw [jump]
    exact b
   ·by_cases c:m<=SetTable.runEnd M i - i
    ·rw [pos m c]
     exact full m c
    ·obtain ⟨m',rfl⟩:∃m',m=SetTable.runEnd M i - i + 1 + m':=⟨m - (SetTable.runEnd M i - i + 1),by omega⟩
     rw [jump]
     exact d m' (by omega)
structure LInv (M:Nat) (owner:Array (Option Nat)) (l:List Int):Prop where
 size:owner.size=M + 1
 val:∀(j k:Nat),owner[j]? = some (some k)->k < l.length
 uni:∀(j j' k:Nat),owner[j]? = some (some k)->owner[j']? = some (some k)->j=j'
 rch:∀(k:Nat) (h:Int),l[k]? = some h->∃n,owner[(nth (tM M) ((tM M).probeStart h) n).j]? = some (some k)/\∀m,m < n->∃k':Nat,owner[(nth (tM M) ((tM M).probeStart h) m).j]? = some (some k')
theorem LInv.begin:LInv M (Array.replicate (M + 1) none) []:=by
 have no:∀j k:Nat,(Array.replicate (M + 1) (none:Option Nat))[j]?≠some (some k):=fun j k e=>by
  rw [Array.getElem?_replicate] at e
  split at e <;> cases e
 exact ⟨by simp,fun j k h=>absurd h (no j k),fun j _ k h _=>absurd h (no j k),fun k h e=>by cases e⟩
theorem LInv.room {owner:Array (Option Nat)} {l:List Int} (L:LInv M owner l) (hl:l.length < M + 1):∃j,j < M + 1/\owner[j]? = some none:=Classical.byContradiction fun no=>by
 have all:∀j,j < M + 1->∃k,owner[j]? = some (some k):=fun j hj=>by
  have hb:j < owner.size:=by rw [L.size]; exact hj
  cases e:owner[j] with
  | none=>exact absurd ⟨j,hj,by rw [ZC hb,e]⟩ no
  | some k=>exact ⟨k,by rw [ZC hb,e]⟩
 have key:∀j,j < M + 1->∀k,owner[j]? = some (some k)->(owner.getD j none).getD 0=k:=fun j _ k e=>by rw [Array.getD_eq_getD_getElem?,e]; rfl
 have nd:((List.range (M + 1)).map fun j=>(owner.getD j none).getD 0).Nodup:=by
  unfold List.Nodup
  rw [List.pairwise_map]
  refine List.Pairwise.imp_of_mem ?_ (List.pairwise_lt_range (n:=M + 1))
  intro a b ha hb hab e
  obtain ⟨ka,ea⟩:=all a (List.mem_range.mp ha)
  obtain ⟨kb,eb⟩:=all b (List.mem_range.mp hb)
  rw [key a (List.mem_range.mp ha) ka ea,key b (List.mem_range.mp hb) kb eb] at e
  subst e
  have:=L.uni a b ka ea eb
  omega
 have sub:∀x∈(List.range (M + 1)).map (fun j=>(owner.getD j none).getD 0),x∈List.range l.length:=fun x hx=>by
  obtain ⟨j,hj,rfl⟩:=Θn hx
  obtain ⟨k,e⟩:=all j (List.mem_range.mp hj)
  rw [key j (List.mem_range.mp hj) k e]
  exact List.mem_range.mpr (L.val j k e)
 have:=nd_sub nd sub
 rw [Θl,List.length_range,List.length_range] at this
 omega
theorem LInv.next (hM:Big M) {owner:Array (Option Nat)} {l:List Int} (L:LInv M owner l) (hl:l.length < M + 1) (h:Int):∃j,SetTable.layClean.free M owner (SetTable.turns M) (SetTable.bits h % (M + 1)) (SetTable.bits h)=some j/\LInv M (owner.setIfInBounds j (some l.length)) (l++[h]):=by
 obtain ⟨j,hj,ej⟩:=L.room hl
 obtain ⟨k,hk,e⟩:=Qs hM h hj
 obtain ⟨n,a,b,d⟩:=Nt L.size (SetTable.turns M) _ _ (Nat.mod_lt _ (Nat.succ_pos _)) ⟨k,hk,by rw [e]; exact ej⟩
 refine ⟨_,a,?_⟩
 have st:(tM M).probeStart h=beg (tM M) (SetTable.bits h % (M + 1)) (SetTable.bits h):=rfl
 rw [<-st] at a b d ⊢
 generalize hs:(nth (tM M) ((tM M).probeStart h) n).j=s at a b
 have sb:s < owner.size:=(Array.getElem?_eq_some_iff.mp b).1
 have get:∀c,(owner.setIfInBounds s (some l.length))[c]? = if c=s then some (some l.length) else owner[c]?:=fun c=>by
  rw [Array.getElem?_setIfInBounds]
  by_cases z:s=c
  ·subst z; simp [sb]
  ·rw [if_neg z,if_neg (Ne.symm z)]
 have keep:∀c k',owner[c]? = some (some k')->(owner.setIfInBounds s (some l.length))[c]? = some (some k'):=fun c k' e'=>by
  rw [get,if_neg (fun z=>by rw [z,b] at e'; cases e')]
  exact e'
 refine ⟨by rw [Array.size_setIfInBounds]; exact L.size,fun c k' e'=>?_,fun c c' k' e1 e2=>?_,fun k' g e'=>?_⟩
 ·rw [get] at e'
  rw [Zv_,List.length_singleton]
  split at e'
  ·cases e'; omega
  ·have:=L.val c k' e'; omega
 ·rw [get] at e1 e2
  split at e1
  ·rename_i z1
   cases e1
   split at e2
   ·rename_i z2; omega
   ·have:=L.val _ _ e2; omega
  ·split at e2
   ·cases e2
    have:=L.val _ _ e1; omega
   ·exact L.uni _ _ _ e1 e2
 ·by_cases c:k' < l.length
  ·rw [List.getElem?_append_left c] at e'
   obtain ⟨n',x,y⟩:=L.rch k' g e'
   exact ⟨n',keep _ _ x,fun m hm=>(y m hm).imp fun k e=>keep _ _ e⟩
  ·have hk':k' = l.length:=by
    have:=(Ze_.mp e').1
    rw [Zv_,List.length_singleton] at this
    omega
   subst hk'
   rw [ZD (Zd_ _),Nat.sub_self] at e'
   cases e'
   exact ⟨n,by rw [hs,get,if_pos rfl],fun m hm=>(d m hm).imp fun k e=>keep _ _ e⟩
theorem Ju (hM:Big M) {f:Option (Array (Option Nat) × Nat)->Int->Option (Array (Option Nat) × Nat)} (hf:∀owner k h j,SetTable.layClean.free M owner (SetTable.turns M) (SetTable.bits h % (M + 1)) (SetTable.bits h)=some j->f (some (owner,k)) h=some (owner.setIfInBounds j (some k),k + 1)) :
  ∀(rest done:List Int) (owner:Array (Option Nat)),LInv M owner done->done.length + rest.length<=M->∃owner',rest.foldl f (some (owner,done.length))=some (owner',(done++rest).length)/\LInv M owner' (done++rest)
 | [],done,owner,L,_=>⟨owner,by rw [List.append_nil]; rfl,by rw [List.append_nil]; exact L⟩
 | h :: rest,done,owner,L,hl=>by
  rw [ZA] at hl
  obtain ⟨j,a,b⟩:=L.next hM (by omega) h
  obtain ⟨o',c,d⟩:=Ju hM hf rest (done++[h]) _ b (by rw [Zv_,List.length_singleton]; omega)
  rw [Zy_] at c d
  refine ⟨o',?_,d⟩
  rw [List.foldl_cons,hf _ _ _ _ a]
  rw [Zv_,List.length_singleton] at c
  exact c
theorem Yj (hM:Big M) {f:Option (Array (Option Nat) × Nat)->Int->Option (Array (Option Nat) × Nat)} (hf:∀owner k h j,SetTable.layClean.free M owner (SetTable.turns M) (SetTable.bits h % (M + 1)) (SetTable.bits h)=some j->f (some (owner,k)) h=some (owner.setIfInBounds j (some k),k + 1))
  (hs:List Int) (hl:hs.length<=M):∃owner,Option.map (fun x=>x.fst) (hs.foldl f (some (Array.replicate (M + 1) none,0)))=some owner/\LInv M owner hs:=by
 obtain ⟨o,a,b⟩:=Ju hM hf hs [] _ LInv.begin (by simpa using hl)
 exact ⟨o,by rw [show (some (Array.replicate (M + 1) (none:Option Nat),0))=some (Array.replicate (M + 1) none,([]:List Int).length) from rfl,a]; rfl,b⟩
theorem Abx (hM:Big M) (hs:List Int) (hl:hs.length<=M):∃owner,SetTable.layClean M hs.toArray=some owner/\LInv M owner hs:=by
 unfold SetTable.layClean
 rw [<-Array.foldl_toList,List.toList_toArray]
 refine Yj hM (fun owner k h j e=>?_) hs hl
 show Option.bind (SetTable.layClean.free M owner (SetTable.turns M) (SetTable.bits h % (M + 1)) (SetTable.bits h)) _=_
 rw [e]
 rfl
theorem Yh {owner:Array (Option Nat)} {hs:List Int} (L:LInv M owner hs) {f:Nat->Option (Nat × Nat)} (hf:∀j x,j < M + 1->(f j=some x↔x.1=j/\owner[j]? = some (some x.2))) (finger moves:Nat) (led plain:Bool) :
  ((((List.range (M + 1)).filterMap f).map (·.2)).toArray).toList.Perm (List.range hs.length)/\TB ⟨M,(((List.range (M + 1)).filterMap f).map (·.1)).toArray,#[],finger,led,moves,plain⟩ (((((List.range (M + 1)).filterMap f).map (·.2)).toArray).toList.map fun k=>hs.getD k 0):=by
 have mem:∀j k,(j,k)∈(List.range (M + 1)).filterMap f↔owner[j]? = some (some k):=fun j k=>by
  rw [List.mem_filterMap]
  constructor
  ·rintro ⟨a,ha,e⟩
   obtain ⟨e1,e2⟩:=(hf a _ (List.mem_range.mp ha)).mp e
   have e1':j=a:=e1
   rw [e1']
   exact e2
  ·intro e
   have hb:j < M + 1:=by have:=(Array.getElem?_eq_some_iff.mp e).1; rwa [L.size] at this
   exact ⟨j,List.mem_range.mpr hb,(hf j _ hb).mpr ⟨rfl,e⟩⟩
 have up:((List.range (M + 1)).filterMap f).Pairwise fun a b=>a.1 < b.1:=by
  rw [List.pairwise_filterMap]
  refine List.Pairwise.imp_of_mem ?_ (List.pairwise_lt_range (n:=M + 1))
  intro a b ha hb hab x hx y hy
  rw [((hf a _ (List.mem_range.mp ha)).mp hx).1,((hf b _ (List.mem_range.mp hb)).mp hy).1]
  exact hab
 generalize (List.range (M + 1)).filterMap f=live at mem up
 constructor
 ·show ((live.map (·.2)).toArray).toList.Perm _
  rw [List.toList_toArray,List.perm_ext_iff_of_nodup]
  ·intro k
   rw [List.mem_map,List.mem_range]
   constructor
   ·rintro ⟨⟨j,k'⟩,h1,rfl⟩
    exact L.val j k' ((mem j k').mp h1)
   ·intro hk
    obtain ⟨n,h1,_⟩:=L.rch k hs[k] (Θh hk)
    exact ⟨_,(mem _ _).mpr h1,rfl⟩
  ·unfold List.Nodup
   rw [List.pairwise_map]
   refine List.Pairwise.imp_of_mem ?_ up
   rintro ⟨j,k⟩ ⟨j',k'⟩ h1 h2 hlt (z:k=k')
   subst z
   have:=L.uni j j' k ((mem _ _).mp h1) ((mem _ _).mp h2)
   have hlt':j < j':=hlt
   omega
  ·exact List.nodup_range
 ·refine ⟨rfl,?_,?_,?_,?_⟩
  ·show ((live.map (·.1)).toArray).size=_
   simp
  ·show Au ((live.map (·.1)).toArray)
   rw [Kh]
   intro a b x y hab hx hy
   rw [List.getElem?_toArray,Θg] at hx hy
   obtain ⟨u,hu,rfl⟩:=Option.map_eq_some_iff.mp hx
   obtain ⟨v,hv',rfl⟩:=Option.map_eq_some_iff.mp hy
   obtain ⟨la,ea⟩:=Ze_.mp hu
   obtain ⟨lb,eb⟩:=Ze_.mp hv'
   have:=List.pairwise_iff_getElem.mp up a b la lb hab
   rw [ea,eb] at this
   exact this
  ·intro i j hj
   have hj':((live.map (·.1)).toArray)[i]? = some j:=hj
   rw [List.getElem?_toArray,Θg] at hj'
   obtain ⟨u,hu,rfl⟩:=Option.map_eq_some_iff.mp hj'
   have h1:=(mem u.1 u.2).mp (Θe hu)
   have:=(Array.getElem?_eq_some_iff.mp h1).1
   rw [L.size] at this
   show u.1<=M
   omega
  ·intro i h hi
   rw [List.toList_toArray,Θg,Θg] at hi
   obtain ⟨k,h1,h2⟩:=Option.map_eq_some_iff.mp hi
   obtain ⟨u,hu,h3⟩:=Option.map_eq_some_iff.mp h1
   have ou:=(mem u.1 u.2).mp (Θe hu)
   have ku:=L.val _ _ ou
   subst h3
   have eh:hs[u.2]? = some h:=by
    rw [Θh ku,<-h2,Zu_,Θh ku]
    rfl
   obtain ⟨n,a,b⟩:=L.rch _ _ eh
   have es:=L.uni _ _ _ a ou
   have sm:∀(T:SetTable),T.mask=M->∀m p,nth T p m=nth (tM M) p m:=fun T hT m p=>Bj (t:=T) (u:=(tM M)) hT m p
   refine ⟨n,?_,fun m hm=>?_⟩
   ·rw [sm _ rfl]
    show ((live.map (·.1)).toArray)[i]? = some (nth (tM M) ((tM M).probeStart h) n).j
    rw [List.getElem?_toArray,Θg,hu,es]
    rfl
   ·rw [sm _ rfl]
    obtain ⟨k',e'⟩:=b m hm
    have hm':=(mem _ _).mpr e'
    obtain ⟨i',hi',ei'⟩:=List.getElem_of_mem hm'
    refine ⟨i',?_⟩
    show ((live.map (·.1)).toArray)[i']? = some (nth (tM M) ((tM M).probeStart h) m).j
    rw [List.getElem?_toArray,Θg,Θh hi',ei']
    rfl
theorem Yi (hM:Big M) (hs:List Int) (hl:hs.length<=M) (finger moves:Nat) (led plain:Bool) :
  ∃(t:SetTable) (order:Array Nat),SetTable.laid M finger moves led plain hs.toArray=some (t,order)/\t.mask=M/\t.led=led/\t.plain=plain/\order.toList.Perm (List.range hs.length)/\TB t (order.toList.map fun k=>hs.getD k 0):=by
 obtain ⟨owner,e,L⟩:=Abx hM hs hl
 unfold SetTable.laid
 rw [e]
 refine ⟨_,_,rfl,rfl,rfl,rfl,Yh L (fun j x hj=>?_) finger moves led plain⟩
 have hb:j < owner.size:=by rw [L.size]; exact hj
 rw [Option.map_eq_some_iff,Array.getD_eq_getD_getElem?,ZC hb]
 constructor
 ·rintro ⟨k,e1,rfl⟩
  exact ⟨rfl,congrArg some e1⟩
 ·rintro ⟨e1,e2⟩
  exact ⟨x.2,Θo e2,by rw [<-e1]⟩
end
end ST
end L2
namespace L2
open PySem PySem.Spec
namespace ST
section
variable {prog:Program} {w:World} {K:Type} [DecidableEq K] (knd:PySem.KeyKind prog w K)
noncomputable def ent (p:List K × Addr):Int × Value:=(tupleKeyHash knd p.1,.ref p.2)
structure Els (Pl:Prop) (h:Heap) (a:Addr) (xs:List (List K × Addr)) (led:Bool) (o:Obj) (ep:Nat) (t:SetTable):Prop where
 at_:h.get? a=some o
 ex:o.ExactSet
 data:o.data = .set ((xs.map (ent knd)).toArray) ep t
 tab:TOk t (xs.map fun p=>tupleKeyHash knd p.1)
 plain:Pl->t.plain=true
 led_:t.led=led
 keys:∀p∈xs,IsTupleKey knd h p.1 p.2
 nd:(xs.map (·.1)).Nodup
noncomputable def TSet (Pl:Prop) (h:Heap) (a:Addr) (xs:List (List K × Addr)) (led:Bool):Prop:=∃o ep t,Els knd Pl h a xs led o ep t
end
section
variable {prog:Program} {w:World} {K:Type} [DecidableEq K] {knd:PySem.KeyKind prog w K} {A:Around} {E:Value->Shared->Prop} {s:Shared} {a b:Addr} {xs:List (List K × Addr)} {led:Bool} {o:Obj} {ep:Nat} {t:SetTable} {k:List K} {Pl:Prop}
theorem Els.size (S:Els knd Pl s.heap a xs led o ep t):((xs.map (ent knd)).toArray).size=xs.length:=by simp
theorem TB.fits {hs:List Int} {t:SetTable} (T:TB t hs) (n:Nat) (hn:n=hs.length) (room:hs.length<=t.mask):t.fits n=true:=by
 unfold SetTable.fits SetTable.fill
 rw [T.len,T.dum,hn]
 simp
 exact room
theorem TOk.room {hs:List Int} {t:SetTable} (T:TOk t hs):hs.length<=t.mask:=by
 rcases T.small with ⟨h1,h2⟩ | ⟨h1,h2⟩ | ⟨h1,h2⟩ | ⟨h1,h2⟩ <;> omega
theorem Els.fits (S:Els knd Pl s.heap a xs led o ep t):t.fits ((xs.map (ent knd)).toArray).size=true:=S.tab.toTB.fits _ (by simp) S.tab.room
theorem Els.state {Q:(Array (Int × Value) × Nat × SetTable)->Shared->Prop} (S:Els knd Pl s.heap a xs led o ep t) (h:Q ((xs.map (ent knd)).toArray,ep,t) s):wpAny (model prog w) A (setState a) Q E s:=
 wpAny_setState_of S.at_ S.data S.fits h
theorem Uq (T:TOk t (xs.map fun p=>tupleKeyHash knd p.1)):t.gaveWay=false:=by
 unfold SetTable.gaveWay
 rcases T.small with ⟨h,_⟩ | ⟨h,_⟩ | ⟨h,_⟩ | ⟨h,_⟩ <;> rw [h] <;> rfl
theorem Oh {n:Nat} {Q:Bool->Shared->Prop} (hk:IsTupleKey knd s.heap k b) (h:Q false s):wpAny (model prog w) A (ofAClassStatement (n + 1) (.ref b)) Q E s:=by
 have hT:=hk.typeIs
 obtain ⟨ob,items,c,hb,hc,hd,hi⟩:=hk
 unfold ofAClassStatement
 refine Za_ (wpAny_typeOf hT ?_)
 dsimp only
 rw [if_pos (by rfl)]
 refine Za_ (Zb_ ?_)
 simp only [Bool.not_true,Bool.false_eq_true,if_false]
 refine Za_ (wpAny_seqItems hb hd ?_)
 dsimp only
 refine Za_ ?_
 rw [<-Array.forIn_toList]
 refine wpAny_forIn_list _ (fun rest r s'=>r.1=none/\s' = s/\∀v∈rest,carriedByValue v=true) _ (fun v rest r s' h1=>?_) (fun r s' h1=>?_) _ _ ⟨rfl,rfl,hi.byValue⟩
 ·obtain ⟨_,rfl,h3⟩:=h1
  have hv:=h3 v (Θc ..)
  have e:ofAClassStatement n v=pure false:=by
   cases v with
   | ref _=>cases hv
   | _=>unfold ofAClassStatement; rfl
  rw [e]
  refine Za_ (Zb_ ?_)
  simp only [Bool.false_eq_true,if_false]
  exact Zb_ ⟨rfl,rfl,fun u hu=>h3 u (Θd _ hu)⟩
 ·obtain ⟨h1,rfl,_⟩:=h1
  obtain ⟨r1,r2⟩:=r
  dsimp only at h1
  subst h1
  exact Zb_ h
theorem Adi {ys:List Value} {Q:Bool->Shared->Prop} (hk:IsTupleKey knd s.heap k b) (hy:∀y∈ys,∃k' b',y = .ref b'/\IsTupleKey knd s.heap k' b') (h:Q false s):wpAny (model prog w) A (searchCouldBeSeen (.ref b) ys) Q E s:=by
 unfold searchCouldBeSeen
 refine Za_ ?_
 refine wpAny_forIn_list _ (fun rest r s'=>r.1=none/\s' = s/\∀y∈rest,∃k' b',y = .ref b'/\IsTupleKey knd s.heap k' b') _ (fun y rest r s' h1=>?_) (fun r s' h1=>?_) _ _ ⟨rfl,rfl,hy⟩
 ·obtain ⟨_,rfl,h3⟩:=h1
  obtain ⟨k',b',rfl,hb'⟩:=h3 y (Θc ..)
  have next:∀y∈rest,∃k' b',y = .ref b'/\IsTupleKey knd s'.heap k' b':=fun u hu=>h3 u (Θd _ hu)
  dsimp only
  split
  ·exact Zb_ ⟨rfl,rfl,next⟩
  ·refine Za_ (wpAny_eqIsQuiet_tuple hk ?_)
   simp only [Bool.not_true,Bool.false_eq_true,if_false]
   refine Za_ (wpAny_eqIsQuiet_tuple hb' ?_)
   simp only [Bool.not_true,Bool.false_eq_true,if_false]
   refine Za_ (Oh hk ?_)
   simp only [Bool.false_eq_true,if_false]
   refine Za_ (Oh hb' ?_)
   simp only [Bool.false_eq_true,if_false]
   exact Zb_ ⟨rfl,rfl,next⟩
 ·obtain ⟨h1,rfl,_⟩:=h1
  obtain ⟨r1,r2⟩:=r
  dsimp only at h1
  subst h1
  exact Zb_ h
theorem Td {n:Nat} {Q:Bool->Shared->Prop} (hv:∀(k:K) (v:Value),knd.is k v=true->hashByValue n v=pure true\/(¬Pl/\hashByValue n v=pure false)) (hk:IsTupleKey knd s.heap k b) (h:∀c,(Pl->c=true)->Q c s):wpAny (model prog w) A (hashByValue (n + 1) (.ref b)) Q E s:=by
 have hT:=hk.typeIs
 obtain ⟨ob,items,c,hb,hc,hd,hi⟩:=hk
 have hv':∀v∈items.toList,hashByValue n v=pure true\/(¬Pl/\hashByValue n v=pure false):=by
  have:∀{ks:List K} {vs:List Value},ItemsAre knd ks vs->∀v∈vs,hashByValue n v=pure true\/(¬Pl/\hashByValue n v=pure false):=fun {ks vs} h=>by
   induction h with
   | nil=>intro v h; cases h
   | cons h1 _ ih=>
    intro v h
    rcases Zg_.mp h with rfl | h
    ·exact hv _ _ h1
    ·exact ih v h
  exact this hi
 unfold hashByValue
 refine Za_ (wpAny_specialOf hT F.slot_tuple_hash.lookup ?_)
 dsimp only
 refine Za_ (wpAny_seqItems hb hd ?_)
 simp only [Option.getD_some]
 refine Za_ ?_
 rw [<-Array.forIn_toList]
 refine wpAny_mono (wpAny_forIn_list _ (fun rest r s'=>r.1=none/\s' = s/\∀v∈rest,hashByValue n v=pure true\/(¬Pl/\hashByValue n v=pure false)) (fun r s'=>(r.1=none\/(¬Pl/\r.1=some false))/\s' = s) (fun v rest r s' h1=>?_) (fun r s' h1=>⟨.inl h1.1,h1.2.1⟩) _ _ ⟨rfl,rfl,hv'⟩) (fun r s' h1=>?_) fun _ _ e=>e
 ·obtain ⟨_,rfl,h3⟩:=h1
  rcases h3 v (Θc ..) with e | ⟨np,e⟩
  ·rw [e]
   refine Za_ (Zb_ ?_)
   simp only [Bool.not_true,Bool.false_eq_true,if_false]
   exact Zb_ ⟨rfl,rfl,fun u hu=>h3 u (Θd _ hu)⟩
  ·rw [e]
   refine Za_ (Zb_ ?_)
   simp only [Bool.not_false,if_true]
   exact Zb_ ⟨.inr ⟨np,rfl⟩,rfl⟩
 ·obtain ⟨h1,rfl⟩:=h1
  obtain ⟨r1,r2⟩:=r
  dsimp only at h1
  rcases h1 with rfl | ⟨np,rfl⟩
  ·exact Zb_ (h true fun _=>rfl)
  ·exact Zb_ (h false fun p=>absurd p np)
theorem TB.setPlain {hs:List Int} {t:SetTable} (T:TB t hs) (b:Bool):TB { t with plain:=b } hs:=by
 have e:∀n p,nth { t with plain:=b } p n=nth t p n:=fun n p=>Bj (t:={ t with plain:=b }) (u:=t) rfl n p
 refine ⟨T.dum,T.len,T.rise,T.top,fun i h hi=>?_⟩
 obtain ⟨n,h1,h2⟩:=T.reach i h hi
 refine ⟨n,?_,fun m hm=>?_⟩
 ·rw [e]; exact h1
 ·rw [e]; exact h2 m hm
theorem Vn (f:Nat->Int) (h:Int) (p:SetTable.Probe):t.probe f h p=SetTable.probe.go t f h (10 * SetTable.turns t.mask) p:=rfl
theorem Wp (t:SetTable):t.sameMemory t.moves t.mask=some true:=by
 unfold SetTable.sameMemory
 rw [if_pos (beq_self_eq_true _)]
theorem Lw {α:Type} {M:Model} {c:Bool} {sc:Sem Bool} {bad m:Sem α} {Q:α->Shared->Prop} (h1:∀Q':Bool->Shared->Prop,Q' false s->wpAny M A sc Q' E s) (h:wpAny M A m Q E s) :
  wpAny M A (if c=true then sc >>= fun x=>if x=true then bad else m else m) Q E s:=by
 cases c with
 | true=>
  rw [if_pos rfl]
  refine Za_ (h1 _ ?_)
  rw [if_neg Zf_]
  exact h
 | false=>
  rw [if_neg Zf_]
  exact h
theorem Ye {M:Model} {b:Addr} {Q:Bool->Shared->Prop} (h:Q true s):wpAny M A (isSame (.ref b) (.ref b)) Q E s:=by
 unfold isSame
 dsimp only
 rw [if_pos (beq_self_eq_true _)]
 exact Zb_ h
theorem Kj {h:Int} {e:Nat} {Q:SetFound->Shared->Prop} (S:Els knd Pl s.heap a xs led o ep t) (hk:IsTupleKey knd s.heap k b) (eh:h=tupleKeyHash knd k) (hu:A.units < cLine)
  (he:e < 10 * SetTable.turns t.mask) (h1:¬On t (nth t (t.probeStart h) e).j) (h3:∀m,m < e->On t (nth t (t.probeStart h) m).j)
  (yes:(∃b',(k,b')∈xs)->Q (.there none) s) (no:(∀b',(k,b')∉xs)->Q (.free (nth t (t.probeStart h) e).j false) s) :
  ∀(d c fuel:Nat) (st:Option SetTable.Probe),d=e - c->c<=e->d < fuel->st.getD (t.probeStart h)=nth t (t.probeStart h) c->
   (∀m,m < c->∀(i:Nat),t.place[i]? = some (nth t (t.probeStart h) m).j->∀b':Addr,xs[i]?≠some (k,b'))->
   wpAny (model prog w) A (setSearchFrom a (.ref b) h true fuel st) Q E s:=by
 intro d
 induction d using Nat.strongRecOn with
 | ind d ih=>
  intro c fuel st hd hc hf hst hno
  match fuel,hf with
  | fuel + 1,hf=>
   have T:=S.tab.toTB
   unfold setSearchFrom
   refine Za_ (S.state ?_)
   dsimp only
   rw [Uq S.tab]
   simp only [Bool.false_eq_true,if_false]
   rw [hst,Vn]
   have idx:∀m,m < e->∃(i:Nat) (p:List K × Addr),t.place[i]? = some (nth t (t.probeStart h) m).j/\xs[i]? = some p:=fun m hm=>by
    obtain ⟨i,hi⟩:=h3 m hm
    have hl:i < xs.length:=by
     have:=(Array.getElem?_eq_some_iff.mp hi).1
     rw [T.len,Θl] at this
     exact this
    exact ⟨i,xs[i],hi,Θh hl⟩
   have sub:∀m,nth t (nth t (t.probeStart h) c) m=nth t (t.probeStart h) (c + m):=fun m=>(Ab t c m _).symm
   have dn:(nth t (t.probeStart h) c).dummy=none:=Bt c rfl
   by_cases any:∃m,m < e - c/\∃(i:Nat) (p:List K × Addr),t.place[i]? = some (nth t (t.probeStart h) (c + m)).j/\xs[i]? = some p/\tupleKeyHash knd p.1=h
   ·obtain ⟨m0,hm0,w0⟩:=any
    obtain ⟨m,hm,⟨hme,i,p,hi,hp,hh⟩,least'⟩:=Ug (P:=fun m=>m < e - c/\∃(i:Nat) (p:List K × Addr),t.place[i]? = some (nth t (t.probeStart h) (c + m)).j/\xs[i]? = some p/\tupleKeyHash knd p.1=h) _ m0 (Nat.lt_succ_self _) ⟨hm0,w0⟩
    have gi:∀(i:Nat) (p:List K × Addr),xs[i]? = some p->((xs.map (ent knd)).toArray)[i]? = some (ent knd p):=fun i p hp=>by rw [List.getElem?_toArray,Θg,hp]; rfl
    rw [Nu T.rise _ m i _ (by omega) (by rw [sub]; exact hi) (by show ((((xs.map (ent knd)).toArray)[i]?).map _).getD 0=h; rw [gi i p hp]; exact hh) (fun m' hm'=>by
     obtain ⟨i',p',hi',hp'⟩:=idx (c + m') (by omega)
     refine ⟨i',by rw [sub]; exact hi',?_⟩
     show ((((xs.map (ent knd)).toArray)[i']?).map _).getD 0≠h
     rw [gi i' p' hp']
     exact fun z=>least' m' hm' ⟨by omega,i',p',hi',hp',z⟩)]
    dsimp only
    have pm:p∈xs:=Θe hp
    refine Lw (fun Q' q'=>Adi hk (fun y hy=>?_) q') ?_
    ·obtain ⟨u,hu',rfl⟩:=Θn hy
     rw [Array.toList_filter] at hu'
     obtain ⟨v,hv,rfl⟩:=Θn (List.mem_filter.mp hu').1
     exact ⟨v.1,v.2,rfl,S.keys v hv⟩
    rw [gi i p hp]
    dsimp only [ent]
    refine Za_ (wpAny_holding (wpAny_eqBool_tuple hu (S.keys p pm) hk ?_))
    refine Za_ (S.state ?_)
    dsimp only
    by_cases sk:p.1=k
    ·rw [Zr_ sk]
     simp only [Bool.and_self,if_true]
     exact Zb_ (yes ⟨p.2,by rw [<-sk]; exact pm⟩)
    ·rw [decide_eq_false sk]
     simp only [Bool.and_false,Bool.false_eq_true,if_false]
     rw [Wp]
     dsimp only
     rw [if_pos rfl,sub,Da T.rise hi]
     dsimp only
     rw [gi i p hp]
     dsimp only [ent]
     refine Za_ (Ye ?_)
     refine Za_ (Zb_ ?_)
     simp only [if_true]
     refine ih (e - (c + m + 1)) (by omega) (c + m + 1) fuel _ rfl (by omega) (by omega) (by show nth t (nth t (t.probeStart h) c) (m + 1)=_; rw [sub]; rfl) (fun m' hm' i' hi' b' hb'=>?_)
     by_cases cc:m' < c
     ·exact hno m' cc i' hi' b' hb'
     ·obtain ⟨m2,rfl⟩:∃m2,m' = c + m2:=⟨m' - c,by omega⟩
      by_cases c2:m2 < m
      ·exact least' m2 c2 ⟨by omega,i',_,hi',hb',eh.symm⟩
      ·have:m2=m:=by omega
       subst this
       have ei:i' = i:=by rw [<-Dj T.rise hi',<-Dj T.rise hi]
       rw [ei,hp] at hb'
       exact sk (by rw [Θo hb'])
   ·rw [Jo T.rise T.dum _ (e - c) _ dn (by omega) (by rw [sub,show c + (e - c)=e by omega]; exact h1) (fun m hm=>by
     obtain ⟨i,p,hi,hp⟩:=idx (c + m) (by omega)
     refine ⟨i,by rw [sub]; exact hi,?_⟩
     show ((((xs.map (ent knd)).toArray)[i]?).map _).getD 0≠h
     rw [List.getElem?_toArray,Θg,hp]
     exact fun z=>any ⟨m,hm,i,p,hi,hp,z⟩)]
    rw [sub,show c + (e - c)=e by omega]
    dsimp only
    refine Zb_ (no fun b' hb'=>?_)
    obtain ⟨i,hi⟩:=List.getElem?_of_mem hb'
    obtain ⟨n,hn,hon⟩:=T.reach i h (by rw [Θg,hi,eh]; rfl)
    have ne:n < e:=by
     rcases Nat.lt_trichotomy n e with z | z | z
     ·exact z
     ·subst z; exact absurd ⟨i,hn⟩ h1
     ·exact absurd (hon e z) h1
    by_cases cc:n < c
    ·exact hno n cc i hn b' hi
    ·exact any ⟨n - c,by omega,i,_,by rw [show c + (n - c)=n by omega]; exact hn,hi,eh.symm⟩
end
end ST
end L2
namespace L2
open PySem PySem.Spec
namespace ST
section
variable {prog:Program} {w:World} {K:Type} [DecidableEq K] {knd:PySem.KeyKind prog w K} {A:Around} {E:Value->Shared->Prop} {s:Shared} {a b:Addr} {xs:List (List K × Addr)} {led:Bool} {o:Obj} {ep:Nat} {t:SetTable} {k:List K} {Pl:Prop}
theorem Gz {h h':Heap} {es:Array (Int × Value)} (x:IsTupleKey knd h k b) (ho:h.get? a=some o) (hd:o.data = .set es ep t) (hs:Heap.SameBut a h h'):IsTupleKey knd h' k b:=by
 obtain ⟨ob,items,n,h1,h2,h3,h4⟩:=x
 have ne:b≠a:=fun z=>by
  subst z
  rw [h1] at ho
  cases ho
  rw [h3] at hd
  cases hd
 exact ⟨ob,items,n,by rw [hs.2 b ne]; exact h1,h2,h3,h4⟩
theorem Yc (xs:List (List K × Addr)) (p:Nat) (x:List K × Addr):SetTable.insertAt (xs.map (ent knd)).toArray p (ent knd x)=((Bg xs p x).map (ent knd)).toArray:=by
 apply Array.toList_inj.mp
 rw [Dy,List.toList_toArray,List.toList_toArray,Jr]
theorem Rx (d:α):∀l:List α,(List.range l.length).map (fun i=>l.getD i d)=l:=fun l=>by
 apply List.ext_getElem?
 intro i
 rw [Θg]
 by_cases h:i < l.length
 ·rw [Θh (by rw [List.length_range]; exact h),Θh h,List.getElem_range]
  show some (l.getD i d)=_
  rw [Zu_,Θh h]
  rfl
 ·rw [List.getElem?_eq_none (by rw [List.length_range]; omega),List.getElem?_eq_none (by omega)]
  rfl
theorem Mf {α β:Type} {f:α->β} {l:List α} (d:α) {order:Array Nat} (h:order.toList.Perm (List.range l.length)):order.filterMap (fun i=>((l.map f).toArray)[i]?)=((order.toList.map fun i=>l.getD i d).map f).toArray:=by
 apply Array.toList_inj.mp
 rw [Array.toList_filterMap,List.toList_toArray,List.map_map]
 have all:∀i∈order.toList,i < l.length:=fun i hi=>List.mem_range.mp (h.mem_iff.mp hi)
 generalize order.toList=L at all
 induction L with
 | nil=>rfl
 | cons i L ih=>
  have hi:=all i (Θc ..)
  rw [List.filterMap_cons,List.map_cons,ih fun j hj=>all j (Θd _ hj),List.getElem?_toArray,Θg,Θh hi]
  show f l[i] :: _=f (l.getD i d) :: _
  rw [Zu_,Θh hi]
  rfl
theorem stored {h:Heap} {es:Array (Int × Value)} (ho:h.get? a=some o) (hd:o.data = .set es ep t) (es':Array (Int × Value)) (t':SetTable):(h.update a (Obj.putSet es' t')).get? a=some { o with data:=.set es' (ep + 1) t' }:=by
 have e:=putSet_of es' t' hd
 exact e ▸ Heap.get?_update_self _ ho (by rw [e]; rfl)
theorem An {n:Nat} (h:n<=1000):n<=sizeLine:=by rw [sizeLine_eq]; omega
theorem Aa9 {Q:Bool->Shared->Prop} (S:Els knd Pl s.heap a xs led o ep t) (hk:IsTupleKey knd s.heap k b) (hu:A.units < cLine) (hv:∀(k:K) (v:Value),knd.is k v=true->hashByValue 7 v=pure true\/(¬Pl/\hashByValue 7 v=pure false)) (room:xs.length + 1<=306)
  (yes:(∃b',(k,b')∈xs)->Q false s) (no:(∀b',(k,b')∉xs)->∀h' xs',Heap.SameBut a s.heap h'->TSet knd Pl h' a xs' led->xs'.Perm ((k,b) :: xs)->Q true { s with heap:=h' }) :
  wpAny (model prog w) A (setAddHashed a (.ref b) (tupleKeyHash knd k)) Q E s:=by
 obtain ⟨e,he,h1,h2,h3⟩:=S.tab.first (tupleKeyHash knd k)
 unfold setAddHashed setAddHashedIn
 refine wpAny_holding (Za_ (S.state ?_))
 dsimp only
 have ns:byScan (Value.ref b) ((xs.map (ent knd)).toArray)=false:=by unfold byScan; rfl
 rw [ns]
 simp only [Bool.false_eq_true,if_false]
 unfold setSearch
 refine Za_ (Kj S hk rfl hu he h1 h3 (fun y=>?_) (fun n=>?_) e 0 100000 none (by omega) (Zp_ _) (by
  rcases S.tab.sm with f | f | f | f <;> (rw [f] at he; unfold SetTable.turns at he; omega)) rfl (fun m hm=>absurd hm (Nat.not_lt_zero _)))
 ·exact Zb_ (yes y)
 ·dsimp only
  refine Za_ (S.state ?_)
  dsimp only
  have B:=S.tab.toTB.put h1 h2 h3
  have pl:(t.put (nth t (t.probeStart (tupleKeyHash knd k)) e).j).2<=xs.length:=by
   rw [Vr]
   have:=(Y4 S.tab.rise (nth t (t.probeStart (tupleKeyHash knd k)) e).j).le
   rw [S.tab.len,Θl] at this
   exact this
  have pd:=Os S.tab.dum (nth t (t.probeStart (tupleKeyHash knd k)) e).j
  generalize t.put (nth t (t.probeStart (tupleKeyHash knd k)) e).j=pp at B pd pl
  obtain ⟨t1,p⟩:=pp
  dsimp only at B pd pl ⊢
  have m1:t1.mask=t.mask:=by rw [pd]
  have l1:t1.led=led:=by rw [pd]; exact S.led_
  have q1:Pl->t1.plain=true:=fun h=>by rw [pd]; exact S.plain h
  by_cases cp:t1.plain=true
  case' pos=>
   rw [if_pos cp]
   refine Za_ (Td (Pl:=Pl) hv hk fun bv hbv=>?_)
   rcases bv with _ | _
   case' false=>
    simp only [Bool.false_eq_true,if_false]
    replace B:=B.setPlain false
    replace m1:({ t1 with plain:=false }:SetTable).mask=t.mask:=m1
    replace l1:({ t1 with plain:=false }:SetTable).led=led:=l1
    replace q1:Pl->({ t1 with plain:=false }:SetTable).plain=true:=fun h=>absurd (hbv h) (by decide)
    clear pd cp hbv
    generalize ({ t1 with plain:=false }:SetTable)=T1 at B m1 l1 q1 ⊢
   case' true=>
    simp only [if_true]
    clear pd cp hbv
    generalize t1=T1 at B m1 l1 q1 ⊢
  case' neg=>
   rw [if_neg cp]
   refine Za_ (Zb_ ?_)
   simp only [if_true]
   clear pd cp
   generalize t1=T1 at B m1 l1 q1 ⊢
  all_goals
   have ei:SetTable.insertAt ((xs.map (ent knd)).toArray) p (tupleKeyHash knd k,Value.ref b)=((Bg xs p (k,b)).map (ent knd)).toArray:=Yc xs p (k,b)
   rw [ei]
   have xp:=Qg xs p (k,b)
   have xl:=Dx pl (k,b)
   rw [<-Jr (fun p:List K × Addr=>tupleKeyHash knd p.1) xs p (k,b)] at B
   generalize Bg xs p (k,b)=xs1 at B xp xl
   have sz1:((xs1.map (ent knd)).toArray).size=xs1.length:=by simp
   have hl1:(xs1.map fun p=>tupleKeyHash knd p.1).length=xs1.length:=Θl ..
   refine Za_ (wpAny_storeSet_of S.at_ S.data ?_ (by rw [sz1]; exact An (by omega)))
   have ho1:=stored S.at_ S.data ((xs1.map (ent knd)).toArray) T1
   have sb1:=Heap.SameBut.update s.heap a (Obj.putSet ((xs1.map (ent knd)).toArray) T1)
   have ks1:∀h',Heap.SameBut a s.heap h'->∀p∈xs1,IsTupleKey knd h' p.1 p.2:=fun h' sb p hp=>by
    rcases Zg_.mp (xp.mem_iff.mp hp) with rfl | hp
    ·exact Gz hk S.at_ S.data sb
    ·exact Gz (S.keys p hp) S.at_ S.data sb
   have nd1:(xs1.map (·.1)).Nodup:=by
    rw [(xp.map (·.1)).nodup_iff,List.map_cons,List.nodup_cons]
    refine ⟨fun z=>?_,S.nd⟩
    obtain ⟨q,hq,e'⟩:=Θn z
    have e2:q.1=k:=e'
    exact n q.2 (e2 ▸ hq)
   have tf:T1.tooFull=decide ((xs.length + 1) * 5 ≥ t.mask * 3):=by
    unfold SetTable.tooFull SetTable.fill
    rw [B.len,B.dum,hl1,xl,m1]
    rfl
   rw [tf]
   simp only [Bool.not_false,Bool.true_and,decide_eq_true_eq]
   by_cases full:(xs.length + 1) * 5 ≥ t.mask * 3
   ·rw [if_pos full]
    obtain ⟨W,M,ew,eM,hM,lM,hs2⟩:∃W M,SetTable.grown (((xs.map (ent knd)).toArray).size + 1)=W/\SetTable.sizeAbove W=M + 1/\Big M/\xs.length + 1<=M/\(M=31/\xs.length + 1<=18\/M=127/\xs.length + 1<=76\/M=511/\xs.length + 1<=306):=by
     rw [S.size]
     rcases S.tab.small with ⟨x1,x2⟩ | ⟨x1,x2⟩ | ⟨x1,x2⟩ | ⟨x1,x2⟩ <;> rw [Θl] at x2
     ·have e:xs.length=4:=by omega
      rw [e]
      exact ⟨20,31,rfl,rfl,Or.inr (Or.inl rfl),by omega,Or.inl ⟨rfl,by omega⟩⟩
     ·have e:xs.length=18:=by omega
      rw [e]
      exact ⟨76,127,rfl,rfl,Or.inr (Or.inr (Or.inl rfl)),by omega,Or.inr (Or.inl ⟨rfl,by omega⟩)⟩
     ·have e:xs.length=76:=by omega
      rw [e]
      exact ⟨308,511,rfl,rfl,Or.inr (Or.inr (Or.inr rfl)),by omega,Or.inr (Or.inr ⟨rfl,by omega⟩)⟩
     ·omega
    rw [ew]
    unfold setRelay
    refine Za_ (Za_ (wpAny_setState_of ho1 rfl (by rw [sz1]; exact B.fits _ (by rw [hl1]) (by rw [hl1,m1,xl]; have:=S.tab.room; rw [Θl] at this; rcases S.tab.small with ⟨x1,x2⟩ | ⟨x1,x2⟩ | ⟨x1,x2⟩ | ⟨x1,x2⟩ <;> rw [Θl] at x2 <;> omega)) ?_))
    dsimp only
    rw [if_neg (by rw [eM]; exact Nat.not_lt.mpr (An (by omega)))]
    obtain ⟨t2,order,el,m2,l2,q2,op,B2⟩:=Yi hM (xs1.map fun p=>tupleKeyHash knd p.1) (by rw [hl1,xl]; exact lM) T1.finger (T1.movedTo M) T1.led T1.plain
    have eh:Array.map (fun x=>x.fst) ((xs1.map (ent knd)).toArray)=(xs1.map fun p=>tupleKeyHash knd p.1).toArray:=by
     apply Array.toList_inj.mp
     rw [Array.toList_map,List.toList_toArray,List.toList_toArray,List.map_map]
     rfl
    have er:T1.relaid (Array.map (fun x=>x.fst) ((xs1.map (ent knd)).toArray)) W=some (t2,order):=by
     rw [eh]
     unfold SetTable.relaid
     rw [eM]
     exact el
    rw [er]
    rw [hl1] at op
    have e2:=Mf (f:=ent knd) (([],0):List K × Addr) op
    obtain ⟨xs2,hx2⟩:∃xs2,xs2=order.toList.map fun i=>xs1.getD i ([],0):=⟨_,rfl⟩
    rw [<-hx2] at e2
    have xp2:xs2.Perm xs1:=by
     rw [hx2]
     have:=op.map fun i=>xs1.getD i ([],0)
     rw [Rx] at this
     exact this
    have hh2:(order.toList.map fun i=>(xs1.map fun p=>tupleKeyHash knd p.1).getD i 0)=xs2.map fun p=>tupleKeyHash knd p.1:=by
     rw [hx2,List.map_map]
     refine List.map_congr_left fun i hi=>?_
     have hl:i < xs1.length:=List.mem_range.mp (op.mem_iff.mp hi)
     show _=tupleKeyHash knd (xs1.getD i ([],0)).1
     rw [Zu_,Θg,Zu_,Θh hl]
     rfl
    rw [hh2] at B2
    have hl2:xs2.length=xs1.length:=xp2.length_eq
    have sz2:((xs2.map (ent knd)).toArray).size=xs2.length:=by simp
    refine Za_ (wpAny_of_eq (a:=((xs2.map (ent knd)).toArray,t2)) ?_ ?_)
    ·rw [<-e2]
     show (ite _ _ _)=_
     rw [if_neg (by rw [e2,sz2,sz1,hl2]; simp)]
    ·dsimp only
     have sb2:=Heap.SameBut.update (s.heap.update a (Obj.putSet ((xs1.map (ent knd)).toArray) T1)) a (Obj.putSet ((xs2.map (ent knd)).toArray) t2)
     refine wpAny_storeSet_of ho1 rfl ?_ (by rw [sz2]; exact An (by omega))
     have ho2:=stored ho1 rfl ((xs2.map (ent knd)).toArray) t2
     refine Zb_ (no n _ xs2 (sb1.trans sb2) ⟨_,_,t2,ho2,S.ex,rfl,⟨B2,?_⟩,fun h=>q2.trans (q1 h),l2.trans l1,fun p hp=>ks1 _ (sb1.trans sb2) p (xp2.mem_iff.mp hp),?_⟩ (xp2.trans xp))
     ·rw [Θl,hl2,xl,m2]
      rcases hs2 with h | h | h
      ·exact Or.inr (Or.inl h)
      ·exact Or.inr (Or.inr (Or.inl h))
      ·exact Or.inr (Or.inr (Or.inr h))
     ·rw [(xp2.map (·.1)).nodup_iff]; exact nd1
   ·rw [if_neg full]
    refine Zb_ (no n _ xs1 sb1 ⟨_,_,T1,ho1,S.ex,rfl,⟨B,?_⟩,q1,l1,ks1 _ sb1,nd1⟩ xp)
    rw [hl1,m1]
    rcases S.tab.small with ⟨x1,x2⟩ | ⟨x1,x2⟩ | ⟨x1,x2⟩ | ⟨x1,x2⟩ <;> rw [Θl] at x2
    ·exact Or.inl ⟨x1,by omega⟩
    ·exact Or.inr (Or.inl ⟨x1,by omega⟩)
    ·exact Or.inr (Or.inr (Or.inl ⟨x1,by omega⟩))
    ·exact Or.inr (Or.inr (Or.inr ⟨x1,by omega⟩))
end
end ST
end L2
namespace L2
open PySem PySem.Spec
namespace ST
section
variable {prog:Program} {w:World} {K:Type} [DecidableEq K] {knd:PySem.KeyKind prog w K} {A:Around} {a I:Addr} {fp wr:List Addr} {St:Nat->Heap->Prop} {led:Bool} {ts:List (List K × Addr)} {R:Result->Shared->Prop} {P:Nat->Value->Prop} {N:Nat} {Pl:Prop}
theorem TSet.other {h h':Heap} {xs:List (List K × Addr)} (S:TSet knd Pl h a xs led) (e:∀b o,h.get? b=some o->(∀p∈xs,True)->(b=a\/∃p∈xs,b=p.2)->h'.get? b=some o):TSet knd Pl h' a xs led:=by
 obtain ⟨o,ep,t,S⟩:=S
 refine ⟨o,ep,t,e a o S.at_ (fun _ _=>trivial) (Or.inl rfl),S.ex,S.data,S.tab,S.plain,S.led_,fun p hp=>?_,S.nd⟩
 obtain ⟨ob,items,n,h1,h2⟩:=S.keys p hp
 exact ⟨ob,items,n,e _ _ h1 (fun _ _=>trivial) (Or.inr ⟨p,hp,rfl⟩),h2⟩
theorem Jt {h h':Heap} {k:List K} {b:Addr} (x:IsTupleKey knd h k b) (e:∀o,h.get? b=some o->h'.get? b=some o):IsTupleKey knd h' k b:=by
 obtain ⟨ob,items,n,h1,h2⟩:=x
 exact ⟨ob,items,n,e _ h1,h2⟩
theorem Ym (W:Walks prog w A.in1 I fp wr N P St) (hN:N=ts.length) (hP:∀i v,P i v->∃p,ts[i]? = some p/\v = .ref p.2) (haf:a∉fp) (hu:A.in1.units < cLine) (hv:∀(k:K) (v:Value),knd.is k v=true->hashByValue 7 v=pure true\/(¬Pl/\hashByValue 7 v=pure false)) (l18:ts.length<=306) (hw:∀p∈ts,p.2∉wr) :
  ∀(n i:Nat) (s:Shared) (xs:List (List K × Addr)),n=ts.length - i->i<=ts.length->St i s.heap->TSet knd Pl s.heap a xs led->(∀p∈xs,p∈ts)->(∀k,(∃b,(k,b)∈xs)↔k∈(ts.take i).map (·.1))->xs.length<=i->(∀p∈ts,IsTupleKey knd s.heap p.1 p.2)->
   (∀h' tk xs',(∀b o,b≠a->b∉wr->s.heap.get? b=some o->h'.get? b=some o)->TSet knd Pl h' a xs' led->(∀p∈xs',p∈ts)->(∀k,(∃b,(k,b)∈xs')↔k∈ts.map (·.1))->R (.ok (.ret .none)) { s with heap:=h',toks:=tk })->
   codeAny (model prog w) A (.builtin "set.update.loop" ⟨[.ref a,.ref I],[]⟩) R s:=by
 have haw:a∉wr:=fun h=>haf (W.sub _ h)
 subst hN
 intro n
 induction n with
 | zero=>
  intro i s xs hn hi st S sub mem len keys q
  have e:i=ts.length:=by omega
  subst e
  refine codeAny_builtin PyProof.Rows.F.entry_set_update_loop ?_
  rw [Around.under_plainId PyProof.Rows.F.plain_set_update_loop _]
  unfold Builtin.«set.update.loop»
  dsimp only
  refine Za_ (W.done s _ _ st fun h' tk keep=>?_)
  dsimp only
  refine Zb_ (q h' tk xs (fun b o _ nb e=>keep b o nb e) (S.other fun b o e _ hb=>keep b o ?_ e) sub (by rw [List.take_length] at mem; exact mem))
  rcases hb with rfl | ⟨p,hp,rfl⟩
  ·exact haw
  ·exact hw p (sub p hp)
 | succ n ih=>
  intro i s xs hn hi st S sub mem len keys q
  have hlt:i < ts.length:=by omega
  refine codeAny_builtin PyProof.Rows.F.entry_set_update_loop ?_
  rw [Around.under_plainId PyProof.Rows.F.plain_set_update_loop _]
  unfold Builtin.«set.update.loop»
  dsimp only
  refine Za_ (W.item i s _ _ hlt st fun v h' tk hv' st' keep=>?_)
  obtain ⟨⟨k,b⟩,hp,rfl⟩:=hP _ _ hv'
  have pm:(k,b)∈ts:=Θe hp
  have keys':∀p∈ts,IsTupleKey knd h' p.1 p.2:=fun p hp=>Jt (keys p hp) fun o e=>keep _ o (hw p hp) e
  have S':TSet knd Pl h' a xs led:=S.other fun c o e _ hc=>keep c o (by
   rcases hc with rfl | ⟨p,hp,rfl⟩
   ·exact haw
   ·exact hw p (sub p hp)) e
  dsimp only
  refine Za_ (wpAny_holding ?_)
  unfold setAdd
  refine wpAny_holding (Za_ (wpAny_pyHash_tuple hu (keys' _ pm) ?_))
  obtain ⟨o,ep,t,S1⟩:=S'
  have et:(ts.take (i + 1)).map (·.1)=(ts.take i).map (·.1)++[k]:=by rw [List.take_succ,hp,Zw_]; rfl
  have go:∀(h2:Heap) (xs2:List (List K × Addr)),Heap.SameBut a h' h2->TSet knd Pl h2 a xs2 led->(∀p∈xs2,p∈ts)->(∀k',(∃b',(k',b')∈xs2)↔k'∈(ts.take (i + 1)).map (·.1))->xs2.length<=i + 1->
    codeAny (model prog w) A (.builtin "set.update.loop" ⟨[.ref a,.ref I],[]⟩) R { s with heap:=h2,toks:=tk + (k.length + 1) }:=fun h2 xs2 sb T2 sub2 mem2 len2=>
   ih (i + 1) _ xs2 (by omega) hlt (W.frame (i + 1) h' h2 st' fun c hc o e=>by rw [sb.2 c (fun z=>haf (z ▸ hc))]; exact e) T2 sub2 mem2 len2 (fun p hp=>Gz (keys' p hp) S1.at_ S1.data sb)
    fun h3 tk3 xs3 keep3 T3 sub3 mem3=>q h3 tk3 xs3 (fun c o nc nw e=>keep3 c o nc nw (by show h2.get? c=some o; rw [sb.2 c nc]; exact keep c o nw e)) T3 sub3 mem3
  refine Aa9 (s:={ s with heap:=h',toks:=tk + (k.length + 1) }) S1 (keys' _ pm) hu hv (by omega) (fun y=>?_) (fun n' h2 xs2 sb T2 xp=>?_)
  ·refine Zb_ ⟨plainId_quiet PyProof.Rows.F.plain_set_update_loop _,go h' xs (Heap.SameBut.refl a h') ⟨o,ep,t,S1⟩ sub (fun k'=>?_) (by omega)⟩
   rw [et,List.mem_append,mem k',List.mem_singleton]
   refine ⟨Or.inl,fun z=>?_⟩
   rcases z with z | rfl
   ·exact z
   ·exact (mem k').mp y
  ·refine Zb_ ⟨plainId_quiet PyProof.Rows.F.plain_set_update_loop _,go h2 xs2 sb T2 (fun p hp=>?_) (fun k'=>?_) (by rw [xp.length_eq,ZA]; omega)⟩
   ·rcases Zg_.mp (xp.mem_iff.mp hp) with rfl | hp
    ·exact pm
    ·exact sub p hp
   ·rw [et,List.mem_append,<-mem k',List.mem_singleton]
    constructor
    ·rintro ⟨b',hb'⟩
     rcases Zg_.mp (xp.mem_iff.mp hb') with z | z
     ·exact Or.inr (Prod.mk.inj z).1
     ·exact Or.inl ⟨b',z⟩
    ·rintro (⟨b',hb'⟩ | rfl)
     ·exact ⟨b',xp.mem_iff.mpr (Θd _ hb')⟩
     ·exact ⟨b,xp.mem_iff.mpr (Θc ..)⟩
end
end ST
end L2
namespace L2
open PySem PySem.Spec
namespace ST
section
variable {prog:Program} {w:World} {K:Type} [DecidableEq K] {knd:PySem.KeyKind prog w K} {A:Around} {E:Value->Shared->Prop} {s:Shared} {Pl:Prop}
noncomputable abbrev ledBy (w:World):Bool:=!w.params.followText "set-order"
noncomputable abbrev bare (w:World):Obj:={ cls:=.type "set",data:=.set #[] 0 (.fresh 0 0 (ledBy w)) }
theorem Um {a:Value} {R:PySem.Fin->Shared->Prop} (h:R (.done (.ret (.ref s.heap.objs.size))) { s with heap:=s.heap.push (bare w) }) :
  wpAny (model prog w) A (Builtin.«set.__new__» ⟨[.type "set",a],[]⟩) R E s:=by
 have hsub:=PySem.sub_set_self
 unfold Builtin.«set.__new__» Builtin.Frozenset.newClass
 wp_walk
 refine wpAny_askSetting (Zb_ ?_)
 dsimp only
 wp_walk
 exact h
theorem Tl (finger moves:Nat) (led:Bool):TOk (.fresh finger moves led) [] where
 dum:=rfl
 len:=rfl
 rise:=fun a b h hb=>absurd hb (Nat.not_lt_zero _)
 top:=fun i j h=>by
  have:(#[]:Array Nat)[i]? = some j:=h
  simp at this
 reach:=fun i h e=>by cases e
 small:=Or.inl ⟨rfl,by decide⟩
theorem called_bare {l:Addr} {ts:List (List K × Addr)} {Q:Value->Shared->Prop} (hh:A.handled=none) (hl:s.heap.IsList l ((ts.map fun p=>Value.ref p.2).toArray)) (keys:∀p∈ts,IsTupleKey knd s.heap p.1 p.2) (hu:A.in1.in1.in1.units < cLine) (hv:∀(k:K) (v:Value),knd.is k v=true->hashByValue 7 v=pure true\/(¬Pl/\hashByValue 7 v=pure false)) (l18:ts.length<=306)
  (h:∀h' tk xs,TSet knd Pl h' s.heap.objs.size xs (ledBy w)->(∀p∈xs,p∈ts)->(∀k,(∃b,(k,b)∈xs)↔k∈ts.map (·.1))->(∀b o,b < s.heap.objs.size->s.heap.get? b=some o->h'.get? b=some o)->Q (.ref s.heap.objs.size) { s with heap:=h',toks:=tk }) :
  wpAny (model prog w) A (call (.type "set") [.ref l]) Q E s:=by
 refine wpAny_call ?_
 refine codeAny_of_tree ?_
 wp_walk
 have C:=PySem.F.called_set
 obtain ⟨c,tl,hm⟩:=C.mro
 have n1:=C.notType
 have n2:=C.canCreate
 have n3:=C.made
 have n4:=C.sub
 have chk:=PySem.F.typeCall_set_1 (.ref l)
 constructor
 ·exact Code.quiet_builtin _ (by decide +kernel)
 refine codeAny_builtin PySem.F.entry_type_call ?_
 rw [Around.under_plain (weight_type_call_type "set" [.ref l] []) rfl]
 unfold Builtin.«type.__call__»
 wp_walk
 refine codeAny_call_builtin PySem.F.plain_set_new PySem.F.entry_set_new (wpAny_of_eq (PySem.F.newCall_set_1 (.ref l)) (Um ?_))
 have hS:(s.heap.push (bare w)).get? s.heap.objs.size=some (bare w):=Zm_ _ rfl
 have ty:Shared.TypeIs { s with heap:=s.heap.push (bare w) } (.ref s.heap.objs.size) "set":=⟨_,hS,rfl⟩
 have li:=C.init.lookup
 have bi:=C.init.bind (.ref s.heap.objs.size)
 wp_walk
 refine codeAny_call_builtin C.init.plain PySem.F.entry_set_init (check_set_init_1 ty ?_)
 have hl1:(s.heap.push (bare w)).IsList l ((ts.map fun p=>Value.ref p.2).toArray):=hl.push _
 have lty:Shared.TypeIs { s with heap:=s.heap.push (bare w) } (.ref l) "list":=by
  obtain ⟨ol,a1,a2,_⟩:=hl1
  exact ⟨ol,a1,a2⟩
 have s1:=PySem.F.sub_list_set
 have s2:=PySem.F.sub_list_frozenset
 unfold Builtin.«set.__init__» noKeywords Builtin.Frozenset.updateFrom
 wp_walk using wpAny_pyIter_list hl1
 have lt:l < s.heap.objs.size:=by obtain ⟨ol,a1,_⟩:=hl; exact Zn_ a1
 have sz:(s.heap.push (bare w)).objs.size=s.heap.objs.size + 1:=Heap.size_push ..
 refine Ym (knd:=knd) (a:=s.heap.objs.size) (led:=ledBy w) (Walks.list (A:=A.in1.in1.in1) hh _ l (Nat.ne_of_lt (by show l < (s.heap.push (bare w)).objs.size; rw [sz]; exact Nat.lt_succ_of_lt lt)) ((ts.map fun p=>Value.ref p.2).toArray)) (by simp) (fun i v e=>?_) ?_ hu hv l18 (fun p hp=>?_) ts.length 0 _ [] (by omega) (Nat.zero_le _) ⟨⟨_,Heap.get?_push_size _ rfl,rfl,rfl⟩,hl1.push _⟩ ⟨bare w,0,.fresh 0 0 (ledBy w),Heap.get?_push_of_some _ hS,⟨rfl,rfl,rfl⟩,rfl,Tl _ _ _,fun _=>rfl,rfl,fun p hp=>absurd hp List.not_mem_nil,List.nodup_nil⟩ (fun p hp=>absurd hp List.not_mem_nil) (fun k=>?_) (Nat.zero_le _) (fun p hp=>?_) (fun h' tk xs keep T sub mem=>?_)
 ·rw [List.getElem?_toArray,Θg] at e
  obtain ⟨p,h1,h2⟩:=Option.map_eq_some_iff.mp e
  exact ⟨p,h1,h2.symm⟩
 ·show s.heap.objs.size∉[(s.heap.push (bare w)).objs.size,l]
  rw [sz]
  intro z
  rcases Zg_.mp z with z | z
  ·exact absurd z (Zs_ (Nat.lt_succ_self _))
  ·exact absurd (Θs z) (Nat.ne_of_gt lt)
 ·show p.2∉[(s.heap.push (bare w)).objs.size]
  rw [sz]
  intro z
  obtain ⟨ob,_,_,h1,_⟩:=keys p hp
  exact absurd (Θs z) (Zs_ (Nat.lt_succ_of_lt (Zn_ h1)))
 ·simp
 ·exact Jt (keys p hp) fun o e=>Zc_ _ (Zc_ _ e)
 ·dsimp only
  wp_walk
  refine h h' tk xs T sub mem fun b o hb e=>keep b o (Zs_ hb) ?_ (Zc_ _ (Zc_ _ e))
  show b∉[(s.heap.push (bare w)).objs.size]
  rw [sz]
  intro z
  exact absurd (Θs z) (Zs_ (Nat.lt_succ_of_lt hb))
end
end ST
end L2
namespace L2
open PySem PySem.Spec PySem.W PyProof.Rows
namespace ST
theorem Dv {α:Type}:∀(l:List α) (i:Nat) (x:α),l[i]? = some x->(x :: l.eraseIdx i).Perm l
 | [],i,x,h=>by simp at h
 | y :: l,0,x,h=>by
  simp at h
  subst h
  exact List.Perm.refl _
 | y :: l,i + 1,x,h=>by
  simp at h
  exact (List.Perm.swap ..).trans ((Dv l i x h).cons y)
theorem Oo {α:Type} (f:Nat->Nat):∀(n k:Nat) (l:List α) (out:Array α),l.length=n->(pickOrder.go f n k l out).toList.Perm (out.toList++l)
 | 0,k,l,out,h=>by
  unfold pickOrder.go
  rw [List.eq_nil_of_length_eq_zero h,List.append_nil]
 | n + 1,k,l,out,h=>by
  unfold pickOrder.go
  have hi:f k % l.length < l.length:=Nat.mod_lt _ (by omega)
  have e:=Θh hi
  rw [e]
  dsimp only
  refine (Oo f n (k + 1) _ _ (by rw [List.length_eraseIdx,if_pos hi]; omega)).trans ?_
  rw [Array.toList_push,Zy_]
  exact (Dv l _ _ e).append_left _
theorem Rs {α:Type} (f:Nat->Nat) (xs:Array α):(pickOrder f xs).toList.Perm xs.toList:=by
 unfold pickOrder
 simpa using Oo f xs.size 0 xs.toList #[] (by simp)
noncomputable def Cb (t:SetTable) (i:Nat):Nat:=if i=0 then 0 else t.place.getD (i - 1) 0 + 1
theorem Lg {t:SetTable} (R:Au t.place) {i:Nat} (hi:i<=t.place.size):SetTable.below t.place (Cb t i)=i:=by
 have B:=Y4 R (Cb t i)
 unfold Cb at B ⊢
 by_cases c:i=0
 ·rw [if_pos c] at B ⊢
  rcases Nat.eq_zero_or_pos (SetTable.below t.place 0) with e | e
  ·omega
  ·exact absurd (B.lo 0 e) (Nat.not_lt_zero _)
 ·rw [if_neg c] at B ⊢
  rcases Nat.lt_trichotomy (SetTable.below t.place (t.place.getD (i - 1) 0 + 1)) i with d | d | d
  ·have h1:=B.hi (i - 1) (by omega) (by omega)
   omega
  ·exact d
  ·have h1:=B.lo i d
   have h2:=R (i - 1) i (by omega) (by have:=B.le; omega)
   omega
end ST
end L2
namespace L2
open PySem PySem.Spec PySem.W PyProof.Rows
namespace ST
theorem Du:entryFor table "set.__iter__" = some Builtin.«frozenset.__iter__»:=entryFor_alias (id':="frozenset.__iter__") (by kernel_rfl) rfl (by decide +kernel) (by kernel_rfl)
theorem V4:entryFor table "set_iterator.__next__" = some Builtin.«set_iterator.__next__»:=entryFor_of_fast (by kernel_rfl)
theorem slot_setit_next:Slot "set_iterator" "__next__" "set_iterator.__next__":=
 .of (owner:="set_iterator") (n:="__next__") (by rw [typeLookup_type,builtinLookup_eq_fast]; kernel_rfl) (by decide +kernel) (by decide +kernel) (by decide +kernel)
  (by first | exact .inl (by decide +kernel) | exact .inr (by decide +kernel)) (by rw [isSubtype_type]; kernel_rfl)
theorem X7 (a:Value):argsOk "set_iterator.__next__" ⟨[a],[]⟩:=by
 unfold argsOk
 kernel_rfl
theorem Br:entryFor table "set_iterator.__iter__" = some Builtin.«dict_keyiterator.__iter__»:=entryFor_alias (id':="dict_keyiterator.__iter__") (by kernel_rfl) rfl (by decide +kernel) (by kernel_rfl)
theorem X9:Slot "set_iterator" "__iter__" "set_iterator.__iter__":=
 .of (owner:="set_iterator") (n:="__iter__") (by rw [typeLookup_type,builtinLookup_eq_fast]; kernel_rfl) (by decide +kernel) (by decide +kernel) (by decide +kernel)
  (by first | exact .inl (by decide +kernel) | exact .inr (by decide +kernel)) (by rw [isSubtype_type]; kernel_rfl)
theorem Ci (a:Value):argsOk "set_iterator.__iter__" ⟨[a],[]⟩:=by
 unfold argsOk
 kernel_rfl
structure SO (w:World) (o:Obj) (es:Array (Int × Value)) (ep:Nat) (t:SetTable):Prop where
 ex:o.ExactSet
 data:o.data = .set es ep t
 fits:t.fits es.size=true
 rise:Au t.place
 len:t.place.size=es.size
 plain:t.plain=true
 led:t.led = !w.params.followText "set-order"
noncomputable def given (w:World) (a:Addr) (ep:Nat) (es:Array (Int × Value)):Array (Int × Value):=if w.params.followText "set-order" = true then pickOrder (w.params.setOrder a ep) es else es
theorem given_perm {w:World} {a:Addr} {ep:Nat} {es:Array (Int × Value)}:(given w a ep es).toList.Perm es.toList:=by
 unfold given
 split
 ·exact Rs _ _
 ·exact List.Perm.refl _
theorem given_size {w:World} {a:Addr} {ep:Nat} {es:Array (Int × Value)}:(given w a ep es).size=es.size:=by
 have:=(given_perm (w:=w) (a:=a) (ep:=ep) (es:=es)).length_eq
 simpa using this
noncomputable def Ai (w:World) (t:SetTable) (i:Nat):Nat:=if w.params.followText "set-order" = true then 0 else Cb t i
noncomputable abbrev itO (a:Addr) (slot i n ep:Nat):Obj:={ cls:=.type "set_iterator",data:=.fields #[rawInt slot,rawInt i,.ref a,rawInt n,rawInt ep] }
section
variable {prog:Program} {w:World} {A:Around} {E:Value->Shared->Prop} {s:Shared} {a I:Addr} {o:Obj} {es:Array (Int × Value)} {ep:Nat} {t:SetTable}
theorem SO.state {Q:(Array (Int × Value) × Nat × SetTable)->Shared->Prop} (S:SO w o es ep t) (at_:s.heap.get? a=some o) (h:Q (es,ep,t) s):wpAny (model prog w) A (setState a) Q E s:=
 wpAny_setState_of at_ S.data S.fits h
theorem Y8 {α:Type} {M:Model} {c:Prop} [Decidable c] {x y:Sem α} {Q:α->Shared->Prop} (hc:¬c) (h:wpAny M A y Q E s):wpAny M A (if c then x else y) Q E s:=by
 rw [if_neg hc]
 exact h
theorem Gy {α:Type} {M:Model} {c:Prop} [Decidable c] {x y:Sem α} {Q:α->Shared->Prop} (hc:c) (h:wpAny M A x Q E s):wpAny M A (if c then x else y) Q E s:=by
 rw [if_pos hc]
 exact h
theorem Ub {Q:Value->Shared->Prop} (S:SO w o es ep t) (at_:s.heap.get? a=some o) (h:Q (.ref s.heap.objs.size) { s with heap:=s.heap.push (itO a 0 0 es.size ep) }):wpAny (model prog w) A (pyIter (.ref a)) Q E s:=by
 have hT:s.TypeIs (.ref a) "set":=⟨o,at_,S.ex.1⟩
 refine wpAny_pyIter_slot hT PySem.F.slot_set_iter (wpAny_call_entry PySem.F.slot_set_iter hT Du ?_ (PySem.F.args_set_iter_1 _))
 unfold Builtin.«frozenset.__iter__» Builtin.Frozenset.slot0 Builtin.Frozenset.sizeOf setEntries setDrawn setsByText setEpoch
 wp_walk using S.state at_
 refine wpAny_askSetting (Zb_ (Zb_ ?_))
 dsimp only
 refine Y8 (show ¬((!_ && (!t.plain && decide _))=true) from by rw [S.plain]; simp) ?_
 wp_walk using S.state at_
 exact ⟨_,rfl,"set_iterator",_,⟨_,Zm_ _ rfl,rfl⟩,slot_setit_next.lookup,h⟩
theorem Wv {Q:Value->Shared->Prop} {i j n:Nat} (hI:s.heap.get? I=some (itO a j i n ep)) (h:Q (.ref I) s):wpAny (model prog w) A (pyIter (.ref I)) Q E s:=by
 have hT:s.TypeIs (.ref I) "set_iterator":=⟨_,hI,rfl⟩
 refine wpAny_pyIter_slot hT X9 (wpAny_call_entry X9 hT Br ?_ (Ci _))
 show wpAny _ _ (ret (.ref I)) _ _ s
 exact Zb_ ⟨_,rfl,"set_iterator",_,hT,slot_setit_next.lookup,h⟩
end
end ST
end L2
namespace L2
open PySem PySem.Spec PySem.W PyProof.Rows
namespace ST
section
variable {prog:Program} {w:World} {A:Around} {E:Value->Shared->Prop} {s:Shared} {a I:Addr} {o:Obj} {es:Array (Int × Value)} {ep:Nat} {t:SetTable}
theorem Ku {Q:Option (Value × Nat)->Shared->Prop} {i:Nat} (S:SO w o es ep t) (at_:s.heap.get? a=some o) (hi:i<=es.size)
  (h:Q (((given w a ep es)[i]?).map fun e=>(e.2,Ai w t (i + 1))) s):wpAny (model prog w) A (setNext a (Ai w t i) i ep) Q E s:=by
 unfold setNext setsByText
 refine Za_ (S.state at_ ?_)
 dsimp only
 refine Za_ (Za_ (wpAny_askSetting (Zb_ ?_)))
 unfold given Ai at *
 by_cases c:w.params.followText "set-order" = true
 ·rw [if_pos c] at h
  simp only [if_pos c] at h ⊢
  refine Gy c ?_
  refine Y8 (by simp) ?_
  unfold setWalk setsByText
  refine Za_ (Za_ (S.state at_ ?_))
  dsimp only
  refine Za_ (Za_ (wpAny_askSetting (Zb_ ?_)))
  refine Gy c ?_
  refine Za_ (wpAny_askSetting ?_)
  exact Zb_ (Zb_ h)
 ·simp only [if_neg c] at h ⊢
  refine Y8 c ?_
  refine Y8 (show ¬((!t.plain && decide (es.size > 1))=true) from by rw [S.plain]; simp) ?_
  have hl:t.led=true:=by
   rw [S.led]
   simpa using c
  refine wpAny_bind (m:=(if (!t.led && !es.isEmpty)=true then unsupported "set:maker-not-led" else pure PUnit.unit)) (Y8 (by rw [hl]; simp) (wpAny_pure ?_))
  refine Zb_ ?_
  rw [Lg S.rise (by rw [S.len]; exact hi)]
  by_cases d:i < es.size
  ·rw [Gi (show i < t.place.size by rw [S.len]; exact d)]
   rw [ZC d] at h ⊢
   simp only [Option.map_some,Cb,Nat.add_eq_zero_iff,Nat.succ_ne_self,and_false,if_false,Nat.add_sub_cancel] at h
   exact h
  ·have e:es[i]? = none:=Array.getElem?_eq_none (by omega)
   rw [e] at h ⊢
   exact h
end
end ST
end L2
namespace L2
open PySem PySem.Spec PySem.W PyProof.Rows
namespace ST
section
variable {prog:Program} {w:World} {A:Around} {E:Value->Shared->Prop} {s:Shared} {a I:Addr} {o:Obj} {es:Array (Int × Value)} {ep:Nat} {t:SetTable}
theorem Uo {Q:Option Value->Shared->Prop} {i:Nat} {e:Int × Value} (S:SO w o es ep t) (at_:s.heap.get? a=some o) (ne:a≠I) (hI:s.heap.get? I=some (itO a (Ai w t i) i es.size ep)) (he:(given w a ep es)[i]? = some e)
  (h:∀h',h'.get? I=some (itO a (Ai w t (i + 1)) (i + 1) es.size ep)->(∀b o,b≠I->s.heap.get? b=some o->h'.get? b=some o)->Q (some e.2) { s with heap:=h' }):wpAny (model prog w) A (pyNext (.ref I)) Q E s:=by
 have hT:s.TypeIs (.ref I) "set_iterator":=⟨_,hI,rfl⟩
 have hi:i<=es.size:=by
  have:=(Array.getElem?_eq_some_iff.mp he).1
  rw [given_size] at this
  omega
 unfold pyNext
 refine Za_ (wpAny_attempt (wpAny_callSpecial?_slot (name:=Str.ofString "__next__") hT slot_setit_next (wpAny_call_entry slot_setit_next hT V4 ?_ (X7 _))))
 unfold Builtin.«set_iterator.__next__» setEntries
 refine Za_ (Zb_ ?_)
 refine Za_ (wpAny_fieldsOf hI rfl ?_)
 simp only [rawInt]
 refine Za_ (Za_ (S.state at_ (Zb_ ?_)))
 refine Y8 (by simp) ?_
 simp only [Int.toNat_natCast]
 refine Za_ (Ku S at_ hi ?_)
 rw [he]
 simp only [Option.map_some]
 refine wpAny_bind (wpAny_setField hI rfl (by simp) ?_)
 have h1:(s.heap.update I (Obj.mapFields fun x=>x.setIfInBounds 0 (Value.int (↑(Ai w t (i + 1))) 0))).get? I=some (itO a (Ai w t (i + 1)) i es.size ep):=Heap.get?_update_self _ hI rfl
 refine wpAny_bind (wpAny_setField h1 rfl (by simp) (wpAny_pure ⟨_,rfl,wpAny_pure (h _ (Heap.get?_update_self _ h1 rfl) fun b o hb e'=>?_)⟩))
 exact (Heap.get?_update_other _ _ (Ne.symm hb)).trans ((Heap.get?_update_other _ _ (Ne.symm hb)).trans e')
theorem Yb {Q:Option Value->Shared->Prop} (hh:A.handled=none) (S:SO w o es ep t) (at_:s.heap.get? a=some o) (ne:a≠I) (hI:s.heap.get? I=some (itO a (Ai w t es.size) es.size es.size ep))
  (h:∀h',(∀b o,b≠I->s.heap.get? b=some o->h'.get? b=some o)->Q none { s with heap:=h' }):wpAny (model prog w) A (pyNext (.ref I)) Q E s:=by
 have hT:s.TypeIs (.ref I) "set_iterator":=⟨_,hI,rfl⟩
 have he:(given w a ep es)[es.size]? = none:=Array.getElem?_eq_none (by rw [given_size]; exact Zd_ _)
 have hh1:A.in1.handled=none:=hh
 unfold pyNext
 refine Za_ (wpAny_attempt (wpAny_callSpecial?_slot (name:=Str.ofString "__next__") hT slot_setit_next (wpAny_call_entry slot_setit_next hT V4 ?_ (X7 _))))
 unfold Builtin.«set_iterator.__next__» setEntries
 refine Za_ (Zb_ ?_)
 refine Za_ (wpAny_fieldsOf hI rfl ?_)
 simp only [rawInt]
 refine Za_ (Za_ (S.state at_ (Zb_ ?_)))
 refine Y8 (by simp) ?_
 simp only [Int.toNat_natCast]
 refine Za_ (Ku S at_ (Zd_ _) ?_)
 rw [he]
 simp only [Option.map_none]
 refine wpAny_bind (wpAny_setField hI rfl (by simp) ?_)
 wp_walk
 refine wpAny_raiseNew_none hh1 ?_
 refine Za_ (wpAny_isInstance (T:="StopIteration") (b:=true) ⟨_,Zm_ _ rfl,rfl⟩ isSubtype_stop (Zb_ (h _ fun b o hb e'=>?_)))
 exact Zc_ _ (Zc_ _ ((Heap.get?_update_other _ _ (Ne.symm hb)).trans e'))
theorem Su (hh:A.handled=none) (S:SO w o es ep t) (ne:a≠I):Walks prog w A I [I,a] [I] es.size (fun i v=>((given w a ep es)[i]?).map Prod.snd=some v) (fun i h=>h.get? I=some (itO a (Ai w t i) i es.size ep)/\h.get? a=some o) where
 sub:=fun b hb=>by
  rw [Θs hb]
  exact Θc ..
 frame:=fun _ _ _ st k=>⟨k I (by simp) _ st.1,k a (by simp) _ st.2⟩
 item:=fun i s Q E hi st h=>by
  have hg:i < (given w a ep es).size:=by
   rw [given_size]
   exact hi
  have e:=ZC hg
  exact Uo S st.2 ne st.1 e fun h' a1 a2=>h _ h' s.toks (by rw [e]; rfl) ⟨a1,a2 _ _ ne st.2⟩ fun b o hb e'=>a2 b o (fun c=>hb (by rw [c]; exact Θc ..)) e'
 done:=fun s Q E st h=>Yb hh S st.2 ne st.1 fun h' a2=>h h' s.toks fun b o hb e'=>a2 b o (fun c=>hb (by rw [c]; exact Θc ..)) e'
 self:=fun _ _ _ _ st h=>Wv st.1 h
theorem Tw {Q:Bool->Shared->Prop} (hT:s.TypeIs (.ref a) "set") (h:Q false s):wpAny (model prog w) A (Builtin.List.listLengthHint (.ref a)) Q E s:=by
 have e:splitId "set.__len__" = some ("set","__len__"):=by decide +kernel
 unfold Builtin.List.listLengthHint
 wp_walk
 rw [show typeLookup (Value.type "set") (Str.ofString "__len__")=_ from PySem.F.slot_set_len.lookup]
 refine Zb_ ?_
 dsimp only
 rw [e]
 dsimp only
 refine Za_ (wpAny_isInstance (T:="set") (b:=true) hT (by rw [isSubtype_type]; kernel_rfl) (Y8 (by decide) ?_))
 refine Gy (by decide +kernel) ?_
 exact Za_ (wpAny_typeOf hT (Zb_ h))
theorem src_set (S:SO w o es ep t):KdlSrc prog w "set" a a es.size (fun i v=>((given w a ep es)[i]?).map Prod.snd=some v) (fun h=>h.get? a=some o) where
 type:=fun _ e=>⟨o,e,S.ex.1⟩
 there:=fun _ e=>⟨Zn_ e,Zn_ e⟩
 keep:=fun _ _ e k=>k a (.inl rfl) o e
 notList:=by decide
 notTuple:=by decide
 hint:=fun _ _ s _ e h=>Tw (s:=s) ⟨o,e,S.ex.1⟩ h
 iter:=fun A s hh e=>⟨_,_,fun _ _ h=>Ub S e h,Su hh S (Zs_ (Zn_ e)),by
  refine ⟨?_,Zc_ _ e⟩
  rw [Zm_ _ rfl]
  unfold Ai Cb
  simp⟩
theorem collect_src {T:String} {r d:Addr} {n:Nat} {P:Nat->Value->Prop} {OK:Heap->Prop} {Q:List Value->Shared->Prop} (K:KdlSrc prog w T r d n P OK) (hh:A.handled=none) (ok:OK s.heap) (hn:n<=sizeLine)
  (h:∀h' tk (vs:List Value),vs.length=n->(∀(j:Nat) v,vs[j]? = some v->P j v)->s.heap.objs.size<=h'.objs.size->(∀b o,s.heap.get? b=some o->h'.get? b=some o)->Q vs { s with heap:=h',toks:=tk }):wpAny (model prog w) A (collect (.ref r)) Q E s:=by
 have lt:=K.there _ ok
 have key:∀R:Result->Shared->Prop,(∀h' tk acc c,(∀b o,b≠s.heap.objs.size->(s.heap.push { cls:=.type "list",data:=.seq #[] }).get? b=some o->h'.get? b=some o)->h'.get? s.heap.objs.size=some { cls:=.type "list",dict:=none,data:=.seq acc c,slots:=#[] }->ItemsOf P acc n->R (.ok (.ret (.ref s.heap.objs.size))) { s with heap:=h',toks:=tk })->
   codeAny (model prog w) A (.builtin "proto.collect" ⟨[.ref r],[]⟩) R s:=fun R hR=>by
  refine codeAny_builtin PySem.F.entry_proto_collect ?_
  rw [Around.under_plainId PySem.F.plain_proto_collect _]
  refine Za_ (m:=newList []) (wpAny_newObj_type ?_)
  refine Zb_ ⟨plainId_quiet PySem.F.plain_list_iadd _,codeAny_builtin PySem.F.entry_list_iadd ?_⟩
  rw [Around.under_plainId PySem.F.plain_list_iadd _]
  exact kdl_extend (A:=A) (s:={ s with heap:=s.heap.push { cls:=.type "list",data:=.seq #[] } }) K hh (K.keep _ _ ok fun b _ o e=>Zc_ _ e) s.heap.objs.size (Nat.ne_of_gt lt.1) (Nat.ne_of_gt lt.2) _ 0 (Zm_ _ rfl) hR hn
 unfold collect
 refine Za_ (wpAny_runValue (key _ fun h' tk acc c keep at_ it=>?_))
 refine Za_ (m:=load s.heap.objs.size) (wpAny_load at_ (Zb_ ?_))
 exact h h' tk acc.toList (by simpa using it.1) (fun j v e=>it.2 j v (by simpa using e)) (Nat.le_of_lt (Heap.lt_size at_)) fun b o e=>keep b o (Nat.ne_of_lt (Heap.lt_size e)) (Heap.get?_push_of_some _ e)
end
end ST
end L2
namespace L2
open PySem PySem.Spec PySem.W PyProof.Rows
namespace ST
noncomputable abbrev Qp (d:Addr) (i n ep:Nat):Obj:={ cls:=.type "dict_keyiterator",data:=.fields #[.ref d,.int i 0,.int n 0,.int ep 0] }
section
variable {prog:Program} {w:World} {A:Around} {E:Value->Shared->Prop} {s:Shared} {d I:Addr} {o:Obj} {es:Array DictEntry} {ep:Nat}
theorem Ql {Q:Value->Shared->Prop} (lo:(d == sysModules)=false) (cls:o.cls = .type "dict") (at_:s.heap.get? d=some o) (da:o.data = .dict es ep) (h:Q (.ref s.heap.objs.size) { s with heap:=s.heap.push (Qp d 0 es.size ep) }):wpAny (model prog w) A (pyIter (.ref d)) Q E s:=by
 have hT:s.TypeIs (.ref d) "dict":=⟨o,at_,cls⟩
 refine wpAny_pyIter_slot hT PySem.F.slot_dict_iter (wpAny_call_entry PySem.F.slot_dict_iter hT PySem.F.entry_dict_iter ?_ (PySem.F.args_dict_iter_1 _))
 unfold Builtin.«dict.__iter__» Builtin.Dict.showsAll
 wp_walk using wpAny_notOrdered_dict hT,wpAny_dictEntries at_ da,wpAny_dictEpoch at_ da
 exact ⟨_,rfl,"dict_keyiterator",_,⟨_,Zm_ _ rfl,rfl⟩,PySem.F.slot_dict_keyiterator_next.lookup,h⟩
theorem Qy {Q:Option Value->Shared->Prop} {i:Nat} {e:DictEntry} (at_:s.heap.get? d=some o) (da:o.data = .dict es ep) (ne:d≠I) (hI:s.heap.get? I=some (Qp d i es.size ep)) (he:es[i]? = some e)
  (h:∀h',h'.get? I=some (Qp d (i + 1) es.size ep)->(∀b o,b≠I->s.heap.get? b=some o->h'.get? b=some o)->Q (some e.key) { s with heap:=h' }):wpAny (model prog w) A (pyNext (.ref I)) Q E s:=by
 have hT:s.TypeIs (.ref I) "dict_keyiterator":=⟨_,hI,rfl⟩
 unfold pyNext
 refine Za_ (wpAny_attempt (wpAny_callSpecial?_slot (name:=Str.ofString "__next__") hT PySem.F.slot_dict_keyiterator_next (wpAny_call_entry PySem.F.slot_dict_keyiterator_next hT PySem.F.entry_dict_keyiterator_next ?_ (PySem.F.args_dict_keyiterator_next_1 _))))
 unfold Builtin.«dict_keyiterator.__next__»
 wp_walk using wpAny_typeNameOfWhole_keyiter hT,wpAny_dictEntries at_ da,wpAny_dictEpoch at_ da,wpAny_fieldsOf hI rfl,wpAny_isOneOf_keyiter hT
 rw [show (if (i:Int) < 0 then none else es[(i:Int).toNat]?)=some e from by rw [if_neg (by omega),Int.toNat_natCast]; exact he]
 dsimp only
 wp_walk using wpAny_typeNameOfWhole_keyiter hT,wpAny_isOneOf_keyiter hT
 have e1:Builtin.Dict_items.ownsTuple "dict_keyiterator" = false:=by decide
 rw [e1]
 refine ⟨_,rfl,Zb_ (h _ ?_ fun b o hb e'=>(Heap.get?_update_other _ _ (Ne.symm hb)).trans e')⟩
 refine (Heap.get?_update_self _ hI rfl).trans ?_
 rfl
theorem Tk {Q:Option Value->Shared->Prop} (hh:A.handled=none) (at_:s.heap.get? d=some o) (da:o.data = .dict es ep) (ne:d≠I) (hI:s.heap.get? I=some (Qp d es.size es.size ep))
  (h:∀h',(∀b o,b≠I->s.heap.get? b=some o->h'.get? b=some o)->Q none { s with heap:=h' }):wpAny (model prog w) A (pyNext (.ref I)) Q E s:=by
 have hT:s.TypeIs (.ref I) "dict_keyiterator":=⟨_,hI,rfl⟩
 have hh1:A.in1.handled=none:=hh
 unfold pyNext
 refine Za_ (wpAny_attempt (wpAny_callSpecial?_slot (name:=Str.ofString "__next__") hT PySem.F.slot_dict_keyiterator_next (wpAny_call_entry PySem.F.slot_dict_keyiterator_next hT PySem.F.entry_dict_keyiterator_next ?_ (PySem.F.args_dict_keyiterator_next_1 _))))
 unfold Builtin.«dict_keyiterator.__next__»
 wp_walk using wpAny_typeNameOfWhole_keyiter hT,wpAny_dictEntries at_ da,wpAny_dictEpoch at_ da,wpAny_fieldsOf hI rfl,wpAny_isOneOf_keyiter hT
 rw [show (if (es.size:Int) < 0 then none else es[(es.size:Int).toNat]?)=none from by rw [if_neg (by omega),Int.toNat_natCast]; exact Array.getElem?_eq_none (Zd_ _)]
 dsimp only
 wp_walk using wpAny_typeNameOfWhole_keyiter hT,wpAny_isOneOf_keyiter hT,wpAny_setField hI rfl (by show (if Builtin.Dict_items.ownsTuple "dict_keyiterator" = true then 2 else 0) < 4; decide)
 refine wpAny_raiseNew_none hh1 ?_
 refine Za_ (wpAny_isInstance (T:="StopIteration") (b:=true) ⟨_,Zm_ _ rfl,rfl⟩ isSubtype_stop (Zb_ (h _ fun b o hb e'=>?_)))
 exact Zc_ _ (Zc_ _ ((Heap.get?_update_other _ _ (Ne.symm hb)).trans e'))
theorem Sh {Q:Value->Shared->Prop} {i n:Nat} (hI:s.heap.get? I=some (Qp d i n ep)) (h:Q (.ref I) s):wpAny (model prog w) A (pyIter (.ref I)) Q E s:=
 wpAny_pyIter_keyiter ⟨_,hI,rfl,rfl⟩ h
theorem Nc (hh:A.handled=none) (da:o.data = .dict es ep) (ne:d≠I):Walks prog w A I [I,d] [I] es.size (fun i v=>(es[i]?).map DictEntry.key=some v) (fun i h=>h.get? I=some (Qp d i es.size ep)/\h.get? d=some o) where
 sub:=fun b hb=>by
  rw [Θs hb]
  exact Θc ..
 frame:=fun _ _ _ st k=>⟨k I (by simp) _ st.1,k d (by simp) _ st.2⟩
 item:=fun i s Q E hi st h=>by
  have e:=ZC hi
  exact Qy st.2 da ne st.1 e fun h' a1 a2=>h _ h' s.toks (by rw [e]; rfl) ⟨a1,a2 _ _ ne st.2⟩ fun b o hb e'=>a2 b o (fun c=>hb (by rw [c]; exact Θc ..)) e'
 done:=fun s Q E st h=>Tk hh st.2 da ne st.1 fun h' a2=>h h' s.toks fun b o hb e'=>a2 b o (fun c=>hb (by rw [c]; exact Θc ..)) e'
 self:=fun _ _ _ _ st h=>Sh st.1 h
theorem src_keys (lo:(d == sysModules)=false) (cls:o.cls = .type "dict") (da:o.data = .dict es ep):KdlSrc prog w "dict" d d es.size (fun i v=>(es[i]?).map DictEntry.key=some v) (fun h=>h.get? d=some o) where
 type:=fun _ e=>⟨o,e,cls⟩
 there:=fun _ e=>⟨Zn_ e,Zn_ e⟩
 keep:=fun _ _ e k=>k d (.inl rfl) o e
 notList:=by decide
 notTuple:=by decide
 hint:=fun _ _ s _ e h=>kdl_hint_dict (s:=s) ⟨o,e,cls⟩ h
 iter:=fun A s hh e=>⟨_,_,fun _ _ h=>Ql lo cls e da h,Nc hh da (Zs_ (Zn_ e)),Zm_ _ rfl,Zc_ _ e⟩
end
end ST
end L2
namespace L2
open PySem PySem.Spec PySem.W PyProof.Rows
noncomputable def tsO (w:World) (a:Addr) (rows:List RW):HO:=.ext fun h=>∃o es ep t,h.get? a=some o/\ST.SO w o es ep t/\es.toList.map Prod.snd=rows.map ST.rf
theorem Adg {P:Program} {w:World} {H:Hp} {h:Heap} {a:Addr} {rows:List RW} {o:Obj} {es:Array (Int × Value)} {ep:Nat} {t:SetTable} (e:h.get? a=some o) (S:ST.SO w o es ep t) (l:es.toList.map Prod.snd=rows.map ST.rf):ObjOk P w H h a (tsO w a rows):=
 ⟨⟨o,es,ep,t,e,S,l⟩,⟨o,e⟩,fun _ _ ⟨o,es,ep,t,e,x⟩ k=>⟨o,es,ep,t,k _ e,x⟩⟩
section
variable {P:Program} {w:World} {H:Hp} {h:Heap} {m:Nat} {rows:List RW}
theorem Hs (ok:HOk P w H h) (R:RowsOk H m rows):∀r∈rows,ST.RowAt h m r:=fun r hr=>by
 obtain ⟨_,its,rv,o,h1,h2,n,h3⟩:=(show ObjOk P w H h r.1 (.tup (r.2.map V.int)) from ok r.1 _ (R r hr).1)
 exact ⟨(R r hr).2,o,its.toArray,n,h1,h2,h3,by simpa using P6 rv⟩
theorem Fo:∀{vs:List Value} {ns:List Int},IntsAre vs ns->ItemsAre (intKind P w) ns vs
 | _,_,.nil=>.nil
 | _,_,.cons n t h=>.cons (intKind_is P w n t) (Fo h)
theorem Zu (ok:HOk P w H h) (R:RowsOk H m rows):∀r∈rows,IsTupleKey (intKind P w) h r.2 r.1:=fun r hr=>by
 obtain ⟨_,o,its,n,h1,h2,h3,h4⟩:=Hs ok R r hr
 exact ⟨o,its,n,h1,h2,h3,Fo h4⟩
theorem Qh {n:Nat} (k:Int) (v:Value) (e:(intKind P w).is k v=true):hashByValue n v=pure true:=by
 cases v with
 | int i t=>cases n <;> rfl
 | _=>cases e
theorem Abl {a:Addr} {xs:List (List Int × Addr)} {o:Obj} {ep:Nat} {t:SetTable} (S:ST.Els (intKind P w) True h a xs (ST.ledBy w) o ep t):ST.SO w o (xs.map (ST.ent (intKind P w))).toArray ep t:=
 ⟨S.ex,S.data,S.tab.toTB.fits _ (by simp) S.tab.room,S.tab.rise,by rw [S.tab.len]; simp,S.plain trivial,S.led_⟩
end
noncomputable def swR (p:List Int × Addr):RW:=(p.2,p.1)
section
variable {X:Cx} {K:Θf}
theorem Px (hK:X.K=K) (hc:X.calm=true) (hu:X.A.units + 64 < cLine):P3 X (.type "set") (fun xs H Q=>∃(p:Addr) (m:Nat) (rows:List RW),xs=[.ref p]/\SqL K H p (C0 rows)/\RowsOk H m rows/\rows.length<=300/\
  ∀(l:Addr) (rows':List RW),H l=none->(∀r∈rows',r∈rows)->(∀k,k∈rows'.map (·.2)↔k∈rows.map (·.2))->(rows'.map (·.2)).Nodup->Q (.ref l) (upd H l (tsO X.w l rows'))):=by
 subst hK
 intro pins s σ H xs us Q I r h
 obtain ⟨p,m,rows,rfl,hq,R,l18,q⟩:=h
 obtain ⟨u,rfl,rx⟩:=W0 r
 cases rx
 obtain ⟨its,rv,pl,hz⟩:=I.list hq
 have hits:its=((rows.map fun r=>(r.2,r.1)).map fun p:List Int × Addr=>Value.ref p.2):=by
  have all:∀{rs:List RW} {vs:List Value},Vals (C0 rs) vs->vs=((rs.map fun r=>(r.2,r.1)).map fun p:List Int × Addr=>Value.ref p.2):=by
   intro rs
   induction rs with
   | nil=>intro vs h; cases h; rfl
   | cons x rs ih=>
    intro vs h
    cases h with
    | cons h1 h2=>
     rw [ih h2]
     cases h1
     rfl
  exact all rv
 subst hits
 refine ST.called_bare (Pl:=True) (knd:=intKind X.prog X.w) (ts:=rows.map fun r=>(r.2,r.1)) (I.ok.hd hc) pl.isList (fun x hx=>?_) (by show X.A.units + 3 < cLine; omega) (fun k v e=>.inl (Qh k v e)) (by rw [Θl]; omega) fun h' tk xs T sub mem keep=>?_
 ·obtain ⟨r,hr,rfl⟩:=Θn hx
  exact Zu I.hok R r hr
 obtain ⟨o,ep,t,S⟩:=T
 have e1:(xs.map swR).map (·.2)=xs.map (·.1):=by
  rw [List.map_map]
  rfl
 refine ⟨.ref s.heap.objs.size,_,I.laid (t':=tk) (o:=tsO X.w s.heap.objs.size (xs.map swR)) (fun b o e=>keep b o (Zn_ e) e) (Zd_ _) (Adg S.at_ (Abl S) ?_),rfl,q _ _ I.fresh (fun r hr=>?_) (fun k=>?_) ?_⟩
 ·simp [ST.ent,ST.rf,swR,Function.comp_def]
 ·obtain ⟨x,hx,rfl⟩:=Θn hr
  obtain ⟨r,hr',e⟩:=Θn (sub x hx)
  rw [<-e]
  exact hr'
 ·rw [e1]
  have:=mem k
  rw [List.map_map] at this
  refine Iff.trans ?_ this
  constructor
  ·intro h
   obtain ⟨x,hx,rfl⟩:=Θn h
   exact ⟨x.2,hx⟩
  ·rintro ⟨b,hb⟩
   exact Θm ⟨_,hb,rfl⟩
 ·rw [e1]
  exact S.nd
theorem Vl {α β:Type} {f:α->β} {l:List β} {xs:List α} (h:l.Perm (xs.map f)):∃ys:List α,ys.Perm xs/\l=ys.map f:=by
 generalize e:xs.map f=l2 at h
 induction h generalizing xs with
 | nil=>exact ⟨[],by rw [List.map_eq_nil_iff.mp e],rfl⟩
 | cons x h ih=>
  obtain ⟨y,ys,rfl,rfl,e'⟩:=List.map_eq_cons_iff.mp e
  obtain ⟨zs,p,rfl⟩:=ih e'
  exact ⟨y :: zs,p.cons y,rfl⟩
 | swap x y l=>
  obtain ⟨a,as,rfl,rfl,e'⟩:=List.map_eq_cons_iff.mp e
  obtain ⟨b,bs,rfl,rfl,rfl⟩:=List.map_eq_cons_iff.mp e'
  exact ⟨b :: a :: bs,List.Perm.swap ..,rfl⟩
 | trans h1 h2 ih1 ih2=>
  obtain ⟨ys,p,rfl⟩:=ih2 e
  obtain ⟨zs,p',e'⟩:=ih1 rfl
  exact ⟨zs,p'.trans p,e'⟩
theorem Oc {α:Type} {vs:List α} {ys:Array α} (l:vs.length=ys.size) (h:∀(j:Nat) v,vs[j]? = some v->ys[j]? = some v):vs=ys.toList:=by
 refine List.ext_getElem? fun j=>?_
 rw [show ys.toList[j]? = ys[j]? from by simp]
 by_cases c:j < vs.length
 ·rw [h j _ (Θh c)]
  exact Θh c
 ·rw [List.getElem?_eq_none (by omega),Array.getElem?_eq_none (by omega)]
theorem Fw:∀rows:List RW,Vals (C0 rows) (rows.map ST.rf)
 | []=>.nil
 | r :: rows=>.cons rfl (Fw rows)
theorem Z5 {pins:List (Addr × Obj)} {σ:St} {H:Hp} {s:Shared} {l:Addr} {h':Heap} {tk c:Nat} {rows:List RW} {Q:VK} (I:Inv X pins σ H s) (le:s.heap.objs.size<=l) (at_:h'.get? l=some (seqObj "list" (rows.map ST.rf).toArray c)) (h64:rows.length < 1000) (keep:∀b o,s.heap.get? b=some o->h'.get? b=some o) (q:Q (.ref l) (upd H l (.lst (C0 rows)))) :
  EP X pins σ Q (.ref l) { s with heap:=h',toks:=tk }:=
 ⟨.ref l,_,I.laid (t':=tk) keep le (show ObjOk X.prog X.w _ _ _ (.lst (C0 rows)) from ⟨by unfold C0; rw [Θl]; exact Nat.le_of_lt (E2 (by omega)),_,c,Fw rows,at_⟩),rfl,q⟩
theorem Gp (hc:X.calm=true):P3 X (.builtin "sorted") (fun xs H Q=>∃(p:Addr) (m:Nat) (rows:List RW),xs=[.ref p]/\H p=some (tsO X.w p rows)/\RowsOk H m rows/\1<=m/\rows.length < 1000/\
  ∀(l:Addr) (rows':List RW),H l=none->rows'.Perm rows->ST.RUp rows'->Q (.ref l) (upd H l (.lst (C0 rows')))):=by
 intro pins s σ H xs us Q I r h
 obtain ⟨p,m,rows,rfl,hp,R,hm,h64,q⟩:=h
 obtain ⟨u,rfl,rx⟩:=W0 r
 cases rx
 obtain ⟨⟨o,es,ep,t,at_,S,el⟩,_⟩:=(show ObjOk X.prog X.w H s.heap p (tsO X.w p rows) from I.hok p _ hp)
 have hs:es.size=rows.length:=by
  have:=congrArg List.length el
  simpa using this
 refine ST.sorted_src (S:=fun rs=>rs.Perm rows) hm (fun Q' hQ=>?_) fun a h' tk rs rows' c hS hr pr up h6 le ha keep=>Z5 I le ha (by rw [pr.length_eq]; exact h6) keep (q a rows' (I.hok.fresh le) (pr.trans hS) up)
 refine ST.collect_src (ST.src_set S) (I.ok.hd hc) at_ (by rw [hs]; exact Nat.le_of_lt (E2 (by omega))) fun h' tk vs lv hv le keep=>?_
 have e1:vs=((ST.given X.w p ep es).map Prod.snd).toList:=Oc (by rw [Array.size_map,ST.given_size]; exact lv) fun j v e=>by
  rw [Array.getElem?_map]
  exact hv j v e
 have e2:vs.Perm (rows.map ST.rf):=by
  rw [e1,Array.toList_map,<-el]
  exact ST.given_perm.map _
 obtain ⟨rs,pr,rfl⟩:=Vl e2
 exact hQ rs h' tk pr (fun r hr=>Hs I.hok R r (pr.mem_iff.mp hr)) (by rw [pr.length_eq]; exact h64) le keep
theorem Qo {H:Hp} {kvs:List (List Key × V)} {xs:List (List Key × Addr × Value)} {rs:List (List Int)} (T:KT H kvs xs) (h:kvs.map (·.1)=rs.map tks) :
  ∃rows:List RW,rows.map (·.2)=rs/\rows.map ST.rf=xs.map (fun q=>Value.ref q.2.1)/\∀r∈rows,H r.1=some (.tup (r.2.map V.int)):=by
 induction T generalizing rs with
 | nil=>
  cases rs with
  | nil=>exact ⟨[],rfl,rfl,fun r h=>absurd h Zi_⟩
  | cons r rs=>cases h
 | @cons p q kvs xs hd T ih=>
  cases rs with
  | nil=>cases h
  | cons r rs=>
   rw [List.map_cons,List.map_cons] at h
   injection h with h1 h2
   obtain ⟨rows,a1,a2,a3⟩:=ih h2
   refine ⟨(q.2.1,r) :: rows,by rw [List.map_cons,a1],by rw [List.map_cons,List.map_cons,a2],fun x hx=>?_⟩
   rcases Zg_.mp hx with rfl | hx
   ·have t':H q.2.1=some (.tup (p.1.map kV)):=hd.2.1
    rw [h1,Ap] at t'
    exact t'
   ·exact a3 x hx
theorem Aw (hc:X.calm=true):P3 X (.builtin "sorted") (fun xs H Q=>∃(p:Addr) (m:Nat) (kvs:List (List Key × V)) (rs:List (List Int)),xs=[.ref p]/\H p=some (.dT kvs)/\kvs.map (·.1)=rs.map tks/\(∀r∈rs,r.length=m)/\1<=m/\rs.length < 1000/\
  ∀(l:Addr) (rows':List RW),H l=none->RowsOk H m rows'->(rows'.map (·.2)).Perm rs->ST.RUp rows'->Q (.ref l) (upd H l (.lst (C0 rows')))):=by
 intro pins s σ H xs us Q I r h
 obtain ⟨p,m,kvs,rs,rfl,hp,hk,hl,hm,h64,q⟩:=h
 obtain ⟨u,rfl,rx⟩:=W0 r
 cases rx
 obtain ⟨z,lo,xs,rel,o,es,ep,at_,ex,da,el,nd⟩:=(show ObjOk X.prog X.w H s.heap p (.dT kvs) from I.hok p _ hp)
 obtain ⟨rows,e2,ef,tr⟩:=Qo rel hk
 have R:RowsOk H m rows:=fun r hr=>⟨tr r hr,hl _ (by rw [<-e2]; exact Θm ⟨r,hr,rfl⟩)⟩
 have lr:rows.length=rs.length:=by rw [<-e2,Θl]
 have hs:es.size=rows.length:=by
  have h1:=congrArg List.length el
  have h2:=congrArg List.length ef
  simp at h1 h2
  omega
 have ek:es.toList.map DictEntry.key=rows.map ST.rf:=by
  rw [el,ef,List.map_map]
  rfl
 refine ST.sorted_src (S:=fun x=>x=rows) hm (fun Q' hQ=>?_) fun a h' tk x rows' c hS hr pr up h6 le ha keep=>by
  subst hS
  exact Z5 I le ha (by rw [pr.length_eq]; exact h6) keep (q a rows' (I.hok.fresh le) (fun r hr=>R r (pr.mem_iff.mp hr)) (by rw [<-e2]; exact pr.map _) up)
 refine ST.collect_src (ST.src_keys lo ex.1 da) (I.ok.hd hc) at_ (by rw [hs]; exact Nat.le_of_lt (E2 (by omega))) fun h' tk vs lv hv le keep=>?_
 have e1:vs=(es.map DictEntry.key).toList:=Oc (by rw [Array.size_map]; exact lv) fun j v e=>by
  rw [Array.getElem?_map]
  exact hv j v e
 rw [e1,Array.toList_map,ek]
 exact hQ rows h' tk rfl (Hs I.hok R) (by omega) le keep
end
structure Asc (ks src:List (List Int)):Prop where
 up:ks.Pairwise fun x y=>ST.lexB y x=false
 nd:ks.Nodup
 mem:∀k,k∈ks↔k∈src
theorem Aa7 {m:Nat}:∀{a b:List (List Int)},a.Pairwise (fun x y=>ST.lexB y x=false)->b.Pairwise (fun x y=>ST.lexB y x=false)->a.Nodup->b.Nodup->(∀k,k∈a↔k∈b)->(∀k∈a,k.length=m)->a=b
 | [],[],_,_,_,_,_,_=>rfl
 | [],y :: b,_,_,_,_,h,_=>absurd ((h y).mpr (Θc ..)) Zi_
 | x :: a,[],_,_,_,_,h,_=>absurd ((h x).mp (Θc ..)) Zi_
 | x :: a,y :: b,u1,u2,n1,n2,h,l=>by
  obtain ⟨u1',v1⟩:=List.pairwise_cons.mp u1
  obtain ⟨u2',v2⟩:=List.pairwise_cons.mp u2
  obtain ⟨m1,n1'⟩:=List.nodup_cons.mp n1
  obtain ⟨m2,n2'⟩:=List.nodup_cons.mp n2
  have e:x=y:=by
   rcases Zg_.mp ((h x).mp (Θc ..)) with e | e
   ·exact e
   ·rcases Zg_.mp ((h y).mpr (Θc ..)) with e' | e'
    ·exact e'.symm
    ·exact ST.lex_total ((l x (Θc ..)).trans (l y (Θd _ e')).symm) (u2' x e) (u1' y e')
  subst e
  rw [Aa7 v1 v2 n1' n2' (fun k=>?_) fun k hk=>l k (Θd _ hk)]
  constructor
  ·intro hk
   rcases Zg_.mp ((h k).mp (Θd _ hk)) with rfl | e
   ·exact absurd hk m1
   ·exact e
  ·intro hk
   rcases Zg_.mp ((h k).mpr (Θd _ hk)) with rfl | e
   ·exact absurd hk m2
   ·exact e
theorem Asc.eq {m:Nat} {a b s t:List (List Int)} (A:Asc a s) (B:Asc b t) (h:∀k,k∈s↔k∈t) (l:∀k∈s,k.length=m):a=b:=
 Aa7 A.up B.up A.nd B.nd (fun k=>(A.mem k).trans ((h k).trans (B.mem k).symm)) fun k hk=>l k ((A.mem k).mp hk)
theorem Asc.of {rows:List RW} {src:List (List Int)} (up:ST.RUp rows) (nd:(rows.map (·.2)).Nodup) (mem:∀k,k∈rows.map (·.2)↔k∈src):Asc (rows.map (·.2)) src:=
 ⟨by rw [List.pairwise_map]; exact up,nd,mem⟩
theorem Ee:∀{a b:List (List Int)},a.Nodup->(∀k∈a,k∈b)->a.length<=b.length:=fun {a b}=>ST.nd_sub
theorem Asc.len {a s:List (List Int)} (A:Asc a s):a.length<=s.length:=Ee A.nd fun k hk=>(A.mem k).mp hk
theorem Yd:∀x,x < 128->∀y,y < 128->∀k,k < 7->E3 (x&&&y) k=(E3 x k && E3 y k):=fun x _ y _ k _=>by
 have t:∀a:Nat,E3 a k=a.testBit k:=fun a=>by unfold E3; rw [Nat.testBit_eq_decide_div_mod_eq]
 rw [t,t,t,Nat.testBit_and]
noncomputable def Z7 (K:Θf):Sp:=fun vs H Q _=>∃(bk:Addr) (rws:List RW) (s m:Nat),vs=[.ref bk,vN s]/\SqL K H bk (C0 rws)/\RowsOk H m rws/\1<=m/\m<=20/\rws.length<=300/\
 ∀(l:Addr) (w:List RW) (H':Hp),Same H H'->H l=none->H' l=some (.lst (C0 w))->RowsOk H' m w->Asc (w.map (·.2)) (rws.map fun r=>C6 r.2 s)->Q (.ref l) H'
theorem Fv {kvs:List (List Key × V)} {ks:List (List Int)} {k:List Int} {v:V} (e:kvs.map (·.1)=ks.map tks) (nd:ks.Nodup):∃ks':List (List Int),(P2 kvs (tks k) v).map (·.1)=ks'.map tks/\ks'.Nodup/\∀x,x∈ks'↔x∈ks\/x=k:=by
 have hm:(kvs.any fun kv=>decide (kv.1=tks k))=true↔k∈ks:=by
  rw [List.any_eq_true]
  constructor
  ·rintro ⟨kv,hk,he⟩
   have:kv.1∈ks.map tks:=by
    rw [<-e]
    exact Θm ⟨kv,hk,rfl⟩
   obtain ⟨k',h',e'⟩:=Θn this
   rw [<-Dd (e'.trans (Zj_ he))]
   exact h'
  ·intro h
   have:tks k∈kvs.map (·.1):=by
    rw [e]
    exact Θm ⟨k,h,rfl⟩
   obtain ⟨kv,hk,e'⟩:=Θn this
   exact ⟨kv,hk,Zr_ e'⟩
 unfold P2
 by_cases c:(kvs.any fun kv=>decide (kv.1=tks k))=true
 ·rw [if_pos c]
  refine ⟨ks,?_,nd,fun x=>⟨.inl,fun h=>?_⟩⟩
  ·rw [<-e,List.map_map]
   refine List.map_congr_left fun kv _=>?_
   dsimp only [Function.comp]
   split <;> rfl
  ·rcases h with h | rfl
   ·exact h
   ·exact hm.mp c
 ·rw [if_neg c]
  refine ⟨ks++[k],by rw [Zw_,Zw_,e]; rfl,?_,fun x=>by rw [List.mem_append,List.mem_singleton]⟩
  rw [List.nodup_append]
  refine ⟨nd,by simp,fun a ha b hb z=>?_⟩
  rw [Θs hb] at z
  rw [z] at ha
  exact c (hm.mpr ha)
end L2
namespace L2
open PySem PySem.Spec PyProof.Rows
noncomputable def Q9 (r:List Int):PyData:=.tuple (r.map PyData.int)
theorem Sc (a b:List Int):same (Q9 a) (Q9 b)=decide (a=b):=by
 unfold Q9
 simp only [same]
 exact Z4 (fun i j=>by simp only [same]; first | rfl | (by_cases e:i=j <;> simp [e])) a b
theorem Ly (a b:List Int):SeqAt.noMix (Q9 a) (Q9 b)=true:=by
 unfold Q9
 simp only [SeqAt.noMix]
 exact X1 (fun i j=>by simp [SeqAt.noMix]) a b
theorem K0 (rs:List (List Int)):SeqAt.shaped (.list (rs.map Q9))=true:=
 Ms (fun a=>by unfold Q9; simp only [PyData.canLay0]; exact V0 (fun i=>by simp [PyData.canLay0]) a)
  (fun a=>by
   have:=W6 (f:=PyData.int) (n:=3) (fun i=>by simp [PyData.depth]) a
   unfold Q9
   simp only [PyData.depth]
   omega) rs
theorem V7 (rs:List (List Int)):same (.list (rs.map Q9)) (.list (rs.map Q9))=true:=by
 simp only [same]
 rw [Z4 Sc]
 exact Zr_ rfl
theorem U4 (a b:List (List Int)):SeqAt.noMix (.list (a.map Q9)) (.list (b.map Q9))=true:=by
 simp only [SeqAt.noMix]
 exact X1 Ly a b
theorem Wd {K:Θf} {H:Hp}:∀r:List Int,DVs K H (r.map V.int) (r.map PyData.int)
 | []=>.nil
 | x :: r=>.cons (.int x) (Wd r)
theorem Ht {K:Θf} {H:Hp} {m:Nat}:∀{rws:List RW},RowsOk H m rws->DVs K H (C0 rws) ((rws.map (·.2)).map Q9)
 | [],_=>.nil
 | r :: rws,h=>.cons (.tup (SqT.of (h r (Θc ..)).1) (Wd r.2)) (Ht fun x hx=>h x (Θd _ hx))
theorem T4 {K:Θf} {H:Hp} {m:Nat} {p:Addr} {rws:List RW} (h:H p=some (.lst (C0 rws))) (R:RowsOk H m rws):DV K H (.ref p) (.list ((rws.map (·.2)).map Q9)):=.lst (SqL.of h) (Ht R)
theorem Asc.lenR {w rws:List RW} {s:Nat} (A:Asc (w.map (·.2)) (rws.map fun r=>C6 r.2 s)):w.length<=rws.length:=by
 have:=A.len
 rw [Θl,Θl] at this
 exact this
end L2
namespace L2
open PySem PySem.Spec PySem.W PyProof.Rows
theorem Go {X:Cx} {K:Θf} (hK:X.K=K):P3 X (.builtin "sorted") (fun xs H Q=>∃(p:Addr) (m:Nat) (rows:List RW),xs=[.ref p]/\SqL K H p (C0 rows)/\RowsOk H m rows/\1<=m/\rows.length < 1000/\
  ∀(l:Addr) (rows':List RW),H l=none->rows'.Perm rows->ST.RUp rows'->Q (.ref l) (upd H l (.lst (C0 rows')))):=by
 subst hK
 intro pins s σ H xs us Q I r h
 obtain ⟨p,m,rows,rfl,hq,R,hm,h64,q⟩:=h
 obtain ⟨u,rfl,rx⟩:=W0 r
 cases rx
 obtain ⟨its,rv,pl,hz⟩:=I.list hq
 have hits:its=rows.map ST.rf:=by
  have all:∀{rs:List RW} {vs:List Value},Vals (C0 rs) vs->vs=rs.map ST.rf:=by
   intro rs
   induction rs with
   | nil=>intro vs h; cases h; rfl
   | cons x rs ih=>
    intro vs h
    cases h with
    | cons h1 h2=>
     rw [ih h2]
     cases h1
     rfl
  exact all rv
 subst hits
 refine ST.sorted_src (S:=fun x=>x=rows) hm (fun Q' hQ=>?_) fun a h' tk x rows' c hS hr pr up h6 le ha keep=>by
  subst hS
  exact Z5 I le ha (by rw [pr.length_eq]; exact h6) keep (q a rows' (I.hok.fresh le) pr up)
 refine collect_list pl.isList (hQ rows _ s.toks rfl (Hs I.hok R) h64 ?_ fun b o e=>?_) (by rw [Θl]; exact Nat.le_of_lt (E2 (by omega)))
 ·rw [Heap.size_update,size_push']
  exact Nat.le_succ _
 ·exact (Heap.get?_update_other _ _ (Nat.ne_of_gt (Zn_ e))).trans (Zc_ _ e)
theorem Si {n:Nat} (h:n<=2000):n < sizeLine:=by rw [sizeLine_eq]; omega
theorem Fc (s:Nat) (rws:List RW):∀g∈F5 rws s,g.2=rws.filter fun r=>decide (C6 r.2 s=g.1):=by
 refine Ii (P:=fun rws=>∀g∈F5 rws s,g.2=rws.filter fun r=>decide (C6 r.2 s=g.1)) (fun g h=>by cases h) (fun l x ih g hg=>?_) rws
 rw [O9] at hg
 rw [List.filter_append]
 rcases Ix (O6 s l).1 g hg with ⟨h1,h2⟩ | ⟨h1,h2⟩
 ·rw [<-ih g h1,List.filter_cons_of_neg (by rw [decide_eq_true_eq]; exact Ne.symm h2),List.filter_nil,List.append_nil]
 ·have ex:([x]:List RW).filter (fun r=>decide (C6 r.2 s=g.1))=[x]:=by
   rw [List.filter_cons_of_pos (by rw [decide_eq_true_eq]; exact h1.symm),List.filter_nil]
  rw [ex]
  rcases h2 with ⟨rs,h3,h4⟩ | ⟨h3,h4⟩
  ·rw [h4]
   have:=ih (C6 x.2 s,rs) h3
   dsimp only at this
   rw [this,h1]
  ·rw [h4]
   have:(l.filter fun r=>decide (C6 r.2 s=g.1))=[]:=by
    rw [List.filter_eq_nil_iff]
    intro r hr e
    obtain ⟨g',m',e'⟩:=(O6 s l).2.2 r hr
    exact h3 g' m' (by rw [e',Zj_ e,h1])
   rw [this]
   rfl
noncomputable def Dz (a:RW) (w2:List RW) (both x:Nat):List (List Int):=(w2.filter fun b=>decide (C6 b.2 both=C6 a.2 both)).map fun b=>K6 a.2 b.2 x
noncomputable def T0 (w1 w2:List RW) (both x:Nat):List (List Int):=w1.flatMap fun a=>Dz a w2 both x
theorem Qd {s:Nat} {rws:List RW} (key:List Int):((F5 rws s).find? fun g=>decide (g.1=key)).elim [] (·.2)=rws.filter fun r=>decide (C6 r.2 s=key):=by
 cases e:(F5 rws s).find? fun g=>decide (g.1=key) with
 | some g=>
  have h1:=List.mem_of_find?_eq_some e
  have h2:g.1=key:=of_decide_eq_true (by simpa using List.find?_some e)
  show g.2=_
  rw [Fc s rws g h1,h2]
 | none=>
  show []=_
  symm
  rw [List.filter_eq_nil_iff]
  intro r hr z
  obtain ⟨g,hg,e'⟩:=(O6 s rws).2.2 r hr
  have:=List.find?_eq_none.mp e g hg
  exact this (by rw [e']; exact z)
noncomputable def Aa4 (K:Θf):Sp:=fun vs H Q _=>∃(b1 b2:Addr) (r1 r2:List RW) (x y m:Nat),vs=[.ref b1,vN x,.ref b2,vN y]/\SqL K H b1 (C0 r1)/\SqL K H b2 (C0 r2)/\RowsOk H m r1/\RowsOk H m r2/\1<=m/\m<=20/\r1.length<=300/\r2.length<=300/\
 (∀w1 w2:List RW,Asc (w1.map (·.2)) (r1.map fun r=>C6 r.2 x)->Asc (w2.map (·.2)) (r2.map fun r=>C6 r.2 y)->(T0 w1 w2 (x&&&y) x).length < 1000)/\
 ∀(l:Addr) (w w1 w2:List RW) (H':Hp),Asc (w1.map (·.2)) (r1.map fun r=>C6 r.2 x)->Asc (w2.map (·.2)) (r2.map fun r=>C6 r.2 y)->Same H H'->H l=none->H' l=some (.lst (C0 w))->RowsOk H' m w->(w.map (·.2)).Perm (T0 w1 w2 (x&&&y) x)->ST.RUp w->Q (.ref l) H'
theorem Js {w1 w2:List RW} {z x:Nat} {k:List Int}:k∈T0 w1 w2 z x↔∃a∈w1,∃b∈w2,C6 b.2 z=C6 a.2 z/\k=K6 a.2 b.2 x:=by
 unfold T0 Dz
 rw [List.mem_flatMap]
 constructor
 ·rintro ⟨a,ha,h⟩
  obtain ⟨b,hb,rfl⟩:=Θn h
  obtain ⟨h1,h2⟩:=List.mem_filter.mp hb
  exact ⟨a,ha,b,h1,Zj_ h2,rfl⟩
 ·rintro ⟨a,ha,b,hb,e,rfl⟩
  exact ⟨a,ha,Θm ⟨b,List.mem_filter.mpr ⟨hb,Zr_ e⟩,rfl⟩⟩
noncomputable def On0 (x:Nat) (r:List Int):Prop:=∀k,k < r.length->E3 x k=false->r.getD k 0=0
theorem Ep (r:List Int) (x:Nat):On0 x (C6 r x):=fun k hk h=>by
 rw [E8] at hk
 rw [Q8 hk,h]
 rfl
theorem Uk {a b a' b':List Int} {x m:Nat} (ha:a.length=m) (ha':a'.length=m) (o:On0 x a) (o':On0 x a') (e:K6 a b x=K6 a' b' x):a=a':=by
 refine O0 (ha.trans ha'.symm) fun k hk=>?_
 have hk':k < a'.length:=by omega
 have h:=congrArg (fun r=>r.getD k 0) e
 rw [Q0 hk,Q0 hk'] at h
 cases c:E3 x k with
 | true=>
  rw [c] at h
  exact h
 | false=>rw [o k hk c,o' k hk' c]
theorem Qv {a b b':List Int} {x y m:Nat} (m7:m<=7) (hx:x < 128) (hy:y < 128) (ha:a.length=m) (hb:b.length=m) (hb':b'.length=m) (o:On0 y b) (o':On0 y b') (s:C6 b (x&&&y)=C6 a (x&&&y)) (s':C6 b' (x&&&y)=C6 a (x&&&y)) (e:K6 a b x=K6 a b' x):b=b':=by
 refine O0 (hb.trans hb'.symm) fun k hk=>?_
 have hk':k < b'.length:=by omega
 have hka:k < a.length:=by omega
 cases cy:E3 y k with
 | false=>rw [o k hk cy,o' k hk' cy]
 | true=>
  cases cx:E3 x k with
  | true=>
   have both:E3 (x&&&y) k=true:=by rw [Yd x hx y hy k (by omega),cx,cy]; rfl
   have h1:=congrArg (fun r=>r.getD k 0) (s.trans s'.symm)
   rw [Q8 hk,Q8 hk',both] at h1
   exact h1
  | false=>
   have h:=congrArg (fun r=>r.getD k 0) e
   rw [Q0 hka,Q0 hka,cx] at h
   exact h
theorem Nz {w1 w2:List RW} {x y m:Nat} (m7:m<=7) (hx:x < 128) (hy:y < 128) (n1:(w1.map (·.2)).Nodup) (n2:(w2.map (·.2)).Nodup) (l1:∀a∈w1,a.2.length=m) (l2:∀a∈w2,a.2.length=m) (o1:∀a∈w1,On0 x a.2) (o2:∀b∈w2,On0 y b.2):(T0 w1 w2 (x&&&y) x).Nodup:=by
 unfold T0 List.Nodup
 rw [List.pairwise_flatMap]
 refine ⟨fun a ha=>?_,?_⟩
 ·unfold Dz
  rw [List.pairwise_map,List.pairwise_filter]
  have p2:w2.Pairwise fun b b'=>b.2≠b'.2:=List.pairwise_map.mp n2
  refine List.Pairwise.imp_of_mem (fun {b b'} hb hb' ne c c' e=>?_) p2
  exact ne (Qv m7 hx hy (l1 a ha) (l2 b hb) (l2 b' hb') (o2 b hb) (o2 b' hb') (Zj_ c) (Zj_ c') e)
 ·have p1:w1.Pairwise fun a a'=>a.2≠a'.2:=List.pairwise_map.mp n1
  refine List.Pairwise.imp_of_mem (fun {a a'} ha ha' ne k hk k' hk' e=>?_) p1
  obtain ⟨b,_,rfl⟩:=Θn hk
  obtain ⟨b',_,rfl⟩:=Θn hk'
  exact ne (Uk (l1 a ha) (l1 a' ha') (o1 a ha) (o1 a' ha') e)
noncomputable def L3 (bs:List Nat) (n:Nat):Nat->Nat
 | 0=>0
 | i + 1=>if E3 n i=true then L3 bs n i|||bs.getD i 0 else L3 bs n i
noncomputable def PtA (b1 b2 d p:Addr) (x y m:Nat) (w1 w2:List RW) (H3:Hp) (i:Nat) (σ:St) (H':Hp):Prop:=
 (∃v7 v8,σ=[some (.ref b1),some (vN x),some (.ref b2),some (vN y),some (vN (x&&&y)),some (.ref d),some (.ref p),v7,v8])/\But p H3 H'/\∃ws:List RW,H' p=some (.lst (C0 ws))/\RowsOk H' m ws/\ws.map (·.2)=(w1.take i).flatMap fun a=>Dz a w2 (x&&&y) x
noncomputable def PtB (b1 b2 d p:Addr) (x y m:Nat) (a:RW) (fs ws:List RW) (H6:Hp) (j:Nat) (σ:St) (H':Hp):Prop:=
 (∃v8,σ=[some (.ref b1),some (vN x),some (.ref b2),some (vN y),some (vN (x&&&y)),some (.ref d),some (.ref p),some (.ref a.1),v8])/\But p H6 H'/\∃ws':List RW,H' p=some (.lst (C0 ws'))/\RowsOk H' m ws'/\ws'.map (·.2)=ws.map (·.2)++(fs.take j).map fun b=>K6 a.2 b.2 x
theorem O3 (a k:Nat):E3 a k=a.testBit k:=by unfold E3; rw [Nat.testBit_eq_decide_div_mod_eq]
theorem Dq (bs:List Nat) (n k:Nat):∀i,E3 (L3 bs n i) k=true↔∃j,j < i/\E3 n j=true/\E3 (bs.getD j 0) k=true
 | 0=>by
  constructor
  ·intro h
   rw [L3,O3,Nat.zero_testBit] at h
   cases h
  ·rintro ⟨j,hj,_⟩
   exact absurd hj (Nat.not_lt_zero _)
 | i + 1=>by
  have ih:=Dq bs n k i
  rw [L3]
  by_cases c:E3 n i=true
  ·rw [if_pos c,O3,Nat.testBit_or,<-O3,<-O3,Bool.or_eq_true,ih]
   constructor
   ·rintro (⟨j,h1,h2⟩ | h)
    ·exact ⟨j,Nat.lt_succ_of_lt h1,h2⟩
    ·exact ⟨i,Nat.lt_succ_self _,c,h⟩
   ·rintro ⟨j,h1,h2,h3⟩
    rcases Nat.lt_or_eq_of_le (Nat.lt_succ_iff.mp h1) with h | h
    ·exact .inl ⟨j,h,h2,h3⟩
    ·subst h
     exact .inr h3
  ·rw [if_neg c,ih]
   constructor
   ·rintro ⟨j,h1,h2⟩
    exact ⟨j,Nat.lt_succ_of_lt h1,h2⟩
   ·rintro ⟨j,h1,h2,h3⟩
    rcases Nat.lt_or_eq_of_le (Nat.lt_succ_iff.mp h1) with h | h
    ·exact ⟨j,h,h2,h3⟩
    ·subst h
     exact absurd h2 c
end L2
namespace L2
open PySem PySem.Spec PyProof.Rows
section
variable {X:Cx}
end
theorem hasB_iff {s k:Nat}:E3 s k=true↔C5 s k:=by
 unfold E3 C5
 rw [Nat.testBit_eq_decide_div_mod_eq]
theorem Nk:∀(n:Nat) (p:Nat->Prop),∃j,j < 2 ^ n/\∀i,i < n->(C5 j i↔p i)
 | 0,p=>⟨0,by decide,fun i h=>absurd h (Nat.not_lt_zero _)⟩
 | n + 1,p=>by
  obtain ⟨j,hj,hb⟩:=Nk n p
  have pw:2 ^ n < 2 ^ (n + 1):=Nat.pow_lt_pow_right (by decide) (Nat.lt_succ_self n)
  have jn:¬C5 j n:=fun h=>by
   unfold C5 at h
   rw [Nat.testBit_lt_two_pow hj] at h; cases h
  by_cases z:p n
  ·refine ⟨j|||2 ^ n,Nat.or_lt_two_pow (by omega) pw,fun i hi=>?_⟩
   rw [M0]
   have e:C5 (2 ^ n) i↔n=i:=by unfold C5; rw [Nat.testBit_two_pow,decide_eq_true_iff]
   rw [e]
   by_cases ei:n=i
   ·subst ei; exact ⟨fun _=>z,fun _=>.inr rfl⟩
   ·rw [hb i (by omega)]; exact ⟨fun h=>h.resolve_right ei,.inl⟩
  ·refine ⟨j,by omega,fun i hi=>?_⟩
   by_cases ei:n=i
   ·subst ei; exact ⟨fun h=>absurd h jn,fun h=>absurd h z⟩
   ·exact hb i (by omega)
noncomputable def Y3 (bs:List Nat) (k c:Nat):Prop:=∃i b:Nat,bs[i]? = some b/\C5 b c/\C5 k i
open Classical in
noncomputable def P8 (m:Nat) (lo hi:Nat->Int) (bs:List Nat) (k:Nat):List Int:=(List.range m).map fun c=>if Y3 bs k c then hi c else lo c
theorem Z3 (m:Nat) (lo hi:Nat->Int) (bs:List Nat) (k:Nat):(P8 m lo hi bs k).length=m:=by unfold P8; rw [Θl,List.length_range]
open Classical in
theorem Bm {m:Nat} {lo hi:Nat->Int} {bs:List Nat} {k c:Nat} (hc:c < m):(P8 m lo hi bs k).getD c 0=if Y3 bs k c then hi c else lo c:=by
 unfold P8
 rw [Zu_,Θg,List.getElem?_range hc]; rfl
theorem Hr {m:Nat} {lo hi:Nat->Int} {bs:List Nat} {k l c:Nat} (hc:c < m) (h:Y3 bs k c↔Y3 bs l c):(P8 m lo hi bs k).getD c 0=(P8 m lo hi bs l).getD c 0:=by
 rw [Bm hc,Bm hc]
 by_cases z:Y3 bs k c
 ·rw [if_pos z,if_pos (h.mp z)]
 ·rw [if_neg z,if_neg (fun w=>z (h.mpr w))]
theorem Zs {m:Nat} {lo hi:Nat->Int} {bs:List Nat} {k l c:Nat} (hlh:lo c≠hi c) (hc:c < m) (h:(P8 m lo hi bs k).getD c 0=(P8 m lo hi bs l).getD c 0):Y3 bs k c↔Y3 bs l c:=by
 rw [Bm hc,Bm hc] at h
 by_cases z:Y3 bs k c
 ·by_cases w:Y3 bs l c
  ·exact ⟨fun _=>w,fun _=>z⟩
  ·rw [if_pos z,if_neg w] at h; exact absurd h.symm hlh
 ·by_cases w:Y3 bs l c
  ·rw [if_neg z,if_pos w] at h; exact absurd h hlh
  ·exact ⟨fun u=>absurd u z,fun u=>absurd u w⟩
structure Chs (m:Nat) (rs:List RD) (bs:List Nat):Prop where
 uniq:∀i j a b c:Nat,bs[i]? = some a->bs[j]? = some b->C5 a c->C5 b c->i=j
 kept:∀b∈bs,Iu m rs b
theorem Chs.bit {m:Nat} {rs:List RD} {bs:List Nat} (C:Chs m rs bs) {i b c k:Nat} (hi:bs[i]? = some b) (hc:C5 b c):Y3 bs k c↔C5 k i:=by
 constructor
 ·rintro ⟨j,a,hj,ha,hk⟩
  rw [C.uniq i j b a c hi hj hc ha]; exact hk
 ·intro h
  exact ⟨i,b,hi,hc,h⟩
theorem Chs.on {m:Nat} {rs:List RD} {bs:List Nat} (C:Chs m rs bs) {lo hi:Nat->Int} (hlh:∀c,lo c≠hi c) {k l s:Nat}:(∀c,c < m->C5 s c->(P8 m lo hi bs k).getD c 0=(P8 m lo hi bs l).getD c 0)↔∀i b:Nat,bs[i]? = some b->¬(C5 k i↔C5 l i)->∀c,C5 b c->¬C5 s c:=by
 constructor
 ·intro h i b hi hn c hc hs
  have hm:=Nx (C.kept b (Θe hi)).2.1 hc
  have e:=Zs (hlh c) hm (h c hm hs)
  rw [C.bit hi hc,C.bit hi hc] at e
  exact hn e
 ·intro h c hc hs
  refine Hr hc ⟨?_,?_⟩
  ·rintro ⟨i,b,hi,hb,hk⟩
   refine ⟨i,b,hi,hb,?_⟩
   exact Classical.byContradiction fun z=>h i b hi (fun e=>z (e.mp hk)) c hb hs
  ·rintro ⟨i,b,hi,hb,hk⟩
   refine ⟨i,b,hi,hb,?_⟩
   exact Classical.byContradiction fun z=>h i b hi (fun e=>z (e.mpr hk)) c hb hs
theorem Chs.mix {m:Nat} {rs:List RD} {bs:List Nat} (C:Chs m rs bs) {lo hi:Nat->Int} {k l s:Nat} (h:∀i b:Nat,bs[i]? = some b->¬(C5 k i↔C5 l i)->(∀c,C5 b c->C5 s c)\/∀c,C5 b c->¬C5 s c):∃j,j < 2 ^ bs.length/\P8 m lo hi bs j=K6 (P8 m lo hi bs k) (P8 m lo hi bs l) s:=by
 obtain ⟨j,hj,hb⟩:=Nk bs.length fun i=>((∀c,C5 (bs.getD i 0) c->C5 s c)/\C5 k i)\/((¬∀c,C5 (bs.getD i 0) c->C5 s c)/\C5 l i)
 have hb':∀i b:Nat,bs[i]? = some b->(C5 j i↔((∀c,C5 b c->C5 s c)/\C5 k i)\/((¬∀c,C5 b c->C5 s c)/\C5 l i)):=fun i b e=>by
  have:=hb i (Ze_.mp e).1
  rw [Zu_,e] at this
  exact this
 have hin:∀c,C5 s c->(Y3 bs j c↔Y3 bs k c):=fun c hs=>by
  have key:∀i b:Nat,bs[i]? = some b->C5 b c->(C5 j i↔C5 k i):=fun i b hi hc=>by
   rw [hb' i b hi]
   by_cases z:∀c,C5 b c->C5 s c
   ·exact ⟨fun w=>w.elim (fun w=>w.2) fun w=>absurd z w.1,fun w=>.inl ⟨z,w⟩⟩
   ·by_cases e:C5 k i↔C5 l i
    ·exact ⟨fun w=>w.elim (fun w=>w.2) fun w=>e.mpr w.2,fun w=>.inr ⟨z,e.mp w⟩⟩
    ·rcases h i b hi e with w | w
     ·exact absurd w z
     ·exact absurd hs (w c hc)
  constructor
  ·rintro ⟨i,b,hi,hc,hk⟩; exact ⟨i,b,hi,hc,(key i b hi hc).mp hk⟩
  ·rintro ⟨i,b,hi,hc,hk⟩; exact ⟨i,b,hi,hc,(key i b hi hc).mpr hk⟩
 have hout:∀c,¬C5 s c->(Y3 bs j c↔Y3 bs l c):=fun c hs=>by
  have key:∀i b:Nat,bs[i]? = some b->C5 b c->(C5 j i↔C5 l i):=fun i b hi hc=>by
   rw [hb' i b hi]
   have z:¬∀c,C5 b c->C5 s c:=fun z=>hs (z c hc)
   exact ⟨fun w=>w.elim (fun w=>absurd w.1 z) fun w=>w.2,fun w=>.inr ⟨z,w⟩⟩
  constructor
  ·rintro ⟨i,b,hi,hc,hk⟩; exact ⟨i,b,hi,hc,(key i b hi hc).mp hk⟩
  ·rintro ⟨i,b,hi,hc,hk⟩; exact ⟨i,b,hi,hc,(key i b hi hc).mpr hk⟩
 refine ⟨j,hj,?_⟩
 refine O0 (by rw [O4,Z3,Z3]) fun c hc=>?_
 rw [Z3] at hc
 rw [Q0 (by rw [Z3]; exact hc)]
 by_cases z:C5 s c
 ·rw [if_pos (hasB_iff.mpr z)]
  exact Hr hc (hin c z)
 ·rw [if_neg (fun w=>z (hasB_iff.mp w))]
  exact Hr hc (hout c z)
structure ChB (m:Nat) (rs:List RD) (bs:List Nat) (lo hi:Nat->Int) (rws:List RW):Prop where
 chs:Chs m rs bs
 lh:∀c,lo c≠hi c
 rows:rws.map (·.2)=(List.range (2 ^ bs.length)).map (P8 m lo hi bs)
theorem ChB.of {m:Nat} {rs:List RD} {bs:List Nat} {lo hi:Nat->Int} {rws:List RW} (B:ChB m rs bs lo hi rws) {a:RW} (ha:a∈rws):∃k,k < 2 ^ bs.length/\a.2=P8 m lo hi bs k:=by
 have h:a.2∈rws.map (·.2):=Θm ⟨a,ha,rfl⟩
 rw [B.rows] at h
 obtain ⟨k,hk,e⟩:=Θn h
 exact ⟨k,List.mem_range.mp hk,e.symm⟩
theorem ChB.has {m:Nat} {rs:List RD} {bs:List Nat} {lo hi:Nat->Int} {rws:List RW} (B:ChB m rs bs lo hi rws) {k:Nat} (hk:k < 2 ^ bs.length):∃a∈rws,a.2=P8 m lo hi bs k:=by
 have h:P8 m lo hi bs k∈rws.map (·.2):=by rw [B.rows]; exact Θm ⟨k,List.mem_range.mpr hk,rfl⟩
 obtain ⟨a,ha,e⟩:=Θn h
 exact ⟨a,ha,e⟩
theorem ChB.len {m:Nat} {rs:List RD} {bs:List Nat} {lo hi:Nat->Int} {rws:List RW} (B:ChB m rs bs lo hi rws) {a:RW} (ha:a∈rws):a.2.length=m:=by
 obtain ⟨k,_,e⟩:=B.of ha
 rw [e,Z3]
theorem ChB.apart {m:Nat} {rs:List RD} {bs:List Nat} {lo hi:Nat->Int} {rws:List RW} (B:ChB m rs bs lo hi rws) {k l s:Nat} (h:∀c,c < m->C5 s c->(P8 m lo hi bs k).getD c 0=(P8 m lo hi bs l).getD c 0):∀i b:Nat,bs[i]? = some b->¬(C5 k i↔C5 l i)->Nd s b:=fun i b hi hn c hc=>(B.chs.on B.lh).mp h i b hi hn c hc
theorem ChB.rok {m:Nat} {rs:List RD} {bs:List Nat} {lo hi:Nat->Int} {rws:List RW} (B:ChB m rs bs lo hi rws) {st:Bool} {x y:Nat} (hu:∀b∈bs,usB (st,x,y) b=false):ROk rws st x y:=by
 unfold ROk
 cases st with
 | true=>
  rw [if_pos rfl]
  intro a ha b hb hs
  obtain ⟨k,_,ek⟩:=B.of ha
  obtain ⟨l,_,el⟩:=B.of hb
  have la:=B.len ha
  have lb:=B.len hb
  have h1:=(M4 (m:=m) la lb).mp hs
  rw [ek,el] at h1
  have h2:=B.apart fun c hc hx=>h1 c hc (hasB_iff.mpr hx)
  refine (M4 (m:=m) la lb).mpr ?_
  rw [ek,el]
  intro c hc hy
  refine (B.chs.on B.lh).mpr (fun i b hi hn c hcb hyc=>?_) c hc (hasB_iff.mp hy)
  exact not_us.mp (hu b (Θe hi)) (h2 i b hi hn) ⟨c,hcb,hyc⟩ (.inl rfl)
 | false=>
  rw [if_neg Zf_]
  intro a ha b hb hs
  obtain ⟨k,_,ek⟩:=B.of ha
  obtain ⟨l,_,el⟩:=B.of hb
  have h1:=(M4 (m:=m) (B.len ha) (B.len hb)).mp hs
  rw [ek,el] at h1
  have h2:=B.apart fun c hc hx=>h1 c hc (hasB_iff.mpr hx)
  obtain ⟨j,hj,ej⟩:=B.chs.mix (lo:=lo) (hi:=hi) (k:=k) (l:=l) (s:=x|||y) fun i b hi hn=>by
   have nu:=not_us.mp (hu b (Θe hi)) (h2 i b hi hn)
   by_cases z:∃c,C5 b c/\C5 y c
   ·left
    intro c hc
    rw [M0]
    exact .inr (Classical.byContradiction fun w=>nu z (.inr ⟨c,hc,w⟩))
   ·right
    intro c hc hxy
    rw [M0] at hxy
    rcases hxy with w | w
    ·exact h2 i b hi hn c hc w
    ·exact z ⟨c,hc,w⟩
  obtain ⟨e,he,ee⟩:=B.has hj
  exact ⟨e,he,by rw [ee,ej,ek,el]⟩
theorem Abf {m x fx:Nat} {rs:List RD} {os:List Nat} (O:Blocks m rs x fx os) (n:Nat):Chs m rs (os.take n):=by
 refine ⟨fun i j a b c hi hj ha hb=>?_,fun b hb=>O.kept b (List.mem_of_mem_take hb)⟩
 have hi2:(os.take n)[i]? = os[i]?\/(os.take n)[i]? = none:=by
  rw [List.getElem?_take]
  split
  ·exact .inl rfl
  ·exact .inr rfl
 have hj2:(os.take n)[j]? = os[j]?\/(os.take n)[j]? = none:=by
  rw [List.getElem?_take]
  split
  ·exact .inl rfl
  ·exact .inr rfl
 have hi3:os[i]? = some a:=by
  rcases hi2 with e | e
  ·rw [<-e]; exact hi
  ·rw [e] at hi; cases hi
 have hj3:os[j]? = some b:=by
  rcases hj2 with e | e
  ·rw [<-e]; exact hj
  ·rw [e] at hj; cases hj
 obtain ⟨li,ei⟩:=Ze_.mp hi3
 obtain ⟨lj,ej⟩:=Ze_.mp hj3
 have P:=List.pairwise_iff_getElem.mp O.good.pw
 unfold C5 at ha hb
 rcases Nat.lt_trichotomy i j with h | h | h
 ·have:=P i j li lj h
  rw [ei,ej] at this
  have:=dis_iff.mp this c ha
  rw [hb] at this; cases this
 ·exact h
 ·have:=P j i lj li h
  rw [ei,ej] at this
  have:=dis_iff.mp this c hb
  rw [ha] at this; cases this
section
variable {X:Cx} {K:Θf} {pins:List (Addr × Obj)} {σ:St} {H:Hp} {s:Shared}
end
noncomputable def Aap (rws:List RW) (st:Bool) (x y:Nat) (r1 r2:List Int):Prop:=C6 r1 x=C6 r2 x->if st=true then C6 r1 y=C6 r2 y else ∃c∈rws,c.2=K6 r1 r2 (x|||y)
theorem Wc {rws:List RW} {st:Bool} {x y:Nat}:ROk rws st x y↔∀a∈rws,∀b∈rws,Aap rws st x y a.2 b.2:=by
 unfold ROk Aap
 cases st with
 | true=>exact Iff.rfl
 | false=>exact Iff.rfl
end L2
namespace L2
open PySem PySem.Spec PySem.W PyProof.Rows
theorem chosen_bit {bs:List Nat} {n c:Nat}:E3 (L3 bs n bs.length) c=true↔Y3 bs n c:=by
 rw [Dq]
 constructor
 ·rintro ⟨j,hj,h1,h2⟩
  rw [Zu_,Θh hj] at h2
  exact ⟨j,bs[j],Θh hj,hasB_iff.mp h2,hasB_iff.mp h1⟩
 ·rintro ⟨j,b,e,h1,h2⟩
  obtain ⟨hj,eb⟩:=Ze_.mp e
  exact ⟨j,hj,hasB_iff.mpr h2,by rw [Zu_,e]; exact hasB_iff.mpr h1⟩
structure ChT (m:Nat) (rs:List RD) (bs:List Nat) (lo hi:Nat->Int) (T:List RW):Prop where
 chs:Chs m rs bs
 lh:∀c,lo c≠hi c
 rows:(T.map (·.2)).Perm ((List.range (2 ^ bs.length)).map (P8 m lo hi bs))
theorem Wb {r1 r2:List RW} (h:∀r,r∈r1.map (·.2)↔r∈r2.map (·.2)) {st:Bool} {x y:Nat} (R:ROk r1 st x y):ROk r2 st x y:=by
 have to:∀a∈r2,∃b∈r1,b.2=a.2:=fun a ha=>Θn ((h a.2).mpr (Θm ⟨a,ha,rfl⟩))
 have back:∀a∈r1,∃b∈r2,b.2=a.2:=fun a ha=>Θn ((h a.2).mp (Θm ⟨a,ha,rfl⟩))
 rw [Wc] at R ⊢
 intro a ha b hb hs
 obtain ⟨a',ha',ea⟩:=to a ha
 obtain ⟨b',hb',eb⟩:=to b hb
 have z:=R a' ha' b' hb'
 rw [ea,eb] at z
 have z:=z hs
 cases st with
 | true=>exact z
 | false=>
  rw [if_neg Zf_] at z ⊢
  obtain ⟨c,hc,e⟩:=z
  obtain ⟨d,hd,ed⟩:=back c hc
  exact ⟨d,hd,ed.trans e⟩
section
variable {m:Nat} {rs:List RD} {bs:List Nat} {lo hi:Nat->Int} {T:List RW}
theorem ChT.of (B:ChT m rs bs lo hi T) {a:RW} (ha:a∈T):∃k,k < 2 ^ bs.length/\a.2=P8 m lo hi bs k:=by
 obtain ⟨k,hk,e⟩:=Θn (B.rows.mem_iff.mp (Θm ⟨a,ha,rfl⟩))
 exact ⟨k,List.mem_range.mp hk,e.symm⟩
theorem ChT.len (B:ChT m rs bs lo hi T):T.length=2 ^ bs.length:=by
 have:=B.rows.length_eq
 rwa [Θl,Θl,List.length_range] at this
noncomputable def Abb (m:Nat) (lo hi:Nat->Int) (bs:List Nat):List RW:=((List.range (2 ^ bs.length)).map (P8 m lo hi bs)).map fun r=>((0:Addr),r)
theorem ChT.chb (B:ChT m rs bs lo hi T):ChB m rs bs lo hi (Abb m lo hi bs):=⟨B.chs,B.lh,by unfold Abb; simp⟩
theorem ChT.mem (B:ChT m rs bs lo hi T) (r:List Int):r∈(Abb m lo hi bs).map (·.2)↔r∈T.map (·.2):=by
 rw [B.chb.rows]
 exact B.rows.mem_iff.symm
theorem ChT.rok (B:ChT m rs bs lo hi T) {st:Bool} {x y:Nat} (hu:∀b∈bs,usB (st,x,y) b=false):ROk T st x y:=Wb B.mem (B.chb.rok hu)
end
noncomputable abbrev NM:=Addr × Int × Int
noncomputable def loP (ps:List NM) (c:Nat):Int:=match ps[c]? with | some p=>p.2.1 | none=>0
noncomputable def hiP (ps:List NM) (c:Nat):Int:=match ps[c]? with | some p=>p.2.2 | none=>1
theorem Abz {ps:List NM} (h:∀p∈ps,p.2.1 < p.2.2) (c:Nat):loP ps c≠hiP ps c:=by
 unfold loP hiP
 cases e:ps[c]? with
 | none=>exact fun z=>absurd z (by decide)
 | some p=>
  have:=h p (Θe e)
  show p.2.1≠p.2.2
  omega
theorem Ki (m:Nat) (lo hi:Nat->Int) (bs:List Nat) (n:Nat):((List.range m).map fun k=>if E3 (L3 bs n bs.length) k=true then hi k else lo k)=P8 m lo hi bs n:=by
 unfold P8
 refine List.map_congr_left fun c _=>?_
 by_cases z:Y3 bs n c
 ·rw [if_pos z,if_pos (chosen_bit.mpr z)]
 ·rw [if_neg z,if_neg fun w=>z (chosen_bit.mp w)]
theorem Xi {m p:Nat} {rs:List RD} {u:Nat × Nat} (h:twF m rs p=some u):u.1&&&p=u.1/\U2 m rs p u.1=some u.2:=by
 unfold twF at h
 obtain ⟨x,hx,e⟩:=List.exists_of_findSome?_eq_some h
 unfold Y7 at e
 obtain ⟨g,hg,rfl⟩:=Option.map_eq_some_iff.mp e
 exact ⟨Nr hx,hg⟩
theorem Iy {m x p g:Nat} {rs:List RD} {s:US} (R:Run rs ⟨x,E6 m x,[]⟩ s) (h:U2 m rs p x=some g):(∀k,C5 g k↔(C5 p k/\C5 s.fx k)/\¬C5 x k)\/∃o∈s.bs,g=o&&&p:=by
 unfold U2 Bc at h
 rw [R.unfF] at h
 split at h
 ·cases h
 ·split at h
  ·injection h with h
   exact .inl fun k=>by rw [<-h,Bf,F6]
  ·split at h
   ·right
    have z:g∈K2 p s.bs:=List.mem_of_mem_head? h
    obtain ⟨_,b,hb,e⟩:=Dm z
    exact ⟨b,hb,e⟩
   ·cases h
theorem Po {m x p g:Nat} {rs:List RD} {s:US} (hx:x < 2 ^ m) (R:Run rs ⟨x,E6 m x,[]⟩ s) (h:U2 m rs p x=some g):g&&&x=0:=by
 refine Classical.byContradiction fun z=>?_
 obtain ⟨k,h1,h2⟩:=and_ne.mp z
 rcases Iy R h with w | ⟨o,ho,e⟩
 ·exact ((w k).mp h1).2 h2
 ·rw [e,F6] at h1
  exact (R.blocks hx).apart o ho k h1.1 h2
section
variable {m:Nat} {rs:List RD} {bs:List Nat} {lo hi:Nat->Int} {T:List RW}
end
end L2
namespace L2
open PySem PySem.Spec PyProof.Rows
theorem Lq {w1 w2:List RW} {z x m:Nat} (l1:∀a∈w1,a.2.length=m) (l2:∀b∈w2,b.2.length=m) (k:List Int):k∈T0 w1 w2 z x↔∃a∈w1,∃b∈w2,P5 a.2 b.2 z=true/\k=K6 a.2 b.2 x:=by
 rw [Js]
 constructor
 ·rintro ⟨a,ha,b,hb,e,rfl⟩
  exact ⟨a,ha,b,hb,(De (l1 a ha) (l2 b hb)).mpr e.symm,rfl⟩
 ·rintro ⟨a,ha,b,hb,e,rfl⟩
  exact ⟨a,ha,b,hb,((De (l1 a ha) (l2 b hb)).mp e).symm,rfl⟩
theorem Zm {r1 r2 w1 w2 ws:List RW} {x y m:Nat} (A1:Asc (w1.map (·.2)) (r1.map fun r=>C6 r.2 x)) (A2:Asc (w2.map (·.2)) (r2.map fun r=>C6 r.2 y)) (h1:∀r∈r1,r.2.length=m) (h2:∀r∈r2,r.2.length=m) (m7:m<=7) (hx:x < 128) (hy:y < 128)
  (pr:(ws.map (·.2)).Perm (T0 w1 w2 (x&&&y) x)) (up:ST.RUp ws):Asc (ws.map (·.2)) (T0 w1 w2 (x&&&y) x):=by
 have lens:∀{T ws:List RW} {s:Nat},(∀r∈T,r.2.length=m)->Asc (ws.map (·.2)) (T.map fun r=>C6 r.2 s)->(∀a∈ws,a.2.length=m)/\∀a∈ws,On0 s a.2:=fun {T ws s} hl A=>by
  constructor <;> intro a ha <;> obtain ⟨r,hr,e⟩:=Θn ((A.mem a.2).mp (Θm ⟨a,ha,rfl⟩)) <;> rw [<-e]
  ·exact (E8 _ _).trans (hl r hr)
  ·exact Ep _ _
 exact Asc.of up (pr.nodup_iff.mpr (Nz m7 hx hy A1.nd A2.nd (lens h1 A1).1 (lens h2 A2).1 (lens h1 A1).2 (lens h2 A2).2)) fun k=>pr.mem_iff
section
variable {prog:Program} {w:World} {A:Around} {E:Value->Shared->Prop} {s:Shared}
end
section
variable {X:Cx} {pins:List (Addr × Obj)} {σ:St} {H:Hp} {s:Shared}
end
section
variable {X:Cx} {K:Θf}
end
noncomputable abbrev Tbl:=List (List Int)
theorem Me {n i:Nat} (h:i < n):(List.range n)[i]? = some i:=by rw [Θh (by rw [List.length_range]; exact h),List.getElem_range]
section
variable {X:Cx} {K:Θf} {pins:List (Addr × Obj)} {σ:St} {H:Hp} {s:Shared}
end
theorem Lb:∀{ts:List Addr} {T:Tbl},ts.length=T.length->C0 (ts.zip T)=ts.map V.ref
 | [],[],_=>rfl
 | [],_ :: _,e=>by cases e
 | _ :: _,[],e=>by cases e
 | t :: ts,r :: T,e=>by
  show V.ref t :: C0 (ts.zip T)=V.ref t :: ts.map V.ref
  rw [Lb (by simpa using e)]
theorem Aby {K:Θf} {a:Addr} {xs:List V} {n:Nat} {g:TG} {tc:TT} {te:TE} {σ:St} {H:Hp} {F:List V->Hp->Prop} (Pv:Nat->List V->Hp->Prop) (hn:xs.length<=1000000) (h0:Pv 0 [] H)
  (hl:∀i acc H,i<=xs.length->Pv i acc H->SqT K H a xs/\acc.length<=i)
  (hs:∀i x acc H,xs[i]? = some x->Pv i acc H->g x (List.replicate n none++σ) H fun σ2 H2=>σ2.drop n=σ/\tc σ2 H2 fun c H3=>if c=true then te σ2 H3 fun y H4=>Pv (i + 1) (acc++[y]) H4 else Pv (i + 1) acc H3)
  (hd:∀acc H,Pv xs.length acc H->F acc H):LCW n (Itt K a) g tc te σ H F:=by
 have sz:(1000000:Nat) < sizeLine:=by rw [sizeLine_eq]; decide
 refine ⟨fun i m acc H=>m=xs.length - i/\i<=xs.length/\Pv i acc H,⟨xs.length,by simp,Nat.zero_le _,h0⟩,?_⟩
 rintro i m acc H ⟨rfl,hi,p⟩
 have q:=hl i acc H hi p
 by_cases hlt:i < xs.length
 ·refine .inr ⟨⟨xs,xs[i],q.1,by simp [hlt]⟩,by omega,Pv (i + 1),fun acc' H' p'=>⟨xs.length - (i + 1),by omega,rfl,hlt,p'⟩,fun x H' y=>?_⟩
  obtain ⟨e,y⟩:=y
  subst e
  exact hs i x acc _ (y xs q.1) p
 ·have e:i=xs.length:=by omega
  subst e
  exact .inl ⟨⟨xs,q.1,Zd_ _⟩,by omega,hd acc H p⟩
section
variable {X:Cx} {K:Θf}
end
section
variable {X:Cx} {K:Θf}
end
theorem E9 {r:List Int} {s c m:Nat} (h:r.length=m) (hc:c < m):(C5 s c->(C6 r s).getD c 0=r.getD c 0)/\(¬C5 s c->(C6 r s).getD c 0=0):=by
 rw [Q8 (by omega)]
 exact ⟨fun z=>if_pos (hasB_iff.mpr z),fun z=>if_neg fun w=>z (hasB_iff.mp w)⟩
theorem N1 {a b:List Int} {s c m:Nat} (h:a.length=m) (hc:c < m):(C5 s c->(K6 a b s).getD c 0=a.getD c 0)/\(¬C5 s c->(K6 a b s).getD c 0=b.getD c 0):=by
 rw [Q0 (by omega)]
 exact ⟨fun z=>if_pos (hasB_iff.mpr z),fun z=>if_neg fun w=>z (hasB_iff.mp w)⟩
section
variable {T:List RW} {m x fx:Nat} {bs:List Nat} {rs:List RD}
noncomputable def Snd (T:List RW) (m x fx:Nat) (bs:List Nat):Prop:=∀a∈T,∀b∈T,(∀c,c < m->C5 x c->a.2.getD c 0=b.2.getD c 0)->(∀c,c < m->C5 fx c->a.2.getD c 0=b.2.getD c 0)/\∀B∈bs,∃d∈T,∀c,c < m->(C5 B c->d.2.getD c 0=a.2.getD c 0)/\(¬C5 B c->d.2.getD c 0=b.2.getD c 0)
theorem Sj (hx:x < 2 ^ m):Snd T m x x (E6 m x):=fun a ha b hb al=>by
 refine ⟨al,fun B hB=>⟨a,ha,fun c hc=>⟨fun _=>rfl,fun n=>al c hc ?_⟩⟩⟩
 unfold E6 at hB
 split at hB
 ·rw [Θs hB] at n
  refine Classical.byContradiction fun z=>n ?_
  show (2 ^ m - 1 - x).testBit c=true
  rw [show 2 ^ m - 1 - x=2 ^ m - (x + 1) by omega,Nat.testBit_two_pow_sub_succ hx,Zr_ hc,Bool.true_and]
  cases e:x.testBit c with
  | false=>rfl
  | true=>exact absurd e z
 ·exact absurd hB Zi_
theorem Aab (S:Snd T m x fx bs) (hl:∀r∈T,r.2.length=m) (g:Good m fx bs) {st:Bool} {l y i:Nat} (hi:i < bs.length) (hu:F9 st l y (bs.getD i 0)=true) (ok:ROk T st l y):Snd T m x (N7 st y fx bs i) (F4 st y bs i):=fun a ha b hb al=>by
 obtain ⟨s1,s2⟩:=S a ha b hb al
 have hB:bs.getD i 0∈bs:=by rw [Zu_,Θh hi]; exact List.getElem_mem hi
 obtain ⟨d,hd,ed⟩:=s2 _ hB
 have hfx:=g.dis _ hB
 have la:=hl a ha
 have lb:=hl b hb
 have ld:=hl d hd
 generalize hbe:bs.getD i 0=B at hB ed hfx hu
 have l0:l&&&B=0:=by
  unfold F9 at hu
  rw [Bool.and_eq_true,Bool.and_eq_true] at hu
  exact Zj_ hu.1.1
 have off:∀c,C5 l c->¬C5 B c:=fun c h1 h2=>by
  have:C5 (l&&&B) c:=(F6 _ _ _).mpr ⟨h1,h2⟩
  rw [l0] at this
  unfold C5 at this
  rw [Nat.zero_testBit] at this
  cases this
 have hin:∀c,C5 (inN y bs i) c↔C5 B c/\C5 y c:=fun c=>by unfold inN; rw [hbe,F6]
 have hout:∀c,C5 (P7 y bs i) c↔C5 B c/\¬C5 y c:=fun c=>by
  unfold P7 inN
  rw [hbe]
  unfold C5
  rw [Ev,Bool.and_eq_true,Bool.not_eq_true']
  cases y.testBit c <;> simp
 have sdb:C6 d.2 l=C6 b.2 l:=(M4 ld lb).mpr fun c hc hbc=>(ed c hc).2 (off c (hasB_iff.mp hbc))
 unfold ROk at ok
 cases st with
 | true=>
  rw [if_pos rfl] at ok
  have sy:=(M4 ld lb).mp (ok d hd b hb sdb)
  have ey:∀c,c < m->C5 B c->C5 y c->a.2.getD c 0=b.2.getD c 0:=fun c hc h1 h2=>by rw [<-(ed c hc).1 h1]; exact sy c hc (hasB_iff.mpr h2)
  refine ⟨fun c hc hb'=>?_,fun C hC=>?_⟩
  ·unfold N7 at hb'
   rw [if_pos rfl,<-Bx fx (inN y bs i) (by unfold inN; rw [hbe,<-Nat.and_assoc,hfx,Nat.zero_and]),M0] at hb'
   rcases hb' with h | h
   ·exact s1 c hc h
   ·exact ey c hc ((hin c).mp h).1 ((hin c).mp h).2
  ·unfold F4 at hC
   rw [if_pos rfl] at hC
   rcases Θa hC with hC | hC
   ·rcases Θa hC with hC | hC
    ·exact s2 C (List.mem_of_mem_take hC)
    ·have:C=P7 y bs i:=by
      split at hC
      ·exact Θs hC
      ·exact absurd hC Zi_
     rw [this]
     refine ⟨d,hd,fun c hc=>⟨fun h=>(ed c hc).1 ((hout c).mp h).1,fun h=>?_⟩⟩
     by_cases h1:C5 B c
     ·have h2:C5 y c:=Classical.byContradiction fun z=>h ((hout c).mpr ⟨h1,z⟩)
      rw [(ed c hc).1 h1,ey c hc h1 h2]
     ·exact (ed c hc).2 h1
   ·exact s2 C (List.mem_of_mem_drop hC)
 | false=>
  rw [if_neg Zf_] at ok
  obtain ⟨u,hu',eu⟩:=ok d hd b hb sdb
  obtain ⟨v,hv,ev⟩:=ok b hb d hd sdb.symm
  refine ⟨fun c hc hb'=>?_,fun C hC=>?_⟩
  ·unfold N7 at hb'
   rw [if_neg Zf_] at hb'
   exact s1 c hc hb'
  ·unfold F4 at hC
   rw [if_neg Zf_] at hC
   rcases Θa hC with hC | hC
   ·rcases Θa hC with hC | hC
    ·exact s2 C (List.mem_of_mem_take hC)
    ·rcases Zg_.mp hC with rfl | hC
     ·refine ⟨u,hu',fun c hc=>⟨fun h=>?_,fun h=>?_⟩⟩
      ·obtain ⟨h1,h2⟩:=(hin c).mp h
       rw [eu,(N1 ld hc).1 ((M0 _ _ _).mpr (.inr h2)),(ed c hc).1 h1]
      ·by_cases h1:C5 B c
       ·have h2:¬C5 y c:=fun z=>h ((hin c).mpr ⟨h1,z⟩)
        rw [eu,(N1 ld hc).2 fun z=>?_]
        rcases (M0 _ _ _).mp z with z | z
        ·exact off c z h1
        ·exact h2 z
       ·by_cases h2:C5 (l|||y) c
        ·rw [eu,(N1 ld hc).1 h2,(ed c hc).2 h1]
        ·rw [eu,(N1 ld hc).2 h2]
     ·rw [Θs hC]
      refine ⟨v,hv,fun c hc=>⟨fun h=>?_,fun h=>?_⟩⟩
      ·obtain ⟨h1,h2⟩:=(hout c).mp h
       rw [ev,(N1 lb hc).2 fun z=>?_,(ed c hc).1 h1]
       rcases (M0 _ _ _).mp z with z | z
       ·exact off c z h1
       ·exact h2 z
      ·by_cases h2:C5 (l|||y) c
       ·rw [ev,(N1 lb hc).1 h2]
       ·rw [ev,(N1 lb hc).2 h2]
        refine (ed c hc).2 fun h1=>h ((hout c).mpr ⟨h1,fun z=>h2 ((M0 _ _ _).mpr (.inr z))⟩)
   ·exact s2 C (List.mem_of_mem_drop hC)
theorem Aaa (hl:∀r∈T,r.2.length=m) (ok:∀r∈rs,ROk T r.1 r.2.1 r.2.2) {s t:US} (R:Run rs s t):Good m s.fx s.bs->Snd T m x s.fx s.bs->Snd T m x t.fx t.bs:=by
 induction R with
 | done _=>exact fun _ h=>h
 | step e _ ih=>
  intro g S
  obtain ⟨h1,h2,h3⟩:=V6 (by rw [e]; exact Θc ..)
  refine ih (g.use h2 h3).1 (Aab S hl g h2 h3 (ok _ ?_))
  unfold Y2
  rw [Zu_,Θh h1]
  exact List.getElem_mem h1
end
noncomputable def Tr.part:Tr->Nat
 | .whole p=>p
 | .cut p _ _ _ _=>p
noncomputable def Wf (m:Nat):Tr->Prop
 | .whole p=>p < 2 ^ m
 | .cut p s g l r=>(p < 2 ^ m/\s|||g < 2 ^ m/\p - (p&&&g) < 2 ^ m)/\(l.part=s|||g/\r.part=p - (p&&&g))/\((s|||g)&&&(p - (p&&&g))=s/\∀c,C5 p c↔C5 (s|||g) c\/C5 (p - (p&&&g)) c)/\Wf m l/\Wf m r
theorem Wf.lt {m:Nat}:∀{t:Tr},Wf m t->t.part < 2 ^ m
 | .whole _,h=>h
 | .cut _ _ _ _ _,h=>h.1.1
theorem Pm {m p:Nat} {rs:List RD} {u:Nat × Nat} (hp:p < 2 ^ m) (h:twF m rs p=some u):(u.1|||u.2)&&&(p - (p&&&u.2))=u.1:=by
 obtain ⟨hx,hg⟩:=Xi h
 have lx:u.1 < 2 ^ m:=by
  have z:u.1&&&p<=p:=Nat.and_le_right
  rw [hx] at z
  omega
 obtain ⟨s,R⟩:=Hu (rs:=rs) _ ⟨u.1,E6 m u.1,[]⟩ (Zd_ _) (Good.begin lx)
 have off:=Po lx R hg
 refine Ni fun c=>?_
 rw [F6,M0,Bf]
 constructor
 ·rintro ⟨z | z,_,w⟩
  ·exact z
  ·exact absurd z w
 ·intro z
  refine ⟨.inl z,?_,fun w=>?_⟩
  ·rw [<-hx] at z
   exact ((F6 _ _ _).mp z).2
  ·have:C5 (u.2&&&u.1) c:=(F6 _ _ _).mpr ⟨w,z⟩
   rw [off] at this
   unfold C5 at this
   rw [Nat.zero_testBit] at this
   cases this
theorem Ir {m:Nat} {rs:List RD}:∀(n p:Nat),p<=n->p < 2 ^ m->(trP m rs p).part=p/\Wf m (trP m rs p)
 | n,p,hn,hp=>by
  cases e:twF m rs p with
  | none=>
   rw [V8 e]
   exact ⟨rfl,hp⟩
  | some u=>
   have z:=Ew hp e
   have z1:=z.one
   have z2:=z.oth
   rw [V9 hp e]
   match n,hn with
   | 0,hn=>omega
   | n + 1,hn=>
    obtain ⟨a1,a2⟩:=Ir (m:=m) (rs:=rs) n (u.1|||u.2) (by omega) (by omega)
    obtain ⟨b1,b2⟩:=Ir (m:=m) (rs:=rs) n (p - (p&&&u.2)) (by omega) (by omega)
    exact ⟨rfl,⟨hp,by omega,by omega⟩,⟨a1,b1⟩,⟨Pm hp e,z.all⟩,a2,b2⟩
noncomputable def GM (T:List (List Int)) (m:Nat):Tr->List Int->Prop
 | .whole p,k=>∃r∈T,k=C6 r p
 | .cut _ s g l r,k=>∃a,GM T m l a/\∃b,GM T m r b/\(∀c,c < m->C5 s c->a.getD c 0=b.getD c 0)/\k=K6 a b (s|||g)
structure GmB (T:List (List Int)) (m p:Nat) (k:List Int):Prop where
 len:k.length=m
 off:∀c,c < m->¬C5 p c->k.getD c 0=0
 on:∀c,c < m->C5 p c->∃r∈T,k.getD c 0=r.getD c 0
theorem Dw {T:List (List Int)} {m:Nat} (hl:∀r∈T,r.length=m):∀{t:Tr} {k:List Int},Wf m t->GM T m t k->GmB T m t.part k
 | .whole p,k,w,h=>by
  obtain ⟨r,hr,rfl⟩:=h
  exact ⟨(E8 _ _).trans (hl r hr),fun c hc z=>(E9 (hl r hr) hc).2 z,fun c hc z=>⟨r,hr,(E9 (hl r hr) hc).1 z⟩⟩
 | .cut p s g l r,k,w,h=>by
  obtain ⟨a,ha,b,hb,al,rfl⟩:=h
  obtain ⟨_,⟨e1,e2⟩,⟨_,all⟩,wl,wr⟩:=w
  have A:=Dw hl wl ha
  have B:=Dw hl wr hb
  rw [e1] at A
  rw [e2] at B
  refine ⟨(O4 _ _ _).trans A.len,fun c hc z=>?_,fun c hc z=>?_⟩
  ·have n1:¬C5 (s|||g) c:=fun w=>z ((all c).mpr (.inl w))
   rw [(N1 A.len hc).2 n1]
   exact B.off c hc fun w=>z ((all c).mpr (.inr w))
  ·by_cases n1:C5 (s|||g) c
   ·rw [(N1 A.len hc).1 n1]
    exact A.on c hc n1
   ·rw [(N1 A.len hc).2 n1]
    exact B.on c hc (((all c).mp z).resolve_left n1)
noncomputable def Fu (V:Nat->List Int):Nat->List (List Int)
 | 0=>[[]]
 | m + 1=>(Fu V m).flatMap fun l=>(V m).map fun v=>l++[v]
theorem Kd {V:Nat->List Int} {d:Nat} (h:∀c,(V c).length<=d):∀m,(Fu V m).length<=d ^ m
 | 0=>Zd_ _
 | m + 1=>by
  show ((Fu V m).flatMap _).length<=_
  rw [List.length_flatMap]
  simp only [Θl,List.map_const',List.sum_replicate_nat]
  rw [Nat.pow_succ]
  exact Nat.mul_le_mul (Kd h m) (h m)
theorem Ke {V:Nat->List Int}:∀(m:Nat) (k:List Int),k.length=m->(∀c,c < m->k.getD c 0∈V c)->k∈Fu V m
 | 0,k,e,_=>by
  rw [List.length_eq_zero_iff.mp e]
  exact List.mem_singleton.mpr rfl
 | m + 1,k,e,h=>by
  have hk:k=k.take m++[k.getD m 0]:=by
   refine O0 (by rw [Zv_,ZB,e]; show m + 1=min m (m + 1) + 1; omega) fun c hc=>?_
   by_cases z:c < m
   ·rw [Zu_,Zu_ (l:=_++_),List.getElem?_append_left (by rw [ZB]; omega),List.getElem?_take,if_pos z]
   ·obtain rfl:c=m:=by omega
    rw [Zu_ (l:=_++_),ZD (by rw [ZB]; omega),ZB,show c - min c k.length=0 by omega]
    rfl
  have ht:k.take m∈Fu V m:=Ke m _ (by rw [ZB]; omega) fun c hc=>by
   have:=h c (by omega)
   rw [Zu_,List.getElem?_take,if_pos hc,<-Zu_]
   exact this
  rw [hk]
  exact List.mem_flatMap.mpr ⟨_,ht,Θm ⟨_,h m (by omega),rfl⟩⟩
noncomputable def W1 (T:List (List Int)) (m:Nat):Prop:=∃(d:Nat) (V:Nat->List Int),1<=d/\d ^ m<=250/\(∀c,(V c).length<=d)/\∀r∈T,∀c,c < m->r.getD c 0∈V c
theorem Gv {T:List (List Int)} {m:Nat} {t:Tr} {ks:List (List Int)} (hl:∀r∈T,r.length=m) (w:Wf m t) (F:W1 T m) (nd:ks.Nodup) (h:∀k∈ks,GM T m t k):ks.length<=250:=by
 obtain ⟨d,V,d1,dm,hV,hT⟩:=F
 refine Zo_ (Ee (b:=Fu (fun c=>if E3 t.part c=true then V c else [0]) m) nd fun k hk=>?_) (Zo_ (Kd (d:=d) (fun c=>?_) m) dm)
 ·have B:=Dw hl w (h k hk)
  refine Ke m k B.len fun c hc=>?_
  by_cases z:C5 t.part c
  ·rw [if_pos (hasB_iff.mpr z)]
   obtain ⟨r,hr,e⟩:=B.on c hc z
   rw [e]
   exact hT r hr c hc
  ·rw [if_neg fun w=>z (hasB_iff.mp w),B.off c hc z]
   exact List.mem_singleton.mpr rfl
 ·split
  ·exact hV c
  ·exact d1
theorem Lr {m p:Nat} {rs:List RD} {T:List RW} {u:Nat × Nat} (hl:∀r∈T,r.2.length=m) (ok:∀r∈rs,ROk T r.1 r.2.1 r.2.2) (hp:p < 2 ^ m) (h:twF m rs p=some u) {a b:RW} (ha:a∈T) (hb:b∈T) (al:∀c,c < m->C5 u.1 c->a.2.getD c 0=b.2.getD c 0) :
  ∃r∈T,∀c,c < m->C5 p c->(C5 (u.1|||u.2) c->r.2.getD c 0=a.2.getD c 0)/\(¬C5 (u.1|||u.2) c->r.2.getD c 0=b.2.getD c 0):=by
 obtain ⟨hx,hg⟩:=Xi h
 have lx:u.1 < 2 ^ m:=by
  have z:u.1&&&p<=p:=Nat.and_le_right
  rw [hx] at z
  omega
 obtain ⟨s,R⟩:=Hu (rs:=rs) _ ⟨u.1,E6 m u.1,[]⟩ (Zd_ _) (Good.begin lx)
 have S:Snd T m u.1 s.fx s.bs:=Aaa hl ok R (Good.begin lx) (Sj lx)
 obtain ⟨fx,bl⟩:=S a ha b hb al
 rcases Iy R hg with w | ⟨o,ho,e⟩
 ·refine ⟨b,hb,fun c hc _=>⟨fun z=>?_,fun _=>rfl⟩⟩
  rcases (M0 _ _ _).mp z with z | z
  ·exact (al c hc z).symm
  ·exact (fx c hc ((w c).mp z).1.2).symm
 ·obtain ⟨d,hd,ed⟩:=bl o ho
  refine ⟨d,hd,fun c hc hpc=>⟨fun z=>?_,fun z=>?_⟩⟩
  ·by_cases zo:C5 o c
   ·exact (ed c hc).1 zo
   ·rw [(ed c hc).2 zo]
    rcases (M0 _ _ _).mp z with z | z
    ·exact (al c hc z).symm
    ·rw [e] at z
     exact absurd ((F6 _ _ _).mp z).1 zo
  ·exact (ed c hc).2 fun zo=>z ((M0 _ _ _).mpr (.inr (by rw [e]; exact (F6 _ _ _).mpr ⟨zo,hpc⟩)))
theorem Cn {m:Nat} {rs:List RD} {T:List RW} (hl:∀r∈T,r.2.length=m) (ok:∀r∈rs,ROk T r.1 r.2.1 r.2.2):∀(n p:Nat),p<=n->p < 2 ^ m->∀k,GM (T.map (·.2)) m (trP m rs p) k↔k∈T.map fun r=>C6 r.2 p
 | n,p,hn,hp,k=>by
  cases e:twF m rs p with
  | none=>
   rw [V8 e]
   show (∃r∈T.map (·.2),k=C6 r p)↔_
   constructor
   ·rintro ⟨r',hr',rfl⟩
    obtain ⟨r,hr,rfl⟩:=Θn hr'
    exact Θm ⟨r,hr,rfl⟩
   ·intro h
    obtain ⟨r,hr,rfl⟩:=Θn h
    exact ⟨r.2,Θm ⟨r,hr,rfl⟩,rfl⟩
  | some u=>
   have z:=Ew hp e
   have z1:=z.one
   have z2:=z.oth
   have all:=z.all
   have meet:=Pm hp e
   have sx:∀c,C5 u.1 c->C5 (u.1|||u.2) c/\C5 (p - (p&&&u.2)) c:=fun c h=>by
    rw [<-meet] at h
    exact (F6 _ _ _).mp h
   rw [V9 hp e]
   match n,hn with
   | 0,hn=>omega
   | n + 1,hn=>
    have L:=Cn hl ok n (u.1|||u.2) (by omega) (by omega)
    have R:=Cn hl ok n (p - (p&&&u.2)) (by omega) (by omega)
    show (∃a,GM (T.map (·.2)) m (trP m rs (u.1|||u.2)) a/\∃b,GM (T.map (·.2)) m (trP m rs (p - (p&&&u.2))) b/\(∀c,c < m->C5 u.1 c->a.getD c 0=b.getD c 0)/\k=K6 a b (u.1|||u.2))↔_
    constructor
    ·rintro ⟨a',ha,b',hb,al,rfl⟩
     obtain ⟨a,ha',rfl⟩:=Θn ((L a').mp ha)
     obtain ⟨b,hb',rfl⟩:=Θn ((R b').mp hb)
     clear ha hb
     have ha:=ha'
     have hb:=hb'
     have la:=hl a ha
     have lb:=hl b hb
     obtain ⟨r,hr,er⟩:=Lr hl ok hp e ha hb fun c hc h=>by
      have:=al c hc h
      rw [(E9 la hc).1 (sx c h).1,(E9 lb hc).1 (sx c h).2] at this
      exact this
     refine Θm ⟨r,hr,O0 (by rw [E8,O4,E8,hl r hr,la]) fun c hc=>?_⟩
     rw [E8,hl r hr] at hc
     have lsa:(C6 a.2 (u.1|||u.2)).length=m:=(E8 _ _).trans la
     by_cases hpc:C5 p c
     ·rw [(E9 (hl r hr) hc).1 hpc]
      by_cases hx:C5 (u.1|||u.2) c
      ·rw [(N1 lsa hc).1 hx,(E9 la hc).1 hx,(er c hc hpc).1 hx]
      ·rw [(N1 lsa hc).2 hx,(E9 lb hc).1 (((all c).mp hpc).resolve_left hx),(er c hc hpc).2 hx]
     ·rw [(E9 (hl r hr) hc).2 hpc,(N1 lsa hc).2 fun w=>hpc ((all c).mpr (.inl w)),(E9 lb hc).2 fun w=>hpc ((all c).mpr (.inr w))]
    ·intro h
     obtain ⟨r,hr,rfl⟩:=Θn h
     have lr:=hl r hr
     refine ⟨C6 r.2 (u.1|||u.2),(L _).mpr (Θm ⟨r,hr,rfl⟩),C6 r.2 (p - (p&&&u.2)),(R _).mpr (Θm ⟨r,hr,rfl⟩),fun c hc h=>?_,O0 (by rw [O4,E8,E8]) fun c hc=>?_⟩
     ·rw [(E9 lr hc).1 (sx c h).1,(E9 lr hc).1 (sx c h).2]
     ·rw [E8,lr] at hc
      have lsa:(C6 r.2 (u.1|||u.2)).length=m:=(E8 _ _).trans lr
      by_cases hx:C5 (u.1|||u.2) c
      ·rw [(N1 lsa hc).1 hx,(E9 lr hc).1 hx,(E9 lr hc).1 ((all c).mpr (.inl hx))]
      ·rw [(N1 lsa hc).2 hx]
       by_cases hy:C5 (p - (p&&&u.2)) c
       ·rw [(E9 lr hc).1 hy,(E9 lr hc).1 ((all c).mpr (.inr hy))]
       ·rw [(E9 lr hc).2 hy,(E9 lr hc).2 fun w=>((all c).mp w).elim hx hy]
theorem Ln {T:List (List Int)} {m:Nat} (hl:∀r∈T,r.length=m) {r:List Int} (hr:r∈T):∀{t:Tr},Wf m t->GM T m t (C6 r t.part)
 | .whole p,_=>⟨r,hr,rfl⟩
 | .cut p s g l r',w=>by
  obtain ⟨_,⟨e1,e2⟩,⟨meet,all⟩,wl,wr⟩:=w
  have A:=Ln hl hr wl
  have B:=Ln hl hr wr
  rw [e1] at A
  rw [e2] at B
  have lr:=hl r hr
  have lsa:(C6 r (s|||g)).length=m:=(E8 _ _).trans lr
  refine ⟨_,A,_,B,fun c hc h=>?_,O0 (by rw [O4,E8,E8]) fun c hc=>?_⟩
  ·rw [<-meet] at h
   obtain ⟨h1,h2⟩:=(F6 _ _ _).mp h
   rw [(E9 lr hc).1 h1,(E9 lr hc).1 h2]
  ·rw [E8,lr] at hc
   show (C6 r p).getD c 0=_
   by_cases hx:C5 (s|||g) c
   ·rw [(N1 lsa hc).1 hx,(E9 lr hc).1 hx,(E9 lr hc).1 ((all c).mpr (.inl hx))]
   ·rw [(N1 lsa hc).2 hx]
    by_cases hy:C5 (p - (p&&&g)) c
    ·rw [(E9 lr hc).1 hy,(E9 lr hc).1 ((all c).mpr (.inr hy))]
    ·rw [(E9 lr hc).2 hy,(E9 lr hc).2 fun w=>((all c).mp w).elim hx hy]
section
variable {T:List (List Int)} {m p s g:Nat} {l r:Tr} {ws1 ws2 w1 w2:List RW}
theorem Co (hl:∀r∈T,r.length=m) {t:Tr} (w:Wf m t) {k:List Int} (h:GM T m t k):C6 k t.part=k:=by
 have B:=Dw hl w h
 refine O0 (E8 _ _) fun c hc=>?_
 rw [E8,B.len] at hc
 by_cases hb:C5 t.part c
 ·exact (E9 B.len hc).1 hb
 ·rw [(E9 B.len hc).2 hb,B.off c hc hb]
theorem Be (hl:∀r∈T,r.length=m) {t:Tr} (w:Wf m t) (h1:∀k,k∈ws1.map (·.2)↔GM T m t k) (B1:Asc (w1.map (·.2)) (ws1.map fun r=>C6 r.2 t.part)) (k:List Int):k∈w1.map (·.2)↔GM T m t k:=by
 rw [B1.mem,<-h1]
 constructor
 ·intro h
  obtain ⟨r,hr,rfl⟩:=Θn h
  have hm:r.2∈ws1.map (·.2):=Θm ⟨r,hr,rfl⟩
  rw [Co hl w ((h1 _).mp hm)]
  exact hm
 ·intro h
  obtain ⟨r,hr,rfl⟩:=Θn h
  exact Θm ⟨r,hr,Co hl w ((h1 _).mp h)⟩
theorem Cm (hl:∀r∈T,r.length=m) (w:Wf m (.cut p s g l r)) (h1:∀k,k∈w1.map (·.2)↔GM T m l k) (h2:∀k,k∈w2.map (·.2)↔GM T m r k) (k:List Int):k∈T0 w1 w2 s (s|||g)↔GM T m (.cut p s g l r) k:=by
 obtain ⟨_,⟨e1,e2⟩,⟨meet,all⟩,wl,wr⟩:=w
 rw [Js]
 constructor
 ·rintro ⟨a,ha,b,hb,e,rfl⟩
  have ga:=(h1 a.2).mp (Θm ⟨a,ha,rfl⟩)
  have gb:=(h2 b.2).mp (Θm ⟨b,hb,rfl⟩)
  exact ⟨a.2,ga,b.2,gb,fun c hc h=>((M4 (Dw hl wr gb).len (Dw hl wl ga).len).mp e c hc (hasB_iff.mpr h)).symm,rfl⟩
 ·rintro ⟨a',ga,b',gb,al,rfl⟩
  obtain ⟨a,ha,rfl⟩:=Θn ((h1 _).mpr ga)
  obtain ⟨b,hb,rfl⟩:=Θn ((h2 _).mpr gb)
  exact ⟨a,ha,b,hb,(M4 (Dw hl wr gb).len (Dw hl wl ga).len).mpr fun c hc h=>(al c hc (hasB_iff.mp h)).symm,rfl⟩
theorem Adu (hl:∀r∈T,r.length=m) (m7:m<=7) (w:Wf m (.cut p s g l r)) (h1:∀k,k∈w1.map (·.2)↔GM T m l k) (h2:∀k,k∈w2.map (·.2)↔GM T m r k) (n1:(w1.map (·.2)).Nodup) (n2:(w2.map (·.2)).Nodup):(T0 w1 w2 s (s|||g)).Nodup:=by
 obtain ⟨⟨p0,p1,p2⟩,⟨e1,e2⟩,⟨meet,all⟩,wl,wr⟩:=w
 have p7:=El m7
 have A:∀a∈w1,a.2.length=m/\On0 (s|||g) a.2:=fun a ha=>by
  have G:=(h1 a.2).mp (Θm ⟨a,ha,rfl⟩)
  have z:=Co hl wl G
  rw [e1] at z
  have:=Ep a.2 (s|||g)
  rw [z] at this
  exact ⟨(Dw hl wl G).len,this⟩
 have B:∀a∈w2,a.2.length=m/\On0 (p - (p&&&g)) a.2:=fun a ha=>by
  have G:=(h2 a.2).mp (Θm ⟨a,ha,rfl⟩)
  have z:=Co hl wr G
  rw [e2] at z
  have:=Ep a.2 (p - (p&&&g))
  rw [z] at this
  exact ⟨(Dw hl wr G).len,this⟩
 have:=Nz (x:=s|||g) (y:=p - (p&&&g)) m7 (by omega) (by omega) n1 n2 (fun a ha=>(A a ha).1) (fun a ha=>(B a ha).1) (fun a ha=>(A a ha).2) fun a ha=>(B a ha).2
 rw [meet] at this
 exact this
end
noncomputable def Bn (K:Θf) (n:Nat):Sp:=fun vs H Q _=>∃(tb:Addr) (v:V) (T:List RW) (t:Tr) (m:Nat),vs=[.ref tb,v]/\SqL K H tb (C0 T)/\RowsOk H m T/\1<=m/\m<=7/\1<=T.length/\T.length<=20/\TreeV H t v/\t.dep < n/\Wf m t/\W1 (T.map (·.2)) m/\
 ∀(l:Addr) (ws:List RW) (H':Hp),Same H H'->H l=none->H' l=some (.lst (C0 ws))->RowsOk H' m ws->Asc (ws.map (·.2)) (ws.map (·.2))->(∀k,k∈ws.map (·.2)↔GM (T.map (·.2)) m t k)->Q (.ref l) H'
noncomputable def Kn (K:Θf):Sp:=fun vs H Q _=>∃(a1 a2:Addr) (w1 w2:List RW) (x z m:Nat),vs=[.ref a1,vN x,.ref a2,vN z]/\SqL K H a1 (C0 w1)/\SqL K H a2 (C0 w2)/\RowsOk H m w1/\RowsOk H m w2/\1<=m/\m<=7/\(∀ks:List (List Int),ks.Nodup->(∀k∈ks,k∈T0 w1 w2 z x)->ks.length<=250)/\
 ∀(l:Addr) (ws:List RW) (H':Hp),Same H H'->H l=none->H' l=some (.lst (C0 ws))->RowsOk H' m ws->Asc (ws.map (·.2)) (T0 w1 w2 z x)->Q (.ref l) H'
noncomputable def Kr (K:Θf):Sp:=fun vs H Q _=>∃(m:Nat) (rl:Addr) (rs:List Rl),vs=[vN m,.ref rl]/\m<=7/\SqL K H rl (rs.map fun r=>V.ref r.r)/\RulesAt H m rs/\rs.length<=200/\
 (∀H',Same H H'->Q .non H')/\∀(v:V) (H':Hp),Same H H'->(trP m (rs.map Rl.d) (2 ^ m - 1)).cnt<=60->TreeV H' (trP m (rs.map Rl.d) (2 ^ m - 1)) v->Q v H'
noncomputable def Tr.subs:Tr->List Tr
 | .whole p=>[.whole p]
 | .cut p s g l r=>.cut p s g l r :: (l.subs++r.subs)
theorem Tr.self:∀t:Tr,t∈t.subs
 | .whole _=>List.mem_singleton.mpr rfl
 | .cut ..=>Θc ..
theorem Mv {a b c:Tr}:b∈a.subs->c∈b.subs->c∈a.subs:=by
 induction a with
 | whole p=>
  intro h1 h2
  rw [Θs h1] at h2
  exact h2
 | cut p s g l r ihl ihr=>
  intro h1 h2
  rcases Zg_.mp h1 with rfl | h1
  ·exact h2
  ·rcases Θa h1 with h1 | h1
   ·exact Θd _ (Zt_ _ (ihl h1 h2))
   ·exact Θd _ (Zh_ _ (ihr h1 h2))
theorem Bo {m:Nat} {rs:List RD}:∀(n p:Nat),p<=n->p < 2 ^ m->∀t∈(trP m rs p).subs,∃q,q < 2 ^ m/\t=trP m rs q
 | n,p,hn,hp,t,ht=>by
  cases e:twF m rs p with
  | none=>
   rw [V8 e] at ht
   exact ⟨p,hp,by rw [V8 e]; exact Θs ht⟩
  | some u=>
   have z:=Ew hp e
   have z1:=z.one
   have z2:=z.oth
   have ht0:=ht
   rw [V9 hp e] at ht
   rcases Zg_.mp ht with rfl | ht
   ·exact ⟨p,hp,(V9 hp e).symm⟩
   ·match n,hn with
    | 0,hn=>omega
    | n + 1,hn=>
     rcases Θa ht with ht | ht
     ·exact Bo n (u.1|||u.2) (by omega) (by omega) t ht
     ·exact Bo n (p - (p&&&u.2)) (by omega) (by omega) t ht
noncomputable def Pi (K:Θf):Sp:=fun vs H Q _=>∃(v:V) (t:Tr),vs=[v]/\TreeV H t v/\t.cnt<=60/\
 ∀(l:Addr) (ts:List Tr) (us:List V) (H':Hp),Same H H'->H l=none->H' l=some (.lst us)->TreesV H' ts us->ts[0]? = some t->(∀t'∈ts,t'∈t.subs)->ts.length<=60->Q (.ref l) H'
theorem TreesV.get {H:Hp}:∀{ts:List Tr} {vs:List V} {i:Nat} {v:V},TreesV H ts vs->vs[i]? = some v->∃t,ts[i]? = some t/\TreeV H t v
 | _,_,0,_,.cons a _,e=>⟨_,rfl,(Θo e) ▸ a⟩
 | _,_,i + 1,_,.cons _ b,e=>b.get (i:=i) e
theorem TreesV.take {H:Hp}:∀{ts:List Tr} {vs:List V} (n:Nat),TreesV H ts vs->TreesV H (ts.take n) (vs.take n)
 | _,_,0,_=>.nil
 | _,_,_ + 1,.nil=>.nil
 | _,_,n + 1,.cons a b=>.cons a (b.take n)
theorem TreesV.drop {H:Hp}:∀{ts:List Tr} {vs:List V} (n:Nat),TreesV H ts vs->TreesV H (ts.drop n) (vs.drop n)
 | _,_,0,h=>h
 | _,_,_ + 1,.nil=>.nil
 | _,_,n + 1,.cons _ b=>b.drop n
theorem P9 {H:Hp} {t:Tr} {v:V} (h:TreeV H t v):∃(a:Addr) (xs:List V),v = .ref a/\H a=some (.tup xs)/\xs[1]? = some (vN t.part):=by
 cases t with
 | whole p=>
  obtain ⟨a,rfl,ha⟩:=h
  exact ⟨a,_,rfl,ha,rfl⟩
 | cut p s g l r=>
  obtain ⟨a,x,y,rfl,ha,_,_⟩:=h
  exact ⟨a,_,rfl,ha,rfl⟩
noncomputable def NodesOk (m:Nat) (rs:List RD) (ts:List Tr):Prop:=∀t∈ts,∃q,q < 2 ^ m/\t=trP m rs q
theorem NodesOk.wf {m:Nat} {rs:List RD} {ts:List Tr} (h:NodesOk m rs ts) {t:Tr} (ht:t∈ts) (m7:m<=7):Wf m t/\t.dep < 128:=by
 obtain ⟨q,hq,rfl⟩:=h t ht
 have p7:=El m7
 have:=Ip (m:=m) (rs:=rs) q q (Zd_ _) hq
 exact ⟨(Ir q q (Zd_ _) hq).2,by omega⟩
noncomputable def Ko (K:Θf):Sp:=fun vs H Q _=>∃(tb nl:Addr) (T:List RW) (ts:List Tr) (us:List V) (m:Nat) (rs:List RD),vs=[.ref tb,.ref nl]/\SqL K H tb (C0 T)/\RowsOk H m T/\1<=m/\m<=7/\1<=T.length/\T.length<=20/\SqL K H nl us/\TreesV H ts us/\1<=ts.length/\ts.length<=60/\NodesOk m rs ts/\(∀r∈rs,ROk T r.1 r.2.1 r.2.2)/\W1 (T.map (·.2)) m/\∀H',Same H H'->Q (.bl true) H'
noncomputable def Fy (K:Θf):Sp:=fun vs H Q _=>∃(tb nl:Addr) (T:List RW) (ts:List Tr) (us:List V) (m:Nat) (rs:List RD),vs=[.ref tb,.ref nl]/\SqL K H tb (C0 T)/\RowsOk H m T/\1<=m/\m<=7/\1<=T.length/\T.length<=20/\SqL K H nl us/\TreesV H ts us/\ts.length<=120/\NodesOk m rs ts/\W1 (T.map (·.2)) m/\∀H',Same H H'->Q (.bl true) H'
end L2
namespace Own
open PySem L2
noncomputable def top (i:Nat):Stmt:=PySem.Challenge.pw_splithouse_k63_whole_put_together_up_the.main.body.getD i (.Pass ⟨0,0,0,0⟩)
section
variable {P:Program} {w:World} {K:Θf} {mg:Str->Option Value} {base:Heap}
seal PySem.wpAny
noncomputable abbrev Mk:Stmt:=top 37
theorem scGrown:FnScope ["book","tree","one","other"] ["book","tree"] (C3 Mk):=⟨rfl,rfl,rfl,by decide +kernel,rfl,by decide +kernel,by decide +kernel⟩
theorem Kb {f fO fPT:Addr} {fd fdO fdPT:FuncData} (F:Fun K "grown" "grown" Mk f fd) (GO:FnOk P w K mg base CX0 4 fO fdO ["book","part"] (Z7 K)) (mO:mg "seen_on" = some (.ref fO)) (kO:Θk K fO) (bO:Binds K fdO ["book","part"] []) (GPT:FnOk P w K mg base CX0 5 fPT fdPT ["one","part","other","beside"] (Aa4 K)) (mPT:mg "put_together" = some (.ref fPT)) (kPT:Θk K fPT) (bPT:Binds K fdPT ["one","part","other","beside"] []) (mGR:mg "grown" = some (.ref f)) (kGR:Θk K f) (bGR:Binds K fd ["book","tree"] []):∀n:Nat,FnOk P w K mg base CX0 (n + 6) f fd ["book","tree"] (Bn K n)
 | 0=>by
  refine F.ok (k:=5) scGrown (fun vs H Q E h=>?_) (fun cdv A outer s H vs Q E hr h=>?_)
  ·obtain ⟨tb,v,T,t,m,rfl,_⟩:=h
   rfl
  ·obtain ⟨tb,v,T,t,m,rfl,_,_,_,_,_,_,_,hn,_⟩:=h
   exact absurd hn (Nat.not_lt_zero _)
 | n + 1=>by
  have GGR:=Kb F GO mO kO bO GPT mPT kPT bPT mGR kGR bGR n
  refine F.ok (k:=n + 6) scGrown (fun vs H Q E h=>?_) (fun cdv A outer s H vs Q E hr h=>?_)
  ·obtain ⟨tb,v,T,t,m,rfl,_⟩:=h
   rfl
  obtain ⟨tb,v,T,t,m,rfl,hT,R,m1,m7,lT1,lT,tv,hn,wf,few,q⟩:=h
  have nd:=scGrown.nd
  have hr4:Room 4 _:=hr.mono (by omega)
  have hr5:Room 5 _:=hr.mono (by omega)
  have p7:=El m7
  have hl:∀r∈T.map (·.2),r.length=m:=fun r h=>by
   obtain ⟨r',h1,rfl⟩:=Θn h
   exact (R r' h1).2
  refine ⟨_,(A9 (F8 (D8 op_eq (D7 (D2 (K:=K) rfl) (pv 1) B0 (fun _ _=>rfl)) U6 (D9 _)) (C1 (D0 (C2 GO hr4 rfl mO kO bO .nil C8 (A0 (pv 0) (A0 (D7 (D2 (K:=K) rfl) (pv 1) B0 (fun _ _=>rfl)) A6))))) E1)
   (A9 (D1 (i:=2) nd rfl (Or.inl rfl) (D7 (D2 (K:=K) rfl) (pv 1) B0 (fun _ _=>rfl)))
   (A9 (D1 (i:=3) nd rfl (Or.inl rfl) (D7 (D2 (K:=K) rfl) (pv 1) B0 (fun _ _=>rfl)))
   (C1 (D0 (C2 GPT hr5 rfl mPT kPT bPT .nil C8 (A0 (C2 GGR hr rfl mGR kGR bGR .nil C8 (A0 (pv 0) (A0 (pv 2) A6))) (A0 (D7 (D2 (K:=K) rfl) (pv 2) B0 (fun _ _=>rfl)) (A0 (C2 GGR hr rfl mGR kGR bGR .nil C8 (A0 (pv 0) (A0 (pv 3) A6))) (A0 (D7 (D2 (K:=K) rfl) (pv 3) B0 (fun _ _=>rfl)) A6)))))))))),?_⟩
  cases t with
  | whole p=>
   obtain ⟨a,rfl,ha⟩:=tv
   refine ⟨_,rfl,a,_,_,_,rfl,rfl,SqT.of ha,C4 (j:=0) rfl,rfl,_,rfl,Y1 ?_⟩
   refine ⟨_,rfl,_,rfl,a,_,_,_,rfl,rfl,SqT.of ha,C4 (j:=1) rfl,tb,T,p,m,rfl,hT,R,m1,by omega,by omega,fun l ws H1 s1 hl1 hws Rw A1=>?_⟩
   refine q l ws H1 s1 hl1 hws Rw ⟨A1.up,A1.nd,fun k=>Iff.rfl⟩ fun k=>?_
   rw [A1.mem]
   show _↔∃r∈T.map (·.2),k=C6 r p
   constructor
   ·intro h
    obtain ⟨r,hr0,rfl⟩:=Θn h
    exact ⟨r.2,Θm ⟨r,hr0,rfl⟩,rfl⟩
   ·rintro ⟨r',hr0,rfl⟩
    obtain ⟨r,hr1,rfl⟩:=Θn hr0
    exact Θm ⟨r,hr1,rfl⟩
  | cut p s0 g l r=>
   obtain ⟨a,x,y,rfl,ha,tl,tr⟩:=tv
   have hd:max l.dep r.dep + 1 < n + 1:=hn
   have wf0:=wf
   obtain ⟨⟨hp0,hp1,hp2⟩,⟨e1,e2⟩,⟨meet,all⟩,wl,wr⟩:=wf0
   refine ⟨_,rfl,a,_,_,_,rfl,rfl,SqT.of ha,C4 (j:=0) rfl,rfl,_,rfl,M9 (fun hc=>?_) (fun _=>?_)⟩
   ·exact absurd (Zj_ hc) (by intro z; injection z with z; revert z; decide)
   refine ⟨_,rfl,a,_,_,_,rfl,rfl,SqT.of ha,C4 (j:=4) rfl,?_⟩
   refine ⟨_,rfl,a,_,_,_,rfl,rfl,SqT.of ha,C4 (j:=5) rfl,?_⟩
   refine ⟨_,rfl,_,rfl,tb,x,T,l,m,rfl,hT,R,m1,m7,lT1,lT,tl,by omega,wl,few,fun l1 ws1 H1 s1 hl1 hw1 Rw1 A1 g1=>?_⟩
   obtain ⟨xa,xx,rfl,hxa,exx⟩:=P9 tl
   rw [e1] at exx
   refine ⟨_,rfl,xa,_,_,_,rfl,rfl,SqT.of (s1 _ _ hxa),C4 (j:=1) exx,?_⟩
   refine ⟨_,rfl,_,rfl,tb,y,T,r,m,rfl,s1.seq hT,R.same s1,m1,m7,lT1,lT,tr.same s1,by omega,wr,few,fun l2 ws2 H2 s2 hl2 hw2 Rw2 A2 g2=>?_⟩
   obtain ⟨ya,yy,rfl,hya,eyy⟩:=P9 tr
   rw [e2] at eyy
   have s12:=s1.trans s2
   have k1:ws1.length<=250:=by
    have:=Gv hl wl few A1.nd fun k hk=>(g1 k).mp hk
    rw [Θl] at this
    exact this
   have k2:ws2.length<=250:=by
    have:=Gv hl wr few A2.nd fun k hk=>(g2 k).mp hk
    rw [Θl] at this
    exact this
   refine ⟨_,rfl,ya,_,_,_,rfl,rfl,SqT.of (s12 _ _ hya),C4 (j:=1) eyy,l1,l2,ws1,ws2,s0|||g,p - (p&&&g),m,rfl,SqL.of (s2 _ _ hw1),SqL.of hw2,Rw1.same s2,Rw2,m1,by omega,by omega,by omega,fun w1 w2 B1 B2=>?_,fun l3 w' w1 w2 H3 B1 B2 s3 hl3 hw3 Rw3 pr up=>?_⟩
   ·rw [<-e1] at B1
    rw [<-e2] at B2
    have c1:=Be hl wl g1 B1
    have c2:=Be hl wr g2 B2
    rw [meet]
    have:=Gv hl wf few (Adu hl m7 wf c1 c2 B1.nd B2.nd) fun k hk=>(Cm hl wf c1 c2 k).mp hk
    omega
   ·have lr1:∀r∈ws1,r.2.length=m:=fun r h=>(Rw1 r h).2
    have lr2:∀r∈ws2,r.2.length=m:=fun r h=>(Rw2 r h).2
    have A3:=Zm B1 B2 lr1 lr2 m7 (by omega) (by omega) pr up
    rw [<-e1] at B1
    rw [<-e2] at B2
    have c1:=Be hl wl g1 B1
    have c2:=Be hl wr g2 B2
    refine q l3 w' H3 (s12.trans s3) (s12.free hl3) hw3 Rw3 ⟨A3.up,A3.nd,fun k=>Iff.rfl⟩ fun k=>?_
    rw [A3.mem,meet]
    exact Cm hl wf c1 c2 k
end
end Own
namespace L2
open PySem PySem.Spec PyProof.Rows
section
variable {X:Cx}
end
section
variable {X:Cx} {body hb:List Stmt} {b₀:Stmt} {tb:(St->Hp->Prop)->(St->XK)->St->Hp->Prop} {th:TS} {cx:Str} {c:Value} {cp hp pos:Pos}
noncomputable def Ade (K:Θf) (c:Value) (tb:(St->Hp->Prop)->(St->XK)->St->Hp->Prop) (th:TS):TS:=fun D σ H=>
 tb D.nx (fun σ' cls _ H2=>∃C,cls = .ref C/\PySem.W.exmOne K (.ref C) c=some true/\∀ea,H2 ea=none->th { nx:=D.nx,rt:=fun _ _=>False } σ' (upd H2 ea (Adr ea C))) σ H
theorem Vp (hb':Adl X body tb) (hh:∀ea,PSs (X.within ea) (b₀ :: hb) th) (hg:Gl X cx) (hm:X.mg cx=some c) (hst:X.stack=X.env :: X.outer) (hfr:X.env.frame=some X.env.locals) (hdb:(cx == ("__debug__":Str))=false:=by decide) :
  PS X (.Try body [.ExceptHandler (some (.Name cx cp)) none (b₀ :: hb) hp] [] [] pos) (Ade X.K c tb th):=by
 intro pins s σ H D I h
 refine wpAny_Try_except (wpAny_mono (hb' pins s σ H _ _ I h) (fun f s1 q=>?_) fun e s1 q=>?_)
 ·obtain ⟨rfl,σ',H',I',q⟩:=q
  exact wpAny_execs_nil ⟨σ',H',I',q⟩
 ·obtain ⟨σ',H1,s2,I1,ea,C,B,H',rfl,F,C',ec,hex,q⟩:=q
  obtain rfl:C=C':=by injection ec
  obtain ⟨a0,fl⟩:=F.fly
  have hframes:X.A.frames=some (X.env :: X.outer):=by rw [<-hst]; exact I1.ok.frames
  have fl':=fl
  rw [hst] at fl'
  refine wpAny_looks_onW hframes hfr fl' fun h4 held sm4=>?_
  refine wpAny_landsW held fun h5 fl5 sm5=>?_
  rw [<-hst] at fl5
  have J5:=F.landed I1 fl5 (sm4.trans sm5)
  refine wpAny_handleBy_cons (codeAny_handlers_test ?_) (by intro q; cases q)
  refine Calls.Name_function_global J5.ok.kind hg (Calls.loadGlobal_global (by rw [J5.ok.glob]; exact J5.mod.glob.keeps J5.bk) hm ?_) hdb
  obtain ⟨ob,hob,hobc⟩:=fl5.there
  have LT:PySem.W.Looks (model X.prog X.w) h5 (typeOf (.ref ea)) (.ref C):=hobc ▸ (PySem.W.Looks.ld hob).andThen .now
  refine (PySem.W.exm_one J5.kIn LT hex).here ?_
  refine codeAny_handlers_suite ?_
  refine lands_againW fl5 fun h6 fl6 sm6=>?_
  have J6:=F.landed I1 fl6 ((sm4.trans sm5).trans sm6)
  refine wpAny_mono (hh ea pins _ σ' _ { nx:=D.nx,rt:=fun _ _=>False } (J6.inS ea) (q ea F.fresh)) (fun f s8 q8=>?_) fun _ _ z=>z.elim
  cases f with
  | next=>
   obtain ⟨σ2,H2,J8,q9⟩:=q8
   exact ⟨σ2,H2,J8.outS I.ok.hd,q9⟩
  | ret v=>obtain ⟨_,_,_,_,_,z⟩:=q8; exact z.elim
  | brk=>obtain ⟨_,_,_,z⟩:=q8; exact z.elim
  | cont=>obtain ⟨_,_,_,z⟩:=q8; exact z.elim
end
end L2
namespace Own
open PySem L2
section
variable {P:Program} {w:World} {K:Θf} {mg:Str->Option Value} {base:Heap}
seal PySem.wpAny
noncomputable abbrev Mq:Stmt:=top 47
theorem scTree3:FnScope ["_law_many","_law_rules_here","_law_tree_here"] ["_law_many","_law_rules_here"] (C3 Mq):=⟨rfl,rfl,rfl,by decide +kernel,rfl,by decide +kernel,by decide +kernel⟩
theorem Rn {f fCT CTM:Addr} {fd fdCT:FuncData} (F:Fun K "_law_tree" "_law_tree" Mq f fd) (mTM:mg "TooMany" = some (.ref CTM)) (xTM:PySem.W.exmOne K (.ref CTM) (.ref CTM)=some true) (GCT:FnOk P w K mg base (CX1 P w) 135 fCT fdCT ["many","rules"] (Fx K CTM)) (mCT:mg "cut_tree" = some (.ref fCT)) (kCT:Θk K fCT) (bCT:Binds K fdCT ["many","rules"] []) (zlist:mg "list" = none):FnOk P w K mg base CX0 136 f fd ["_law_many","_law_rules_here"] (Kr K):=by
 refine F.ok scTree3 (fun vs H Q E h=>?_) (fun cdv A outer s H vs Q E hr h=>?_)
 ·obtain ⟨m,rl,rs,rfl,_⟩:=h
  rfl
 ·obtain ⟨m,rl,rs,rfl,m7,hrl,hRs,lr,q0,q1⟩:=h
  have nd:=scTree3.nd
  have hrX:Room 135 _:=hr.mono (by decide)
  refine ⟨_,(A9 (D1 (i:=2) nd rfl (Or.inl rfl) N6)
   (A9 (Vp (Acp (i:=2) GCT hrX (by rfl) mCT kCT bCT (fun _=>(A0 (pv 0) (A0 (E5 (K7 (K:=K) rfl) (by rfl) zlist PyProof.Rows.boot_list (A0 (pv 1) A6)) A6))) nd rfl (Or.inl rfl)) (fun _=>C1 (D1 (i:=2) nd rfl (Or.inl rfl) N6)) (by rfl) mTM rfl rfl)
   (C1 (D0 (pv 2))))),?_⟩
  refine ⟨_,rfl,_,rfl,rl,_,rfl,.inl hrl,fun hp hhp=>?_⟩
  have sS:=Same.new (o:=.lst (rs.map fun (r:Rl)=>V.ref r.r)) hhp
  refine ⟨m,hp,rs,rfl,m7,SqL.of A8,hRs.same sS,lr,fun big H5 s5=>⟨CTM,rfl,xTM,fun ea hea=>?_⟩,fun few v H5 s5 tv=>?_⟩
  ·exact ⟨_,rfl,q0 _ ((sS.trans s5).trans (Same.new hea))⟩
  ·exact ⟨_,rfl,q1 v H5 (sS.trans s5) few tv⟩
noncomputable abbrev Mn:Stmt:=top 48
theorem scNodes:FnScope ["_law_tree_here","_law_waiting","_law_nodes_here","_law_node"] ["_law_tree_here"] (C3 Mn):=⟨rfl,rfl,rfl,by decide +kernel,rfl,by decide +kernel,by decide +kernel⟩
theorem Uy {f:Addr} {fd:FuncData} (F:Fun K "_law_nodes" "_law_nodes" Mn f fd) (zlen:mg "len" = none):FnOk P w K mg base CX0 1 f fd ["_law_tree_here"] (Pi K):=by
 refine F.ok scNodes (fun vs H Q E h=>?_) (fun cdv A outer s H vs Q E hr h=>?_)
 ·obtain ⟨v,t,rfl,_⟩:=h
  rfl
 ·obtain ⟨v,t,rfl,tv,h60,q⟩:=h
  have nd:=scNodes.nd
  refine ⟨_,(A9 (D1 (i:=1) nd rfl (Or.inl rfl) (G8 (A0 (pv 0) A6)))
   (A9 (D1 (i:=2) nd rfl (Or.inl rfl) (G8 A6))
   (A9 (Em PassesOwn.never (D8 Eh (F2 (G0 (K:=K) rfl) (by rfl) zlen PySem.boot_len (A0 (pv 1) A6)) B0 (D9 _)) (A9 (D1 (i:=3) nd rfl (Or.inl rfl) (Vh PySem.F.plainAttrs_list PySem.F.slot_list_pop PySem.F.type_list_pop Ab0 (pv 1)))
   (A9 (Q4 (Ah PySem.F.plainAttrs_list PySem.F.slot_list_append PySem.F.type_list_append N2 (pv 2) (A0 (pv 3) A6)))
   (C1 (F8 (D8 op_eq (D7 (D2 (K:=K) rfl) (pv 3) B0 (fun _ _=>rfl)) U6 (D9 _)) (C1 (D1 (i:=1) nd rfl (Or.inl rfl) (D6 X4 (pv 1) (G8 (A0 (D7 (D2 (K:=K) rfl) (pv 3) B0 (fun _ _=>rfl)) (A0 (D7 (D2 (K:=K) rfl) (pv 3) B0 (fun _ _=>rfl)) A6)))))) E1)))))
   (C1 (D0 (pv 2)))))),?_⟩
  refine ⟨_,rfl,(by show 1<=sizeLine; decide),fun w0 hw0=>?_⟩
  have s0:=Same.new (o:=.lst [v]) hw0
  refine ⟨Zp_ _,fun ep hep=>?_⟩
  have s1:=Same.new (o:=.lst []) hep
  have hepH:=s0.none hep
  have hw1:=s1 _ _ (show (upd H w0 (.lst [v])) w0=some (.lst [v]) from A8)
  have nwe:w0≠ep:=C7 (show (upd H w0 (.lst [v])) w0=some (.lst [v]) from A8) hep
  refine ⟨fun n σ H'=>∃(wp:Addr) (ts es:List Tr) (us vs:List V) (v3:Option V),σ=[some v,some (.ref wp),some (.ref ep),v3]/\n=W4 ts/\es.length + W4 ts<=60/\Same H H'/\H wp=none/\wp≠ep/\H' wp=some (.lst us)/\TreesV H' ts us/\H' ep=some (.lst vs)/\TreesV H' es vs/\(∀t'∈ts,t'∈t.subs)/\(∀t'∈es,t'∈t.subs)/\(es=[]/\ts=[t]\/es[0]? = some t),
   ⟨_,w0,[t],[],[v],[],none,rfl,rfl,by unfold W4; simpa using h60,s0.trans s1,hw0,nwe,hw1,.cons ((tv.same s0).same s1) .nil,A8,.nil,(fun t' h=>by rw [Θs h]; exact t.self),(fun t' h=>absurd h List.not_mem_nil),.inl ⟨rfl,rfl⟩⟩,?_⟩
  rintro n _ H1 ⟨wp,ts,es,us,vs,v3,rfl,en,c60,s2,hw,nw,hw2,hts,he2,hes,st,se,fst⟩
  refine ⟨_,rfl,wp,_,rfl,.inl (SqL.of hw2),us.length,0,rfl,rfl,_,rfl,M9 (fun h0=>?_) (fun h0=>?_)⟩
  rotate_left
  ·have lu:us=[]:=by
    cases us with
    | nil=>rfl
    | cons x l=>exact absurd (decide_eq_true (by simp)) h0
   subst lu
   cases hts
   refine ⟨_,rfl,q ep es vs _ s2 hepH he2 hes ?_ se (by omega)⟩
   rcases fst with ⟨_,z⟩ | z
   ·cases z
   ·exact z
  have l0:0 < us.length:=Zj_ h0
  obtain ⟨us',u,rfl⟩:∃us' u,us=us'++[u]:=⟨us.dropLast,us.getLast (by intro z; rw [z] at l0; exact absurd l0 (by decide)),(List.dropLast_concat_getLast _).symm⟩
  obtain ⟨ts',t1,rfl,hts',ht1⟩:=hts.snoc
  have cpos:=t1.cnt_pos
  have ec:W4 (ts'++[t1])=W4 ts' + t1.cnt:=by rw [Je]; unfold W4; simp
  have lts:=hts'.len
  have lc:=Jf ts'
  have les:=hes.len
  have t1s:=st t1 (Zh_ _ (List.mem_singleton.mpr rfl))
  have fst':(es++[t1])[0]? = some t:=by
   rcases fst with ⟨z1,z2⟩ | z
   ·rw [z1]
    cases ts' with
    | nil=>exact congrArg some (List.cons.inj z2).1
    | cons a l=>
     have:=congrArg List.length z2
     simp at this
   ·cases es with
    | nil=>cases z
    | cons a l=>exact z
  refine ⟨_,fun _ _ h=>h,?_⟩
  refine ⟨_,rfl,.inl ⟨rfl,_,SqL.of hw2⟩,wp,_,u,rfl,rfl,hw2,(by simp),?_⟩
  rw [List.dropLast_concat]
  have s3:Same H (upd H1 wp (.lst us')):=s2.own hw
  have hw3:(upd H1 wp (.lst us')) wp=some (.lst us'):=A8
  have he3:(upd H1 wp (.lst us')) ep=some (.lst vs):=by rw [C9 nw.symm]; exact he2
  have hts3:=hts'.put (o:=.lst us') hw2
  have ht3:=ht1.put (o:=.lst us') hw2
  have hes3:=hes.put (o:=.lst us') hw2
  generalize upd H1 wp (.lst us')=H3 at s3 hw3 he3 hts3 ht3 hes3
  refine ⟨_,rfl,.inl ⟨rfl,_,SqL.of he3⟩,_,rfl,ep,_,_,rfl,rfl,he3,E2 (by omega),?_⟩
  have hts4:=hts3.put (o:=.lst (vs++[u])) he3
  have hes4:=(hes3.put (o:=.lst (vs++[u])) he3).app (.cons (ht3.put (o:=.lst (vs++[u])) he3) .nil)
  have ht4:=ht3.put (o:=.lst (vs++[u])) he3
  have s4:Same H (upd H3 ep (.lst (vs++[u]))):=s3.own hepH
  have hw4:(upd H3 ep (.lst (vs++[u]))) wp=some (.lst us'):=by rw [C9 nw]; exact hw3
  have he4:(upd H3 ep (.lst (vs++[u]))) ep=some (.lst (vs++[u])):=A8
  have se':∀t'∈es++[t1],t'∈t.subs:=fun t' h=>by
   rcases Θa h with h | h
   ·exact se t' h
   ·rw [Θs h]; exact t1s
  have st':∀t'∈ts',t'∈t.subs:=fun t' h=>st t' (Zt_ _ h)
  generalize upd H3 ep (.lst (vs++[u]))=H4 at hts4 hes4 ht4 s4 hw4 he4
  cases t1 with
  | whole p=>
   have ht5:=ht4
   obtain ⟨a,rfl,ha⟩:=ht5
   refine ⟨_,rfl,a,_,_,_,rfl,rfl,SqT.of ha,C4 (j:=0) rfl,rfl,_,rfl,M9 (fun hc=>?_) (fun _=>?_)⟩
   ·exact absurd (Zj_ hc) (by intro z; injection z with z; revert z; decide)
   refine ⟨W4 ts',by rw [en,ec]; show _ < _ + 1; omega,wp,ts',es++[.whole p],us',_,_,rfl,rfl,by rw [Zv_]; show es.length + 1 + _<=60; have:(Tr.whole p).cnt=1:=rfl; omega,s4,hw,nw,hw4,hts4,he4,hes4,st',se',.inr fst'⟩
  | cut p s1 g l r=>
   have ht5:=ht4
   obtain ⟨a,x,y,rfl,ha,hl,hr'⟩:=ht5
   refine ⟨_,rfl,a,_,_,_,rfl,rfl,SqT.of ha,C4 (j:=0) rfl,rfl,_,rfl,Y1 ?_⟩
   have ecut:(Tr.cut p s1 g l r).cnt=1 + l.cnt + r.cnt:=rfl
   refine ⟨_,rfl,_,rfl,a,_,_,_,rfl,rfl,SqT.of ha,C4 (j:=5) rfl,_,rfl,a,_,_,_,rfl,rfl,SqT.of ha,C4 (j:=4) rfl,(by show 2<=sizeLine; decide),fun l4 hl4=>?_⟩
   have s5:=Same.new (o:=.lst [y,x]) hl4
   have hl4':(upd H4 l4 (.lst [y,x])) l4=some (.lst [y,x]):=A8
   have hw5:=s5 _ _ hw4
   have he5:=s5 _ _ he4
   have hts5:=hts4.same s5
   have hes5:=hes4.same s5
   have hl5:=hl.same s5
   have hr5:=hr'.same s5
   have s45:=s4.trans s5
   generalize upd H4 l4 (.lst [y,x])=H5 at hl4' hw5 he5 hts5 hes5 hl5 hr5 s45
   refine ⟨wp,l4,us',[y,x],rfl,rfl,hw5,hl4',Nat.le_of_lt (E2 (by show _ + 2<=1000; omega)),fun w5 hw6=>?_⟩
   have s6:=Same.new (o:=.lst (us'++[y,x])) hw6
   have ne5:w5≠ep:=(C7 he5 hw6).symm
   have c2:W4 (ts'++[r,l])=W4 ts' + (r.cnt + l.cnt):=by rw [Je]; unfold W4; simp
   refine ⟨W4 (ts'++[r,l]),by rw [en,ec,c2]; omega,w5,ts'++[r,l],es++[.cut p s1 g l r],us'++[y,x],_,_,rfl,rfl,by rw [Zv_,c2]; show es.length + 1 + _<=60; omega,s45.trans s6,s45.none hw6,ne5,A8,(hts5.same s6).app (.cons (hr5.same s6) (.cons (hl5.same s6) .nil)),s6 _ _ he5,hes5.same s6,fun t' h=>?_,se',.inr fst'⟩
   rcases Θa h with h | h
   ·exact st' t' h
   ·refine Mv t1s ?_
    show t'∈_ :: (l.subs++r.subs)
    rcases Zg_.mp h with rfl | h
    ·exact Θd _ (Zh_ _ t'.self)
    ·rw [Θs h]
     exact Θd _ (Zt_ _ l.self)
end
end Own
namespace Own
open PySem L2
section
variable {P:Program} {w:World} {K:Θf} {mg:Str->Option Value} {base:Heap}
seal PySem.wpAny
noncomputable abbrev Ib:Stmt:=top 52
theorem scJoin63:FnScope ["_law_one","_law_part","_law_other","_law_both","_law_met","_law_first","_law_second"] ["_law_one","_law_part","_law_other","_law_both"] (C3 Ib):=⟨rfl,rfl,rfl,by decide +kernel,rfl,by decide +kernel,by decide +kernel⟩
theorem Rh {f fAG fMX:Addr} {fd fdAG fdMX:FuncData} (F:Fun K "_law_joined" "_law_joined" Ib f fd) (GAG:FnOk P w K mg base CX0 2 fAG fdAG ["_law_one","_law_other","_law_some"] (Pc K)) (mAG:mg "_law_agree" = some (.ref fAG)) (kAG:Θk K fAG) (bAG:Binds K fdAG ["_law_one","_law_other","_law_some"] []) (GMX:FnOk P w K mg base CX0 2 fMX fdMX ["_law_one","_law_other","_law_some"] (X6 K)) (mMX:mg "_law_mix" = some (.ref fMX)) (kMX:Θk K fMX) (bMX:Binds K fdMX ["_law_one","_law_other","_law_some"] []) (zsorted:mg "sorted" = none):FnOk P w K mg base CX0 3 f fd ["_law_one","_law_part","_law_other","_law_both"] (Kn K):=by
 refine F.ok scJoin63 (fun vs H Q E h=>?_) (fun cdv A outer s H vs Q E hr h=>?_)
 ·obtain ⟨a1,a2,w1,w2,x,z,m,rfl,_⟩:=h
  rfl
 ·obtain ⟨a1,a2,w1,w2,x,z,m,rfl,ha1,ha2,R1,R2,m1,m7,bnd,q⟩:=h
  have nd:=scJoin63.nd
  have hr2:Room 2 _:=hr.mono (by decide)
  have jm:=Lq (z:=z) (x:=x) (fun a h=>(R1 a h).2) (fun b h=>(R2 b h).2)
  refine ⟨_,(A9 (D1 (i:=4) nd rfl (Or.inl rfl) Ej)
   (A9 (I8 PassesOwn.never rfl (E7 (K:=K) rfl (pv 0)) (D5 (i:=5) nd rfl (Or.inl rfl)) (C1 (I8 PassesOwn.never rfl (E7 (K:=K) rfl (pv 2)) (D5 (i:=6) nd rfl (Or.inl rfl)) (C1 (F8 (V2 (C2 GAG hr2 rfl mAG kAG bAG .nil C8 (A0 (pv 5) (A0 (pv 6) (A0 (pv 3) A6))))) (C1 (Oq (Jp hr) (pv 4) (C2 GMX hr2 rfl mMX kMX bMX .nil C8 (A0 (pv 5) (A0 (pv 6) (A0 (pv 1) A6)))) X8 rfl)) E1)))))
   (C1 (D0 (F2 (Aw rfl) (by rfl) zsorted PyProof.Rows.boot_sorted (A0 (pv 4) A6)))))),?_⟩
  intro d hd
  have s1:=Same.new (o:=.dT []) hd
  refine ⟨_,rfl,a1,rfl,⟨_,s1.seq ha1⟩,I9 (xs:=C0 w1) (fun i σ H2=>(∃v3 v4,σ=[some (.ref a1),some (vN x),some (.ref a2),some (vN z),some (.ref d),v3,v4])/\Same H H2/\∃kvs ks,H2 d=some (.dT kvs)/\kvs.map (·.1)=ks.map tks/\ks.Nodup/\(∀k,k∈ks↔∃a∈w1.take i,∃b∈w2,P5 a.2 b.2 z=true/\k=K6 a.2 b.2 x))
   ⟨⟨none,none,rfl⟩,s1,[],[],A8,rfl,List.nodup_nil,fun k=>⟨(fun h=>by cases h),fun ⟨a,h,_⟩=>by cases h⟩⟩ (fun i σ H2 _ h=>h.2.1.seq ha1) ?_ ?_⟩
  ·rintro i v σ H2 hv ⟨⟨v3,v4,rfl⟩,s2,kvs,ks,hd2,ek,nk,mk⟩
   unfold C0 at hv
   rw [Θg] at hv
   cases er:w1[i]? with
   | none=>rw [er] at hv; cases hv
   | some a=>
    rw [er] at hv
    obtain rfl:=(Θo hv).symm
    have am:=Θe er
    refine ⟨_,rfl,a2,rfl,⟨_,s2.seq ha2⟩,I9 (xs:=C0 w2) (fun j σ H3=>(∃v4,σ=[some (.ref a1),some (vN x),some (.ref a2),some (vN z),some (.ref d),some (.ref a.1),v4])/\Same H H3/\∃kvs ks,H3 d=some (.dT kvs)/\kvs.map (·.1)=ks.map tks/\ks.Nodup/\(∀k,k∈ks↔(∃a∈w1.take i,∃b∈w2,P5 a.2 b.2 z=true/\k=K6 a.2 b.2 x)\/∃b∈w2.take j,P5 a.2 b.2 z=true/\k=K6 a.2 b.2 x))
     ⟨⟨_,rfl⟩,s2,kvs,ks,hd2,ek,nk,fun k=>by rw [mk k]; exact ⟨.inl,fun h=>h.elim id fun ⟨b,hb,_⟩=>by cases hb⟩⟩ (fun j σ H3 _ h=>h.2.1.seq ha2) ?_ ?_⟩
    ·rintro j v σ H3 hv ⟨⟨v4',rfl⟩,s3,kvs3,ks3,hd3,ek3,nk3,mk3⟩
     unfold C0 at hv
     rw [Θg] at hv
     cases eb:w2[j]? with
     | none=>rw [eb] at hv; cases hv
     | some b=>
      rw [eb] at hv
      obtain rfl:=(Θo hv).symm
      have bm:=Θe eb
      have la:=(R1 a am).2
      have lb:=(R2 b bm).2
      have l256:kvs3.length<=250:=by
       have:=bnd ks3 nk3 (fun k hk=>(jm k).mpr (by
        rcases (mk3 k).mp hk with ⟨a',h1,h2⟩ | ⟨b',h1,h2⟩
        ·exact ⟨a',List.mem_of_mem_take h1,h2⟩
        ·exact ⟨a,am,b',List.mem_of_mem_take h1,h2⟩))
       have h3:=congrArg List.length ek3
       rw [Θl,Θl] at h3
       omega
      refine ⟨_,rfl,_,rfl,_,rfl,a.1,b.1,a.2,b.2,z,rfl,SqT.of (s3 _ _ (R1 a am).1),SqT.of (s3 _ _ (R2 b bm).1),by omega,by omega,fun H4 s4=>⟨_,rfl,?_⟩⟩
      have s4':=s3.trans s4
      have tk:∀k,(∃b'∈w2.take (j + 1),P5 a.2 b'.2 z=true/\k=K6 a.2 b'.2 x)↔(∃b'∈w2.take j,P5 a.2 b'.2 z=true/\k=K6 a.2 b'.2 x)\/(P5 a.2 b.2 z=true/\k=K6 a.2 b.2 x):=fun k=>by
       rw [List.take_succ,eb]
       constructor
       ·rintro ⟨b',hb',e⟩
        rcases Θa hb' with h | h
        ·exact .inl ⟨b',h,e⟩
        ·rw [show b' = b by simpa using h] at e
         exact .inr e
       ·rintro (⟨b',hb',e⟩ | e)
        ·exact ⟨b',Zt_ _ hb',e⟩
        ·exact ⟨b,by simp,e⟩
      refine M9 (fun hc=>?_) (fun hc=>?_)
      ·refine ⟨_,rfl,_,rfl,_,rfl,_,rfl,a.1,b.1,a.2,b.2,x,rfl,SqT.of (s4' _ _ (R1 a am).1),SqT.of (s4' _ _ (R2 b bm).1),by omega,by omega,fun p H5 s5 hp hp5=>?_⟩
       have hd5:=s5 _ _ (s4 _ _ hd3)
       refine ⟨d,_,rfl,DPut.t (k:=tks (K6 a.2 b.2 x)) hd5 (by rw [Ap]; exact hp5) (E2 (by omega)),?_⟩
       obtain ⟨ks',e1,n1,m1'⟩:=Fv (k:=K6 a.2 b.2 x) (v:=V.bl true) ek3 nk3
       refine ⟨⟨_,rfl⟩,fun c o e=>?_,_,ks',A8,e1,n1,fun k=>?_⟩
       ·rw [C9 (C7 e hd)]
        exact s5 _ _ (s4' c o e)
       ·rw [m1' k,mk3 k,tk k,or_assoc]
        simp [hc]
      ·refine ⟨⟨_,rfl⟩,s4',kvs3,ks3,s4 _ _ hd3,ek3,nk3,fun k=>?_⟩
       rw [mk3 k,tk k]
       simp [hc]
    ·rintro σ H3 ⟨⟨v4',rfl⟩,s3,kvs3,ks3,hd3,ek3,nk3,mk3⟩
     have lrf:(C0 w2).length=w2.length:=Θl ..
     rw [lrf,List.take_length] at mk3
     refine ⟨⟨_,_,rfl⟩,s3,kvs3,ks3,hd3,ek3,nk3,fun k=>?_⟩
     rw [mk3 k,List.take_succ,er]
     constructor
     ·rintro (⟨a',h1,h2⟩ | h2)
      ·exact ⟨a',Zt_ _ h1,h2⟩
      ·exact ⟨a,by simp,h2⟩
     ·rintro ⟨a',h1,h2⟩
      rcases Θa h1 with h | h
      ·exact .inl ⟨a',h,h2⟩
      ·rw [show a' = a by simpa using h] at h2
       exact .inr h2
  ·rintro σ H2 ⟨⟨v3,v4,rfl⟩,s2,kvs,ks,hd2,ek,nk,mk⟩
   have lrf:(C0 w1).length=w1.length:=Θl ..
   rw [lrf,List.take_length] at mk
   have mk':∀k,k∈ks↔k∈T0 w1 w2 z x:=fun k=>(mk k).trans (jm k).symm
   have lk:=bnd ks nk (fun k hk=>(mk' k).mp hk)
   refine ⟨_,rfl,d,m,kvs,ks,rfl,hd2,ek,fun r hr0=>?_,m1,by omega,fun l w' hl R' pr up=>?_⟩
   ·obtain ⟨a,ha,b,hb,_,rfl⟩:=(mk r).mp hr0
    exact (O4 _ _ _).trans (R1 a ha).2
   ·have s4:=Same.new (o:=.lst (C0 w')) hl
    exact q l w' _ (s2.trans s4) (s2.free hl) A8 (R'.same s4) (Asc.of up (pr.nodup_iff.mpr nk) fun k=>(pr.mem_iff).trans (mk' k))
noncomputable abbrev sUp:Stmt:=top 53
theorem scUp:FnScope ["_law_rows","_law_node","_law_noughts","_law_met","_law_row","_law_word","_law_part","_law_some","_law_off","_law_one","_law_other"] ["_law_rows","_law_node"] (C3 sUp):=⟨rfl,rfl,rfl,by decide +kernel,rfl,by decide +kernel,by decide +kernel⟩
theorem Aa1 {f fMX fJN:Addr} {fd fdMX fdJN:FuncData} (F:Fun K "_law_up" "_law_up" sUp f fd) (GMX:FnOk P w K mg base CX0 2 fMX fdMX ["_law_one","_law_other","_law_some"] (X6 K)) (mMX:mg "_law_mix" = some (.ref fMX)) (kMX:Θk K fMX) (bMX:Binds K fdMX ["_law_one","_law_other","_law_some"] []) (GJN:FnOk P w K mg base CX0 3 fJN fdJN ["_law_one","_law_part","_law_other","_law_both"] (Kn K)) (mJN:mg "_law_joined" = some (.ref fJN)) (kJN:Θk K fJN) (bJN:Binds K fdJN ["_law_one","_law_part","_law_other","_law_both"] []) (mUP:mg "_law_up" = some (.ref f)) (kUP:Θk K f) (bUP:Binds K fd ["_law_rows","_law_node"] []) (ztuple:mg "tuple" = none) (zsorted:mg "sorted" = none):∀n:Nat,FnOk P w K mg base CX0 (n + 4) f fd ["_law_rows","_law_node"] (Bn K n)
 | 0=>by
  refine F.ok (k:=3) scUp (fun vs H Q E h=>?_) (fun cdv A outer s H vs Q E hr h=>?_)
  ·obtain ⟨tb,v,T,t,m,rfl,_⟩:=h
   rfl
  ·obtain ⟨tb,v,T,t,m,rfl,_,_,_,_,_,_,_,hn,_⟩:=h
   exact absurd hn (Nat.not_lt_zero _)
 | n + 1=>by
  have GUP:=Aa1 F GMX mMX kMX bMX GJN mJN kJN bJN mUP kUP bUP ztuple zsorted n
  refine F.ok (k:=n + 4) scUp (fun vs H Q E h=>?_) (fun cdv A outer s H vs Q E hr h=>?_)
  ·obtain ⟨tb,v,T,t,m,rfl,_⟩:=h
   rfl
  obtain ⟨tb,v,T,t,m,rfl,hT,R,m1,m7,lT1,lT,tv,hn,wf,few,q⟩:=h
  have nd:=scUp.nd
  have hr2:Room 2 _:=hr.mono (by omega)
  have hr3:Room 3 _:=hr.mono (by omega)
  have p7:=El m7
  have hl:∀r∈T.map (·.2),r.length=m:=fun r h=>by
   obtain ⟨r',h1,rfl⟩:=Θn h
   exact (R r' h1).2
  obtain ⟨t0,e0⟩:∃t,T[0]? = some t:=⟨_,Θh (show 0 < T.length by omega)⟩
  obtain ⟨h0,l0⟩:=R t0 (Θe e0)
  have l0m:(t0.2.map V.int).length=m:=by rw [Θl,l0]
  have lrw:(C0 T).length=T.length:=Θl ..
  refine ⟨_,(A9 (F8 (D8 op_eq (D7 (D2 (K:=K) rfl) (pv 1) B0 (fun _ _=>rfl)) U6 (D9 _)) (A9 (D1 (i:=2) nd rfl (Or.inl rfl) (E5 (Q6 (K:=K) rfl) (by rfl) ztuple PyProof.Rows.boot_tuple (A0 (M1 (xs:=["_law_number"]) (cs ["_law_rows","_law_node","_law_noughts","_law_met","_law_row","_law_word","_law_part","_law_some","_law_off","_law_one","_law_other"] (C3 sUp) rfl rfl (by decide +kernel)) rfl (Zl (K:=K) rfl (D7 (E4 (K:=K) rfl) (pv 0) B0 (fun _ _=>rfl))) (fun _ _ _=>D5 (i:=0) (show (["_law_number","_law_rows","_law_node","_law_noughts","_law_met","_law_row","_law_word","_law_part","_law_some","_law_off","_law_one","_law_other"]:List Str).Nodup by decide +kernel) rfl (Or.inl rfl)) (fun _ _ _=>N3) (fun _ _ _=>B0)) A6)))
   (A9 (D1 (i:=3) nd rfl (Or.inl rfl) Ej)
   (A9 (I8 PassesOwn.never rfl (E7 (K:=K) rfl (pv 0)) (D5 (i:=4) nd rfl (Or.inl rfl)) (C1 (Oq (Jp hr) (pv 3) (C2 GMX hr2 rfl mMX kMX bMX .nil C8 (A0 (pv 4) (A0 (pv 2) (A0 (D7 (D2 (K:=K) rfl) (pv 1) B0 (fun _ _=>rfl)) A6)))) X8 rfl)))
   (C1 (D0 (F2 (Aw rfl) (by rfl) zsorted PyProof.Rows.boot_sorted (A0 (pv 3) A6))))))) E1)
   (A9 (Hm (pv 1) (Zj (K:=K) (n:=6) rfl rfl (M3 (D5 (i:=5) nd rfl (Or.inl rfl)) (M3 (D5 (i:=6) nd rfl (Or.inl rfl)) (M3 (D5 (i:=7) nd rfl (Or.inl rfl)) (M3 (D5 (i:=8) nd rfl (Or.inl rfl)) (M3 (D5 (i:=9) nd rfl (Or.inl rfl)) (M3 (D5 (i:=10) nd rfl (Or.inl rfl)) Cu)))))) rfl rfl))
   (C1 (D0 (C2 GJN hr3 rfl mJN kJN bJN .nil C8 (A0 (C2 GUP hr rfl mUP kUP bUP .nil C8 (A0 (pv 0) (A0 (pv 9) A6))) (A0 (D6 Bw (pv 7) (pv 8)) (A0 (C2 GUP hr rfl mUP kUP bUP .nil C8 (A0 (pv 0) (A0 (pv 10) A6))) (A0 (pv 7) A6))))))))),?_⟩
  cases t with
  | whole p=>
   obtain ⟨a,rfl,ha⟩:=tv
   refine ⟨_,rfl,a,_,_,_,rfl,rfl,SqT.of ha,C4 (j:=0) rfl,rfl,_,rfl,Y1 ?_⟩
   refine ⟨_,rfl,tb,_,_,_,rfl,rfl,hT,C4 (j:=0) (v:=V.ref t0.1) (by unfold C0; rw [Θg,e0]; rfl),t0.1,rfl,⟨_,SqT.of h0⟩,Aby (K:=K) (xs:=t0.2.map V.int) (fun j acc H2=>H2=H/\acc=(List.replicate j (0:Int)).map V.int) (by omega) ⟨rfl,rfl⟩ (fun j acc H2 hj h=>?_) (fun j v acc H2 hv h=>?_) (fun acc H2 h=>?_)⟩
   ·obtain ⟨rfl,rfl⟩:=h
    exact ⟨SqT.of h0,by rw [Θl,List.length_replicate]; exact Zd_ _⟩
   ·obtain ⟨rfl,rfl⟩:=h
    refine ⟨rfl,rfl,?_⟩
    rw [List.replicate_succ',Zw_]
    rfl
   obtain ⟨rfl,rfl⟩:=h
   rw [l0m]
   intro zl hzl
   refine ⟨zl,_,rfl,.inl ⟨SqL.of A8,fun zt hzt=>?_⟩⟩
   have s1:=(Same.new (o:=.lst ((List.replicate m (0:Int)).map V.int)) hzl).trans (Same.new (o:=.tup ((List.replicate m (0:Int)).map V.int)) hzt)
   have ht1:(upd (upd H2 zl (.lst ((List.replicate m (0:Int)).map V.int))) zt (.tup ((List.replicate m (0:Int)).map V.int))) zt=some (.tup ((List.replicate m (0:Int)).map V.int)):=A8
   generalize upd (upd H2 zl (.lst ((List.replicate m (0:Int)).map V.int))) zt (.tup ((List.replicate m (0:Int)).map V.int))=H1 at s1 ht1
   intro d hd
   have s2:=Same.new (o:=.dT []) hd
   have hdH:H2 d=none:=s1.free hd
   refine ⟨_,rfl,tb,rfl,⟨_,(s1.trans s2).seq hT⟩,I9 (xs:=C0 T) (fun i σ H3=>(∃v4,σ=[some (.ref tb),some (.ref a),some (.ref zt),some (.ref d),v4,none,none,none,none,none,none])/\Same H2 H3/\H3 zt=some (.tup ((List.replicate m (0:Int)).map V.int))/\∃kvs ks,H3 d=some (.dT kvs)/\kvs.map (·.1)=ks.map tks/\ks.Nodup/\(∀k,k∈ks↔k∈(T.take i).map fun r=>C6 r.2 p))
    ⟨⟨none,rfl⟩,s1.trans s2,s2 _ _ ht1,[],[],A8,rfl,List.nodup_nil,fun k=>Iff.rfl⟩ (fun i σ H3 _ h=>h.2.1.seq hT) ?_ ?_⟩
   ·rintro i v σ H3 hv ⟨⟨v5,rfl⟩,s',ht2,kvs,ks,hd2,ek,nk,mk⟩
    unfold C0 at hv
    rw [Θg] at hv
    cases er:T[i]? with
    | none=>rw [er] at hv; cases hv
    | some rw0=>
     rw [er] at hv
     obtain rfl:=(Θo hv).symm
     obtain ⟨hrow,hrl⟩:=R rw0 (Θe er)
     have hi:=(Ze_.mp er).1
     have lk:kvs.length<=900:=by
      have h1:=congrArg List.length ek
      have h2:=Ee nk fun k hk=>(mk k).mp hk
      rw [Θl,Θl] at h1
      rw [Θl,ZB] at h2
      omega
     have ha2:=s' _ _ ha
     refine ⟨_,rfl,_,rfl,_,rfl,_,rfl,a,_,_,_,rfl,rfl,SqT.of ha2,C4 (j:=1) rfl,rw0.1,zt,rw0.2,List.replicate m 0,p,rfl,SqT.of (s' _ _ hrow),SqT.of ht2,by rw [List.length_replicate]; exact hrl,by omega,fun pp H4 s3 hp hp3=>?_⟩
     have es:K6 rw0.2 (List.replicate m 0) p=C6 rw0.2 p:=by
      unfold C6
      rw [hrl]
     rw [es] at hp3
     have hd3:=s3 _ _ hd2
     refine ⟨d,_,rfl,DPut.t (k:=tks (C6 rw0.2 p)) hd3 (by rw [Ap]; exact hp3) (E2 (by omega)),?_⟩
     obtain ⟨ks',e1,n1,m1'⟩:=Fv (k:=C6 rw0.2 p) (v:=V.bl true) ek nk
     refine ⟨⟨_,rfl⟩,fun b o e=>?_,?_,_,ks',A8,e1,n1,fun k=>?_⟩
     ·rw [C9 (C7 e hdH)]
      exact s3 _ _ (s' b o e)
     ·rw [C9 (P4 (s3 _ _ ht2) hd3 (fun z=>nomatch z))]
      exact s3 _ _ ht2
     ·rw [m1' k,mk k,List.take_succ,er,Zw_,List.mem_append]
      simp
   ·rintro σ H3 ⟨⟨v5,rfl⟩,s',ht2,kvs,ks,hd2,ek,nk,mk⟩
    rw [lrw,List.take_length] at mk
    have lk:ks.length<=T.length:=by
     have:=Ee nk fun k hk=>(mk k).mp hk
     rw [Θl] at this
     exact this
    refine ⟨_,rfl,d,m,kvs,ks,rfl,hd2,ek,fun r hr0=>?_,m1,by omega,fun l w' hl R' pr up=>?_⟩
    ·obtain ⟨r0,h0,rfl⟩:=Θn ((mk r).mp hr0)
     exact (E8 _ _).trans (R r0 h0).2
    ·have s4:=Same.new (o:=.lst (C0 w')) hl
     refine q l w' _ (s'.trans s4) (s'.free hl) A8 (R'.same s4) (Asc.of up (pr.nodup_iff.mpr nk) fun k=>Iff.rfl) fun k=>?_
     rw [pr.mem_iff,mk]
     show _↔∃r∈T.map (·.2),k=C6 r p
     constructor
     ·intro h
      obtain ⟨r,hr0,rfl⟩:=Θn h
      exact ⟨r.2,Θm ⟨r,hr0,rfl⟩,rfl⟩
     ·rintro ⟨r',hr0,rfl⟩
      obtain ⟨r,hr1,rfl⟩:=Θn hr0
      exact Θm ⟨r,hr1,rfl⟩
  | cut p s0 g l r=>
   obtain ⟨a,x,y,rfl,ha,tl,tr⟩:=tv
   have hd:max l.dep r.dep + 1 < n + 1:=hn
   have wf0:=wf
   obtain ⟨⟨hp0,hp1,hp2⟩,⟨e1,e2⟩,⟨meet,all⟩,wl,wr⟩:=wf0
   refine ⟨_,rfl,a,_,_,_,rfl,rfl,SqT.of ha,C4 (j:=0) rfl,rfl,_,rfl,M9 (fun hc=>?_) (fun _=>?_)⟩
   ·exact absurd (Zj_ hc) (by intro z; injection z with z; revert z; decide)
   refine ⟨_,rfl,a,_,rfl,SqT.of ha,rfl,_,_,rfl,_,_,rfl,_,_,rfl,_,_,rfl,_,_,rfl,_,_,rfl,rfl,?_⟩
   refine ⟨_,rfl,_,rfl,tb,x,T,l,m,rfl,hT,R,m1,m7,lT1,lT,tl,by omega,wl,few,fun l1 ws1 H1 s1 hl1 hw1 Rw1 A1 g1=>?_⟩
   refine ⟨_,rfl,_,rfl,s0,g,rfl,rfl,_,rfl,_,rfl,tb,y,T,r,m,rfl,s1.seq hT,R.same s1,m1,m7,lT1,lT,tr.same s1,by omega,wr,few,fun l2 ws2 H2 s2 hl2 hw2 Rw2 A2 g2=>?_⟩
   have s12:=s1.trans s2
   refine ⟨_,rfl,l1,l2,ws1,ws2,s0|||g,s0,m,rfl,SqL.of (s2 _ _ hw1),SqL.of hw2,Rw1.same s2,Rw2,m1,m7,(fun ks nk sub=>Gv hl wf few nk fun k hk=>(Cm hl wf g1 g2 k).mp (sub k hk)),fun l3 w' H3 s3 hl3 hw3 Rw3 A3=>?_⟩
   refine q l3 w' H3 (s12.trans s3) (s12.free hl3) hw3 Rw3 ⟨A3.up,A3.nd,fun k=>Iff.rfl⟩ fun k=>?_
   rw [A3.mem]
   exact Cm hl wf g1 g2 k
end
end Own
namespace Own
open PySem L2
section
variable {P:Program} {w:World} {K:Θf} {mg:Str->Option Value} {base:Heap}
seal PySem.wpAny
noncomputable abbrev Mm:Stmt:=top 49
theorem scKept3:FnScope ["_law_rows","_law_some","_law_handed","_law_node","_law_due","_law_found"] ["_law_rows","_law_some"] (C3 Mm):=⟨rfl,rfl,rfl,by decide +kernel,rfl,by decide +kernel,by decide +kernel⟩
theorem Ri {f fO fGR:Addr} {fd fdO fdGR:FuncData} (F:Fun K "_law_kept" "_law_kept" Mm f fd) (GO:FnOk P w K mg base CX0 4 fO fdO ["book","part"] (Z7 K)) (mO:mg "seen_on" = some (.ref fO)) (kO:Θk K fO) (bO:Binds K fdO ["book","part"] []) (GGR:FnOk P w K mg base CX0 134 fGR fdGR ["book","tree"] (Bn K 128)) (mGR:mg "grown" = some (.ref fGR)) (kGR:Θk K fGR) (bGR:Binds K fdGR ["book","tree"] []) (zlist:mg "list" = none) (zisinstance:mg "isinstance" = none):FnOk P w K mg base CX0 135 f fd ["_law_rows","_law_some"] (Ko K):=by
 refine F.ok scKept3 (fun vs H Q E h=>?_) (fun cdv A outer s H vs Q E hr h=>?_)
 ·obtain ⟨tb,nl,T,ts,us,m,rs,rfl,_⟩:=h
  rfl
 ·obtain ⟨tb,nl,T,ts,us,m,rs,rfl,hT,R,m1,m7,lT1,lT,hnl,tsv,lt1,lt60,nok,ok,few,q⟩:=h
  have nd:=scKept3.nd
  have hr4:Room 4 _:=hr.mono (by decide)
  have hrG:Room 134 _:=hr.mono (by decide)
  have hlen:∀r∈T,r.2.length=m:=fun r h=>(R r h).2
  have lus:=tsv.len
  have eqs:∀{t:Tr} {ws us:List RW},t∈ts->Asc (ws.map (·.2)) (ws.map (·.2))->(∀k,k∈ws.map (·.2)↔GM (T.map (·.2)) m t k)->Asc (us.map (·.2)) (T.map fun r=>C6 r.2 t.part)->ws.map (·.2)=us.map (·.2):=fun {t ws us} ht A g B=>by
   obtain ⟨p,hp,rfl⟩:=nok t ht
   have ep:=(Ir (m:=m) (rs:=rs) p p (Zd_ _) hp).1
   rw [ep] at B
   refine Asc.eq (m:=m) A B (fun k=>?_) fun k hk=>?_
   ·rw [g]
    exact Cn hlen ok p p (Zd_ _) hp k
   ·obtain ⟨r,hr',rfl⟩:=Θn ((Cn hlen ok p p (Zd_ _) hp k).mp ((g k).mp hk))
    exact (E8 _ _).trans (hlen r hr')
  refine ⟨_,(A9 (D1 (i:=2) nd rfl (Or.inl rfl) (E5 (K7 (K:=K) rfl) (by rfl) zlist PyProof.Rows.boot_list (A0 (pv 0) A6)))
   (A9 (I8 PassesOwn.never rfl (E7 (K:=K) rfl (pv 1)) (D5 (i:=3) nd rfl (Or.inl rfl)) (A9 (D1 (i:=4) nd rfl (Or.inl rfl) (C2 GO hr4 rfl mO kO bO .nil C8 (A0 (E5 (K7 (K:=K) rfl) (by rfl) zlist PyProof.Rows.boot_list (A0 (pv 0) A6)) (A0 (D7 (D2 (K:=K) rfl) (pv 3) B0 (fun _ _=>rfl)) A6))))
   (A9 (D1 (i:=5) nd rfl (Or.inl rfl) (C2 GGR hrG rfl mGR kGR bGR .nil C8 (A0 (pv 2) (A0 (pv 3) A6))))
   (A9 (F8 (PW.pt (Vt (Hn (V2 (F2 (Te (K:=K) rfl) (by rfl) zisinstance PyProof.Rows.boot_isinstance (A0 (pv 5) (A0 (Zh (v:=.ty "list") rfl zlist PyProof.Rows.boot_list rfl) A6))))) (Vt (D8 (Hg (K:=K) rfl hr.units) (pv 5) (pv 4) (D9 _)) (Vu (D8 (Hg (K:=K) rfl hr.units) (pv 2) (pv 0) (D9 _)))))) (C1 (D0 X8)) E1)
   (C1 (Q4 (Ah PySem.F.plainAttrs_list PySem.F.slot_list_append PySem.F.type_list_append N2 (pv 5) (A0 (M8 A6) A6))))))))
   (C1 (D0 (P1 (Acb (K:=K) rfl hr.units) (C2 GGR hrG rfl mGR kGR bGR .nil C8 (A0 (pv 2) (A0 (D7 (E4 (K:=K) rfl) (pv 1) B0 (fun _ _=>rfl)) A6))) (C2 GO hr4 rfl mO kO bO .nil C8 (A0 (E5 (K7 (K:=K) rfl) (by rfl) zlist PyProof.Rows.boot_list (A0 (pv 0) A6)) (A0 (D7 (D2 (K:=K) rfl) (D7 (E4 (K:=K) rfl) (pv 1) B0 (fun _ _=>rfl)) B0 (fun _ _=>rfl)) A6))) (D9 _)))))),?_⟩
  refine ⟨_,rfl,tb,_,rfl,.inl hT,fun hd hhd=>?_⟩
  have s1:=Same.new (o:=.lst (C0 T)) hhd
  have hhd1:(upd H hd (.lst (C0 T))) hd=some (.lst (C0 T)):=A8
  generalize upd H hd (.lst (C0 T))=H1 at s1 hhd1
  refine ⟨_,rfl,nl,rfl,⟨_,s1.seq hnl⟩,I9 (K:=K) (xs:=us) (fun i σ H'=>(∃v3 v4 v5,σ=[some (.ref tb),some (.ref nl),some (.ref hd),v3,v4,v5])/\Same H1 H') ⟨⟨_,_,_,rfl⟩,Same.refl _⟩ (fun i σ H' _ h=>(s1.trans h.2).seq hnl) ?_ ?_⟩
  ·rintro i v σ H2 hv ⟨⟨v3,v4,v5,rfl⟩,s2⟩
   obtain ⟨t,et,tv⟩:=tsv.get hv
   have ht:=Θe et
   obtain ⟨wf,dp⟩:=nok.wf ht m7
   have s12:=s1.trans s2
   have tv2:=tv.same s12
   obtain ⟨a,xs,rfl,ha,ex⟩:=P9 tv2
   have wl:=wf.lt
   have p7:=El m7
   refine ⟨_,rfl,tb,_,rfl,.inl (s12.seq hT),fun h1 hh1=>?_⟩
   have s3:=Same.new (o:=.lst (C0 T)) hh1
   have hh3:(upd H2 h1 (.lst (C0 T))) h1=some (.lst (C0 T)):=A8
   generalize upd H2 h1 (.lst (C0 T))=H3 at s3 hh3
   refine ⟨_,rfl,a,_,_,_,rfl,rfl,SqT.of (s3 _ _ ha),C4 (j:=1) ex,h1,T,t.part,m,rfl,SqL.of hh3,R.same (s12.trans s3),m1,by omega,by omega,fun l4 ws4 H4 s4 hl4 hw4 Rw4 A4=>?_⟩
   have s14:=(s2.trans s3).trans s4
   have s04:=s1.trans s14
   refine ⟨_,rfl,_,rfl,hd,.ref a,T,t,m,rfl,SqL.of (s14 _ _ hhd1),R.same s04,m1,m7,lT1,lT,tv.same s04,dp,wf,few,fun l5 ws5 H5 s5 hl5 hw5 Rw5 A5 g5=>?_⟩
   have s15:=s14.trans s5
   have e5:=eqs ht A5 g5 A4
   refine ⟨_,rfl,_,_,_,true,rfl,.lst hw5,rfl,_,rfl,V1 ?_⟩
   refine ⟨_,rfl,_,rfl,.list ((ws5.map (·.2)).map Q9),.list ((ws4.map (·.2)).map Q9),T4 hw5 Rw5,T4 (s5 _ _ hw4) (Rw4.same s5),K0 _,K0 _,U4 _ _,_,rfl,?_⟩
   rw [if_pos rfl,e5,V7]
   refine V1 ?_
   refine ⟨_,rfl,_,rfl,.list ((T.map (·.2)).map Q9),.list ((T.map (·.2)).map Q9),T4 (s15 _ _ hhd1) (R.same (s1.trans s15)),.lst ((s1.trans s15).seq hT) (Ht (R.same (s1.trans s15))),K0 _,K0 _,U4 _ _,_,rfl,?_⟩
   rw [if_pos rfl,V7]
   refine V1 ?_
   refine ⟨_,rfl,.inl ⟨rfl,_,SqL.of hw5⟩,Zp_ _,fun te hte=>?_⟩
   have s6:=Same.new (o:=.tup []) hte
   have lw5:(C0 ws5).length=ws5.length:=Θl ..
   have lw4:=A4.lenR
   have l54:ws5.length=ws4.length:=by have:=congrArg List.length e5; rw [Θl,Θl] at this; exact this
   refine ⟨l5,_,_,rfl,rfl,s6 _ _ hw5,by rw [lw5]; exact E2 (by omega),⟨_,_,_,rfl⟩,?_⟩
   exact (s15.trans s6).own (s14.free hl5)
  ·rintro σ H2 ⟨⟨v3,v4,v5,rfl⟩,s2⟩
   have s12:=s1.trans s2
   obtain ⟨v,ev⟩:∃v,us[0]? = some v:=⟨_,Θh (show 0 < us.length by omega)⟩
   obtain ⟨t,et,tv⟩:=tsv.get ev
   have ht:=Θe et
   obtain ⟨wf,dp⟩:=nok.wf ht m7
   have p7:=El m7
   have wl:=wf.lt
   obtain ⟨a,xs,rfl,ha,ex⟩:=P9 (tv.same s12)
   refine ⟨_,rfl,_,rfl,nl,_,_,_,rfl,rfl,s12.seq hnl,C4 (j:=0) ev,hd,.ref a,T,t,m,rfl,SqL.of (s2 _ _ hhd1),R.same s12,m1,m7,lT1,lT,tv.same s12,dp,wf,few,fun l5 ws5 H5 s5 hl5 hw5 Rw5 A5 g5=>?_⟩
   have s15:=s12.trans s5
   refine ⟨_,rfl,tb,_,rfl,.inl (s15.seq hT),fun h1 hh1=>?_⟩
   have s6:=Same.new (o:=.lst (C0 T)) hh1
   have hh6:(upd H5 h1 (.lst (C0 T))) h1=some (.lst (C0 T)):=A8
   generalize upd H5 h1 (.lst (C0 T))=H6 at s6 hh6
   have s16:=s15.trans s6
   refine ⟨_,rfl,nl,_,_,_,rfl,rfl,s16.seq hnl,C4 (j:=0) ev,a,_,_,_,rfl,rfl,SqT.of ((s5.trans s6) _ _ ha),C4 (j:=1) ex,h1,T,t.part,m,rfl,SqL.of hh6,R.same s16,m1,by omega,by omega,fun l7 ws7 H7 s7 hl7 hw7 Rw7 A7=>?_⟩
   have e5:=eqs ht A5 g5 A7
   have s67:=s6.trans s7
   refine ⟨.list ((ws5.map (·.2)).map Q9),.list ((ws7.map (·.2)).map Q9),T4 (s67 _ _ hw5) (Rw5.same s67),T4 hw7 Rw7,K0 _,K0 _,U4 _ _,?_⟩
   rw [if_neg Zf_,e5,V7]
   exact q _ (s16.trans s7)
noncomputable abbrev Cw:Stmt:=top 54
theorem scDrawn3:FnScope ["_law_rows","_law_some","_law_node","_law_found"] ["_law_rows","_law_some"] (C3 Cw):=⟨rfl,rfl,rfl,by decide +kernel,rfl,by decide +kernel,by decide +kernel⟩
theorem Ma {f fO fGR fUP:Addr} {fd fdO fdGR fdUP:FuncData} (F:Fun K "_law_drawn_right" "_law_drawn_right" Cw f fd) (GO:FnOk P w K mg base CX0 4 fO fdO ["book","part"] (Z7 K)) (mO:mg "seen_on" = some (.ref fO)) (kO:Θk K fO) (bO:Binds K fdO ["book","part"] []) (GGR:FnOk P w K mg base CX0 134 fGR fdGR ["book","tree"] (Bn K 128)) (mGR:mg "grown" = some (.ref fGR)) (kGR:Θk K fGR) (bGR:Binds K fdGR ["book","tree"] []) (GUP:FnOk P w K mg base CX0 132 fUP fdUP ["_law_rows","_law_node"] (Bn K 128)) (mUP:mg "_law_up" = some (.ref fUP)) (kUP:Θk K fUP) (bUP:Binds K fdUP ["_law_rows","_law_node"] []) (zlist:mg "list" = none):FnOk P w K mg base CX0 135 f fd ["_law_rows","_law_some"] (Fy K):=by
 refine F.ok scDrawn3 (fun vs H Q E h=>?_) (fun cdv A outer s H vs Q E hr h=>?_)
 ·obtain ⟨tb,nl,T,ts,us,m,rs,rfl,_⟩:=h
  rfl
 ·obtain ⟨tb,nl,T,ts,us,m,rs,rfl,hT,R,m1,m7,lT1,lT,hnl,tsv,lt60,nok,few,q⟩:=h
  have nd:=scDrawn3.nd
  have hr4:Room 4 _:=hr.mono (by decide)
  have hrG:Room 134 _:=hr.mono (by decide)
  have hrU:Room 132 _:=hr.mono (by decide)
  have hl:∀r∈T.map (·.2),r.length=m:=fun r h=>by
   obtain ⟨r',h1,rfl⟩:=Θn h
   exact (R r' h1).2
  have no0:∀{HX:Hp},RowsOk HX m []:=fun r h=>absurd h Zi_
  refine ⟨_,(A9 (I8 PassesOwn.never rfl (E7 (K:=K) rfl (pv 1)) (D5 (i:=2) nd rfl (Or.inl rfl)) (A9 (D1 (i:=3) nd rfl (Or.inr rfl) (C2 GGR hrG rfl mGR kGR bGR .nil C8 (A0 (E5 (K7 (K:=K) rfl) (by rfl) zlist PyProof.Rows.boot_list (A0 (pv 0) A6)) (A0 (pv 2) A6))))
   (A9 (F8 (D8 (Hg (K:=K) rfl hr.units) (pv 3) (C2 GUP hrU rfl mUP kUP bUP .nil C8 (A0 (pv 0) (A0 (pv 2) A6))) (D9 _)) (C1 (D0 X8)) E1)
   (C1 (F8 (D8 (Hg (K:=K) rfl hr.units) (M1 (xs:=["_law_row"]) (cs ["_law_rows","_law_some","_law_node","_law_found"] (C3 Cw) rfl rfl (by decide +kernel)) rfl (E7 (K:=K) rfl (C2 GO hr4 rfl mO kO bO .nil C8 (A0 (E5 (K7 (K:=K) rfl) (by rfl) zlist PyProof.Rows.boot_list (A0 (pv 0) A6)) (A0 (D7 (D2 (K:=K) rfl) (pv 2) B0 (fun _ _=>rfl)) A6)))) (fun _ _ _=>D5 (i:=0) (show (["_law_row","_law_rows","_law_some","_law_node","_law_found"]:List Str).Nodup by decide +kernel) rfl (Or.inl rfl)) (fun _ _ _=>(Bl (D8 (Mc (K:=K) rfl hr.units) (pv 0) (pv 4) (by rfl)))) (fun _ _ _=>(pv 0))) (G8 A6) (D9 _)) (C1 (D0 X8)) E1)))))
   (C1 (D0 X8))),?_⟩
  refine ⟨_,rfl,nl,rfl,⟨_,hnl⟩,I9 (K:=K) (xs:=us) (fun i σ H'=>(∃v2 v3,σ=[some (.ref tb),some (.ref nl),v2,v3])/\Same H H') ⟨⟨_,_,rfl⟩,Same.refl _⟩ (fun i σ H' _ h=>h.2.seq hnl) ?_ ?_⟩
  ·rintro i v σ H2 hv ⟨⟨v2,v3,rfl⟩,s2⟩
   obtain ⟨t,et,tv⟩:=tsv.get hv
   have ht:=Θe et
   obtain ⟨wf,dp⟩:=nok.wf ht m7
   have p7:=El m7
   have wl:=wf.lt
   refine ⟨_,rfl,tb,_,rfl,.inl (s2.seq hT),fun h1 hh1=>?_⟩
   have s3:=s2.trans (Same.new (o:=.lst (C0 T)) hh1)
   have hh3:(upd H2 h1 (.lst (C0 T))) h1=some (.lst (C0 T)):=A8
   generalize upd H2 h1 (.lst (C0 T))=H3 at s3 hh3
   refine ⟨_,rfl,h1,v,T,t,m,rfl,SqL.of hh3,R.same s3,m1,m7,lT1,lT,tv.same s3,dp,wf,few,fun l4 ws4 H4 s4 hl4 hw4 Rw4 A4 g4=>?_⟩
   have s04:=s3.trans s4
   refine ⟨_,rfl,_,rfl,_,rfl,tb,v,T,t,m,rfl,s04.seq hT,R.same s04,m1,m7,lT1,lT,tv.same s04,dp,wf,few,fun l5 ws5 H5 s5 hl5 hw5 Rw5 A5 g5=>?_⟩
   have s05:=s04.trans s5
   have e5:ws4.map (·.2)=ws5.map (·.2):=Asc.eq (m:=m) A4 A5 (fun k=>(g4 k).trans (g5 k).symm) fun k hk=>(Dw hl wf ((g4 k).mp hk)).len
   refine ⟨.list ((ws4.map (·.2)).map Q9),.list ((ws5.map (·.2)).map Q9),T4 (s5 _ _ hw4) (Rw4.same s5),T4 hw5 Rw5,K0 _,K0 _,U4 _ _,_,rfl,?_⟩
   rw [if_pos rfl,e5,V7]
   refine V1 ?_
   obtain ⟨a,xs,rfl,ha,ex⟩:=P9 (tv.same s05)
   refine ⟨_,rfl,tb,_,rfl,.inl (s05.seq hT),fun h6 hh6=>?_⟩
   have s6:=Same.new (o:=.lst (C0 T)) hh6
   have hh6':(upd H5 h6 (.lst (C0 T))) h6=some (.lst (C0 T)):=A8
   generalize upd H5 h6 (.lst (C0 T))=H6 at s6 hh6'
   have s06:=s05.trans s6
   refine ⟨_,rfl,a,_,_,_,rfl,rfl,SqT.of (s6 _ _ ha),C4 (j:=1) ex,h6,T,t.part,m,rfl,SqL.of hh6',R.same s06,m1,by omega,by omega,fun l7 ws7 H7 s7 hl7 hw7 Rw7 A7=>⟨l7,rfl,⟨_,SqL.of hw7⟩,?_⟩⟩
   have s07:=s06.trans s7
   have s47:=(s5.trans s6).trans s7
   have lw7:=A7.lenR
   have lrw:(C0 ws7).length=ws7.length:=Θl ..
   refine W9 (K:=K) (xs:=C0 ws7) (fun j acc HX=>HX=H7/\acc=[]) (by omega) ⟨rfl,rfl⟩ (fun j acc HX hj h=>?_) (fun j v acc HX hv h=>?_) (fun acc HX h=>?_)
   ·obtain ⟨rfl,rfl⟩:=h
    exact ⟨SqL.of hw7,Zp_ _⟩
   ·obtain ⟨rfl,rfl⟩:=h
    unfold C0 at hv
    rw [Θg] at hv
    cases er:ws7[j]? with
    | none=>rw [er] at hv; cases hv
    | some r=>
     rw [er] at hv
     obtain rfl:=(Θo hv).symm
     have rm:=Θe er
     refine ⟨rfl,_,rfl,_,rfl,r.1,l4,r.2,ws4,rfl,rfl,(Rw7 r rm).1,SqL.of (s47 _ _ hw4),(fun w hw=>s47 _ _ (Rw4 w hw).1),fun b hb=>⟨_,rfl,?_⟩⟩
     cases b with
     | false=>exact V1 ⟨rfl,rfl⟩
     | true=>
      obtain ⟨r0,hr0,er0⟩:=Θn ((A7.mem r.2).mp (Θm ⟨r,rm,rfl⟩))
      have er0:C6 r0.2 t.part=r.2:=er0
      obtain ⟨c,hc,ec⟩:=Θn ((g4 r.2).mpr (by rw [<-er0]; exact Ln hl (Θm ⟨r0,hr0,rfl⟩) wf))
      exact absurd ec (hb.mp rfl c hc)
   obtain ⟨rfl,rfl⟩:=h
   intro l8 hl8
   refine ⟨Zp_ _,fun l9 hl9=>?_⟩
   have s8:=(Same.new (o:=.lst []) hl8).trans (Same.new (o:=.lst []) hl9)
   have hl8':(upd (upd HX l8 (.lst [])) l9 (.lst [])) l8=some (.lst (C0 [])):=(Same.new (o:=.lst []) hl9) _ _ A8
   have hl9':(upd (upd HX l8 (.lst [])) l9 (.lst [])) l9=some (.lst (C0 [])):=A8
   refine ⟨.list (([]:List (List Int)).map Q9),.list (([]:List (List Int)).map Q9),T4 hl8' (no0),T4 hl9' (no0),K0 _,K0 _,U4 _ _,_,rfl,?_⟩
   rw [if_pos rfl,V7]
   exact V1 ⟨⟨_,_,rfl⟩,s07.trans s8⟩
  ·rintro σ H2 ⟨⟨v2,v3,rfl⟩,s2⟩
   exact q H2 s2
end
end Own
namespace L2
open PySem PySem.Spec PyProof.Rows
theorem TreeV.tup {H H':Hp} (k:∀a xs,H a=some (.tup xs)->H' a=some (.tup xs)):∀{t:Tr} {v:V},TreeV H t v->TreeV H' t v
 | .whole _,_,⟨a,h1,h2⟩=>⟨a,h1,k _ _ h2⟩
 | .cut _ _ _ _ _,_,⟨a,x,y,h1,h2,h3,h4⟩=>⟨a,x,y,h1,k _ _ h2,h3.tup k,h4.tup k⟩
theorem TreesV.tup {H H':Hp} (k:∀a xs,H a=some (.tup xs)->H' a=some (.tup xs)):∀{ts:List Tr} {vs:List V},TreesV H ts vs->TreesV H' ts vs
 | _,_,.nil=>.nil
 | _,_,.cons a b=>.cons (a.tup k) (b.tup k)
theorem Jk {m:Nat} {rs:List RD} {bs:List Nat} {lo hi:Nat->Int} {T T':List RW} (m7:m<=7) (B:ChT m rs bs lo hi T) (sub:∀r∈T',r∈T):W1 (T'.map (·.2)) m:=by
 refine ⟨2,fun c=>[lo c,hi c],by decide,Zo_ (Nat.pow_le_pow_right (by decide) m7) (by decide),fun c=>Zd_ _,fun r hr c hc=>?_⟩
 obtain ⟨r',hr',rfl⟩:=Θn hr
 obtain ⟨k,_,e⟩:=B.of (sub r' hr')
 rw [e]
 unfold P8
 rw [Zu_,Θg,Me hc]
 simp only [Option.map_some,Option.getD_some]
 split
 ·exact Θd _ (List.mem_singleton.mpr rfl)
 ·exact Θc ..
theorem Jl {m n:Nat} {T:List RW} (n1:1<=n) (h:T.length<=n) (hn:n ^ m<=250):W1 (T.map (·.2)) m:=by
 refine ⟨n,fun c=>T.map fun r=>r.2.getD c 0,n1,hn,fun c=>by rw [Θl]; exact h,fun r hr c _=>?_⟩
 obtain ⟨r',hr',rfl⟩:=Θn hr
 exact Θm ⟨r',hr',rfl⟩
theorem Sn {m:Nat} (h:m<=5):3 ^ m<=250:=Zo_ (Nat.pow_le_pow_right (by decide) h) (by decide)
theorem Xj {m:Nat} (h:m<=7):2 ^ m<=250:=Zo_ (Nat.pow_le_pow_right (by decide) h) (by decide)
theorem Mg {H:Hp} {m:Nat} {ts:List Addr} {rs:List (List Int)} (h:RowsAt H ts rs) (hl:∀r∈rs,r.length=m):C0 (ts.zip rs)=ts.map V.ref/\RowsOk H m (ts.zip rs)/\(ts.zip rs).length=rs.length:=by
 have el:=h.len
 refine ⟨Lb el,fun w hw=>?_,by rw [List.length_zip,el,Nat.min_self]⟩
 refine ⟨?_,hl _ (List.of_mem_zip (a:=w.1) (b:=w.2) hw).2⟩
 obtain ⟨i,hi⟩:=List.getElem?_of_mem hw
 rw [List.getElem?_zip_eq_some] at hi
 obtain ⟨t,x,e1,e2,e3⟩:=h.get (i:=i) (by rw [<-el]; exact (Ze_.mp hi.1).1)
 rw [hi.1] at e1
 rw [hi.2] at e2
 rw [Θo e1,Θo e2]
 exact e3
noncomputable def Sw (m:Nat) (U:List RW) (p nl:Addr) (H:Hp):Prop:=∃(ts:List Tr) (us:List V) (rs:List RD),H nl=some (.lst us)/\TreesV H ts us/\ts.length<=60/\NodesOk m rs ts/\H p=some (.lst (C0 U))/\RowsOk H m U
structure L63 (K:Θf) (st rp nl:Addr) (ns:List Int) (m:Nat) (rs:List Rl) (ts:List Tr) (us:List V) (k:Nat) (H':Hp):Prop where
 S:STF K H' st ns k
 hrp:H' rp=some (.lst (rs.map fun r=>V.ref r.r))
 hRs:RulesAt H' m rs
 hnl:H' nl=some (.lst us)
 tv:TreesV H' ts us
theorem L63.same {K:Θf} {st rp nl:Addr} {ns:List Int} {m k:Nat} {rs:List Rl} {ts:List Tr} {us:List V} {H H':Hp} (h:L63 K st rp nl ns m rs ts us k H) (e:Same H H'):L63 K st rp nl ns m rs ts us k H':=
 ⟨h.S.same e,e _ _ h.hrp,h.hRs.same e,e _ _ h.hnl,h.tv.same e⟩
theorem L63.but {K:Θf} {st rp nl:Addr} {ns:List Int} {m k k':Nat} {rs:List Rl} {ts:List Tr} {us:List V} {H H':Hp} (h:L63 K st rp nl ns m rs ts us k H) (nr:rp≠st) (nn:nl≠st) (S':STF K H' st ns k') (B:But st H H'):L63 K st rp nl ns m rs ts us k' H':=
 ⟨S',B _ _ h.hrp nr,fun r hr=>⟨K4 h.S B (h.hRs r hr).1,(h.hRs r hr).2⟩,B _ _ h.hnl nn,h.tv.tup fun a xs e=>K4 h.S B e⟩
structure CScope1 (X:Cx) (x0:Str) (sc:Scope):Prop where
 kind:sc.kind = .function
 own:sc.names.lookup x0=some .cell
 only:∀y∈sc.names,y.2 = .cell->y.1=x0
 names:∀y∈sc.names,y.2 = .local->sc.names.lookup y.1=some .local
 sep:∀y∈X.N,sc.names.lookup y≠some .local
 frees:∀y∈sc.names,y.2 = .free->X.env.kindOf y.1=some .cell\/X.env.kindOf y.1=some .free
 laid:∀a cl,cellsFrom a sc.names cl=(x0,a) :: cl
 push:∀h,pushCells h sc.names=h.push { cls:=.type "cell",data:=.cell none }
 nd:(x0 :: X.N).Nodup
noncomputable abbrev Ul (sc:Scope) (C:Addr) (globals:Addr) (cells:List (Str × Addr)) (env:Env):Env:={ scope:=sc,locals:=C,globals:=globals,cells:=cells,qual:=env.qual,func:=none,code:=env.code,frame:=env.frame,builtins:=env.builtins }
theorem Yn {M:Model} {A:Around} {E:Value->Shared->Prop} {s:Shared} {sc:Scope} {globals:Addr} {cl:List (Str × Addr)} {x0:Str} {env:Env} {Q:Env->Shared->Prop}
  (laid:∀a cl,cellsFrom a sc.names cl=(x0,a) :: cl) (push:∀h,pushCells h sc.names=h.push { cls:=.type "cell",data:=.cell none })
  (hQ:Q (Ul sc s.heap.objs.size globals ((x0,s.heap.objs.size + 1) :: cl) env) { s with heap:=(s.heap.push { cls:=.type "dict",data:=.dict #[] }).push { cls:=.type "cell",data:=.cell none } }) :
  wpAny M A (newFunctionEnv sc globals cl [] env.qual none .none (some env)) Q E s:=by
 simp only [newFunctionEnv,Option.isSome_some,if_true]
 apply Za_
 apply wpAny_alloc
 apply Za_
 refine wpAny_layCells _ (fun name kind cells=>by cases hkc:kind == NameKind.cell <;> simp [hkc]) _ _ _ _ ?_
 rw [laid,push]
 apply Za_
 rw [List.forIn_nil]
 apply Zb_
 apply Zb_
 rw [show ({ s with heap:=s.heap.push { cls:=.type "dict",data:=.dict #[] } }:Shared).heap.objs.size=s.heap.objs.size + 1 from Heap.size_push ..]
 exact hQ
noncomputable def cxD (X:Cx) (x0:Str) (sc:Scope) (ex:List Addr) (s:Shared) (H:Hp):Cx where
 prog:=X.prog
 w:=X.w
 K:=X.K
 mg:=X.mg
 base:=X.base
 A:=X.A
 N:=x0 :: X.N
 s₀:=s
 H₀:=H
 env:=compEnvC sc ((x0,s.heap.objs.size + 1) :: clF X.env.cells sc.names []) s.heap.objs.size X.env
 outer:=X.stack
 stack:=X.stack
 ex:=ex
 fn:=fun y=>y == x0
 calm:=X.calm
 pn:=[]
 xe:=fun _ _=>False
theorem Cr {x0 x:Str} {a c:Addr} {cells:List (Str × Addr)} {names:List (Str × NameKind)} (h:((x0,a) :: clF cells names []).lookup x=some c):c=a\/cells.lookup x=some c:=by
 rw [List.lookup_cons] at h
 cases e:x == x0 with
 | true=>rw [e] at h; exact .inl (Θo h).symm
 | false=>rw [e] at h; exact .inr (G6 h).1
theorem Cs {x0 x:Str} {a c:Addr} {cells:List (Str × Addr)} {names:List (Str × NameKind)} (h:((x0,a) :: clF cells names []).lookup x=some c):(x=x0/\c=a)\/(x≠x0/\(clF cells names []).lookup x=some c):=by
 rw [List.lookup_cons] at h
 cases e:x == x0 with
 | true=>rw [e] at h; exact .inl ⟨by simpa using e,(Θo h).symm⟩
 | false=>rw [e] at h; exact .inr ⟨by simpa using e,h⟩
theorem Od {x0 x:Str} {a c:Addr} {cl:List (Str × Addr)} (ne:x≠x0) (h:cl.lookup x=some c):((x0,a) :: cl).lookup x=some c:=by
 rw [List.lookup_cons]
 have e:(x == x0)=false:=by simpa using ne
 rw [e]; exact h
section
variable {X:Cx} {pins:List (Addr × Obj)} {σ:St} {H:Hp} {s:Shared} {x0:Str} {sc:Scope} {ex:List Addr}
theorem Iq {x:Str} (S:CScope1 X x0 sc) (h:Vis (relabel sc X.env) x) (hl:sc.names.lookup x≠some .local) (ne:x≠x0) :
  (x,NameKind.free)∈sc.names/\((relabel sc X.env).names.lookup x=some .cell\/(relabel sc X.env).names.lookup x=some .free):=by
 have e:(relabel sc X.env).names.lookup x=_:=N0 X.env x sc.names
 unfold Vis at h
 rw [e] at h
 cases k:sc.names.lookup x with
 | none=>rw [k] at h; simp at h
 | some v=>
  have mem:=PySem.mem_of_lookup k
  have nl:v≠.local:=fun z=>hl (by rw [k,z])
  have ncl:v≠.cell:=fun z=>ne (S.only _ mem z)
  rw [k] at h
  rw [e,k]
  simp only [Option.map_some] at h ⊢
  by_cases hv:v = .free
  ·subst hv
   refine ⟨mem,?_⟩
   split
   ·exact .inl rfl
   ·exact .inr rfl
  ·have:(v == NameKind.free)=false:=by simpa using hv
   simp only [this,Bool.false_and] at h
   rcases h with h | h | h
   ·exact absurd (Θo h) nl
   ·exact absurd (Θo h) ncl
   ·exact absurd (Θo h) hv
theorem CScope1.cells (S:CScope1 X x0 sc) (ok:X.Ok):∀n,(n,NameKind.free)∈sc.names->∃c,X.env.cells.lookup n=some c:=fun n h=>ok.has n (S.frees _ h rfl)
theorem Abi (S:CScope1 X x0 sc) (I:Inv X pins σ H s) (he:∀b∈ex,b < s.heap.objs.size/\b∉frs X.stack/\(∀x c,X.env.cells.lookup x=some c->c≠b)/\X.base.get? b=none):(cxD X x0 sc ex s H).Ok:=by
 have lt:∀x c,X.env.cells.lookup x=some c->c < s.heap.objs.size:=fun x c e=>by
  obtain ⟨v,q⟩:=I.cell x c e
  exact q.lt
 refine ⟨I.ok.mod,S.kind,I.ok.glob,I.ok.blt,Zd_ _,fun x y c h1 h2=>?_,fun x hx=>?_,fun x c h e=>?_,I.ok.hd,I.ok.frames,.inl rfl,fun b hb=>⟨Zs_ (he b hb).1,fun x c h=>?_⟩,fun b o e=>?_,?_,fun b o e hb=>?_,fun b hb=>(he b hb).2.1,I.stack,I.stkFree⟩
 ·rcases Cs h1 with ⟨z1,z2⟩ | ⟨z1,z2⟩
  ·rcases Cs h2 with ⟨w1,_⟩ | ⟨_,w2⟩
   ·rw [z1,w1]
   ·have h:=lt _ _ (G6 w2).1
    rw [z2] at h
    exact absurd (Nat.lt_trans h (Nat.lt_succ_self _)) (Nat.lt_irrefl _)
  ·rcases Cs h2 with ⟨_,w2⟩ | ⟨_,w2⟩
   ·have h:=lt _ _ (G6 z2).1
    rw [w2] at h
    exact absurd (Nat.lt_trans h (Nat.lt_succ_self _)) (Nat.lt_irrefl _)
   ·exact I.ok.inj x y c (G6 z2).1 (G6 w2).1
 ·by_cases ne:x=x0
  ·subst ne
   exact ⟨s.heap.objs.size + 1,by show ((x,s.heap.objs.size + 1) :: _).lookup x=_; rw [List.lookup_cons,beq_self_eq_true]⟩
  have hv:(relabel sc X.env).names.lookup x=some .cell\/(relabel sc X.env).names.lookup x=some .free:=hx
  have q:(x,NameKind.free)∈sc.names:=by
   have e:(relabel sc X.env).names.lookup x=_:=N0 X.env x sc.names
   rw [e] at hv
   cases k:sc.names.lookup x with
   | none=>rw [k] at hv; simp at hv
   | some v=>
    have mem:=PySem.mem_of_lookup k
    rw [k] at hv
    simp only [Option.map_some] at hv
    by_cases hvf:v = .free
    ·rw [hvf] at mem; exact mem
    ·have:(v == NameKind.free)=false:=by simpa using hvf
     simp only [this,Bool.false_and] at hv
     rcases hv with h | h
     ·exact absurd (S.only _ mem (Θo h)) ne
     ·exact absurd (Θo h) hvf
  obtain ⟨c,e⟩:=S.cells I.ok x q
  obtain ⟨d,hd⟩:=G7 (Ax sc.names [] x c q e)
  exact ⟨d,Od ne hd⟩
 ·rcases Cs e with ⟨_,z⟩ | ⟨ne,_⟩
  ·rw [z]; exact Nat.le_succ _
  ·exact absurd (by simpa using (show (x == x0)=true from h)) ne
 ·rcases Cr h with z | z
  ·intro e
   have h':=(he b hb).1
   rw [<-e,z] at h'
   exact absurd (Nat.lt_trans h' (Nat.lt_succ_self _)) (Nat.lt_irrefl _)
  ·exact (he b hb).2.2.1 x c z
 ·exact I.bs b o e
 ·exact Zo_ I.ok.bsz I.sz
 ·have q:X.base.get? b=none:=(he b hb).2.2.2
  have e':X.base.get? b=some o:=e
  rw [q] at e'; cases e'
theorem Qi {h₁:Heap} {tk:Nat} (S:CScope1 X x0 sc) (I:Inv X pins σ H s) (he:∀b∈ex,b < s.heap.objs.size/\b∉frs X.stack/\(∀x c,X.env.cells.lookup x=some c->c≠b)/\X.base.get? b=none)
  (hn:h₁.Ns s.heap.objs.size (fun _=>none)) (hc:h₁.IsCell (s.heap.objs.size + 1) none) (hk:∀b o,s.heap.get? b=some o->h₁.get? b=some o) :
  Inv (cxD X x0 sc ex s H) [] (none :: σ) H { s with heap:=h₁,toks:=tk }:=by
 have I1:Inv X pins σ H { s with heap:=h₁,toks:=tk }:=I.kept hk
 refine ⟨Abi S I he,rfl,I.bare,Un.kept hk,⟨_,hn,fun i x v h1 h2 h3=>?_⟩,fun x c h=>?_,I.hok.fresh (Nat.le_refl _),fun x c h=>?_,fun p hp=>absurd (show p∈([]:List (Addr × Obj)) from hp) (by simp),I.hok.kept hk,?_⟩
 ·cases i with
  | zero=>cases h2
  | succ i=>
   have h1':X.N[i]? = some x:=h1
   have h2':σ[i]? = some (some v):=h2
   have hm:x∈X.N:=Θe h1'
   have ne:x≠x0:=fun z=>(List.nodup_cons.mp S.nd).1 (by rw [<-z]; exact hm)
   obtain ⟨hf,hkd⟩:=Iq S h3 (S.sep x hm) ne
   have hko:=S.frees _ hf rfl
   obtain ⟨m,_,hl⟩:=I1.loc
   obtain ⟨u,r,l⟩:=hl i x v h1' h2' (by
    rcases hko with z | z
    ·exact .inr (.inl z)
    ·exact .inr (.inr z))
   refine ⟨u,r,.inr ⟨hkd,?_⟩⟩
   rcases l with ⟨z,_⟩ | ⟨_,c,ec,hc'⟩
   ·rcases hko with q | q <;> (rw [q] at z; cases z)
   ·obtain ⟨d,ed⟩:=G7 (Ax sc.names [] x c hf ec)
    have:c=d:=by
     have:=(G6 ed).1
     rw [ec] at this
     exact Θo this
    subst this
    exact ⟨c,Od ne ed,hc'⟩
 ·rcases Cr h with z | z
  ·rw [z]; exact ⟨none,hc⟩
  ·exact I1.cell x c z
 ·rcases Cr h with z | z
  ·rw [z]; exact I.hok.fresh (Nat.le_succ _)
  ·exact I.freeC x c z
 ·show (none :: σ).length=(x0 :: X.N).length
  rw [ZA,ZA,I.len]
end
section
variable {X:Cx} {pins:List (Addr × Obj)} {σ:St} {H:Hp} {s2:Shared} {tg iter elt:Expr} {ifs:List Expr} {sc:Scope} {pos:Pos} {x0:Str} {g:TG} {tc:TT} {te:TE} {J:It} {fp:List Addr} {it:Addr} {tn:Nat->Heap->Prop}
theorem Li {E:Value->Shared->Prop} {RR:Value->Addr->Result->Shared->Prop} (S:CScope1 X x0 sc) (hcalm:X.calm=true)
  (hg:∀ex s3 H3,PG (cxD X x0 sc ex s3 H3) tg g) (ht:∀ex s3 H3,PTs (cxD X x0 sc ex s3 H3) ifs tc) (he:∀ex s3 H3,PE (cxD X x0 sc ex s3 H3) elt te)
  (I:Inv X pins σ H s2) (T:Turn X.prog X.w X.K tg J fp it tn) (st:tn 0 s2.heap) (f2:∀b∈fp,FpOk X pins H b)
  (W:Nat->Nat->List V->Hp->Prop) (w0:∃m,W 0 m [] H) (F:List V->Hp->Prop)
  (turn:∀i m acc H,W i m acc H->(J.stop i H/\acc.length<=sizeLine/\F acc H)\/
   (J.go i H/\acc.length < sizeLine/\∃N:List V->Hp->Prop,(∀acc' H',N acc' H'->∃m',m' < m/\W (i + 1) m' acc' H')/\∀x H',J.yld i H x H'->g x (none :: σ) H' fun σ2 H2=>σ2.drop 1=σ/\tc σ2 H2 fun c H3=>
    if c=true then te σ2 H3 fun y H4=>N (acc++[y]) H4 else N acc H3))
  (fin:∀D C s' acc H',(∃m,s'.heap.Ns C m)->FpOk X pins (upd H' D (.lst acc)) C->F acc H'->H' D=none->Inv X pins σ (upd H' D (.lst acc)) s'->RR (.ref D) C (.ok .next) s') :
  wpAny (model X.prog X.w) X.A (newList []) (fun acc s3=>wpAny (model X.prog X.w) X.A (newFunctionEnv sc X.env.globals (clF X.env.cells sc.names []) [] X.env.qual none .none (some X.env)) (fun cenv s4=>
   codeAny (model X.prog X.w) X.A (.compStart (.ListComp elt [⟨tg,iter,ifs,0⟩] sc pos) 0 (.ref it) acc { cenv with scope:=relabel sc X.env }) (RR acc cenv.locals) s4) E s3) E s2:=by
 refine wpAny_newObj_type (Yn S.laid S.push ?_)
 dsimp only
 generalize hH3:s2.heap.push { cls:=.type "list",dict:=none,data:=.seq ([]:List Value).toArray }=H3
 obtain ⟨h₁,hh₁⟩:∃h₁,h₁=(H3.push { cls:=.type "dict",data:=.dict #[] }).push { cls:=.type "cell",data:=.cell none }:=⟨_,rfl⟩
 rw [<-hh₁]
 have hns₁:h₁.Ns H3.objs.size (fun _=>none):=by rw [hh₁]; exact (Heap.Ns.new H3 _).push _
 have hcl₁:h₁.IsCell (H3.objs.size + 1) none:=by
  rw [hh₁]
  refine ⟨{ cls:=.type "cell",data:=.cell none },?_,rfl⟩
  have e:((H3.push { cls:=.type "dict",data:=.dict #[] }).push { cls:=.type "cell",data:=.cell none }).get? (H3.push { cls:=.type "dict",data:=.dict #[] }).objs.size=some { cls:=.type "cell",data:=.cell none }:=Zm_ _ rfl
  rw [Heap.size_push] at e
  exact e
 have k1:∀b o,H3.get? b=some o->h₁.get? b=some o:=fun b o e=>by rw [hh₁]; exact Zc_ _ (Zc_ _ e)
 exact Fn (kk:=1) (X':=cxD X x0 sc (s2.heap.objs.size :: fp) { s2 with heap:=H3 } H) (hg _ _ _) (ht _ _ _) (he _ _ _) I T st f2 W w0 F turn fin hH3 k1 (fun I3 hex=>Qi S I3 hex hns₁ hcl₁ k1) (fun x c e=>Cr e) ⟨rfl,rfl,rfl,rfl,rfl,rfl,rfl,hcalm,rfl,rfl,rfl,rfl,rfl⟩
end
section
variable {X:Cx} {tg iter elt:Expr} {ifs:List Expr} {sc:Scope} {pos:Pos} {x0:Str} {wi:TI} {g:TG} {tc:TT} {te:TE}
theorem Vi (S:CScope1 X x0 sc) (hc:X.calm=true) (hi:PI X tg iter wi) (hg:∀ex s3 H3,PG (cxD X x0 sc ex s3 H3) tg g) (ht:∀ex s3 H3,PTs (cxD X x0 sc ex s3 H3) ifs tc) (he:∀ex s3 H3,PE (cxD X x0 sc ex s3 H3) elt te)
  (hs:∀x,foldedSetIterable iter X.env x=pure x:=by intro _; rfl):PE X (.ListComp elt [⟨tg,iter,ifs,0⟩] sc pos) (tLC 1 wi g tc te):=by
 intro pins s σ H Q I h
 rw [eval_ListComp]
 refine wpAny_comprehension_free (use:=none) rfl hs (Ak (S.cells I.ok)) S.kind S.names (thn (hi pins s σ H _ I h) fun v s1 h1=>thn h1 fun itv s2 h2=>?_)
 obtain ⟨it,fp,tn,J,H2,e,I2,T,st2,f2,W,w0,turn⟩:=h2
 subst e
 refine Li (RR:=fun acc C=>compPost (model X.prog X.w) X.A X.xe none (EP X pins σ Q) acc C) S hc hg ht he I2 T st2 f2 W w0 _ turn fun D C s' acc H' hns fC hF hD IF=>?_
 obtain ⟨m,hm⟩:=hns
 exact ⟨m,hm,fun h' hs'=>⟨.ref D,_,fC.turn IF hs',rfl,hF D hD⟩⟩
noncomputable def Aat (N:List Str) (x0:Str) (osc sc:Scope):Bool:=
 decide (sc.kind = .function) && decide (sc.names.lookup x0=some .cell) && sc.names.all (fun y=>decide (y.2≠.cell) || decide (y.1=x0)) && sc.names.all (fun y=>decide (y.2≠.local) || decide (sc.names.lookup y.1=some .local)) &&
  N.all (fun y=>decide (sc.names.lookup y≠some .local)) && sc.names.all (fun y=>decide (y.2≠.free) || (decide (osc.names.lookup y.1=some .cell) || decide (osc.names.lookup y.1=some .free))) && decide ((x0 :: N).Nodup)
theorem cs1 {X:Cx} {x0:Str} {sc:Scope} (N:List Str) (osc:Scope) (hN:X.N=N) (ho:X.env.scope=osc) (h:Aat N x0 osc sc=true) (laid:∀a cl,cellsFrom a sc.names cl=(x0,a) :: cl) (push:∀h,pushCells h sc.names=h.push { cls:=.type "cell",data:=.cell none }):CScope1 X x0 sc:=by
 unfold Aat at h
 simp only [Bool.and_eq_true,List.all_eq_true,decide_eq_true_eq,Bool.or_eq_true] at h
 obtain ⟨⟨⟨⟨⟨⟨h1,h2⟩,h3⟩,h4⟩,h5⟩,h6⟩,h7⟩:=h
 refine ⟨h1,h2,fun y hy e=>(h3 y hy).resolve_left fun z=>z e,fun y hy e=>(h4 y hy).resolve_left fun z=>z e,by rw [hN]; exact h5,fun y hy e=>?_,laid,push,by rw [hN]; exact h7⟩
 show X.env.scope.names.lookup y.1=_\/X.env.scope.names.lookup y.1=_
 rw [ho]
 exact (h6 y hy).resolve_left fun z=>z e
end
end L2
namespace L2
open PySem PySem.Spec PySem.W PyProof.Rows
theorem Dr {bs:List Nat} {j n:Nat}:∀i,i<=j->L3 bs (2 ^ j + n) i=L3 bs n i
 | 0,_=>rfl
 | i + 1,h=>by
  have e:E3 (2 ^ j + n) i=E3 n i:=by rw [O3,O3,Nat.testBit_two_pow_add_gt (by omega)]
  rw [L3,L3,e,Dr i (by omega)]
noncomputable def T5 (bs:List Nat):Nat->List Nat
 | 0=>[0]
 | j + 1=>T5 bs j++(T5 bs j).map (·|||bs.getD j 0)
theorem Lj (bs:List Nat):∀j,T5 bs j=(List.range (2 ^ j)).map fun n=>L3 bs n j
 | 0=>rfl
 | j + 1=>by
  rw [T5,Lj bs j,Nat.pow_succ,Nat.mul_two,List.range_add,Zw_,List.map_map,List.map_map]
  congr 1
  ·refine List.map_congr_left fun n hn=>?_
   have e:E3 n j=false:=by rw [O3]; exact Nat.testBit_lt_two_pow (List.mem_range.mp hn)
   rw [L3,if_neg (by rw [e]; exact Zf_)]
  ·refine List.map_congr_left fun n hn=>?_
   have e:E3 (2 ^ j + n) j=true:=by rw [O3,Nat.testBit_two_pow_add_eq,Nat.testBit_lt_two_pow (List.mem_range.mp hn)]; rfl
   show L3 bs n j|||bs.getD j 0=L3 bs (2 ^ j + n) (j + 1)
   rw [L3,if_pos e,Dr j (Zd_ _)]
theorem Ay (bs:List Nat) (j:Nat):(T5 bs j).length=2 ^ j:=by rw [Lj,Θl,List.length_range]
noncomputable def U8 (m s:Nat):List Nat:=(List.range m).map fun c=>if E3 s c=true then 1 else 0
theorem Ja (m s:Nat):(U8 m s).length=m:=by unfold U8; rw [Θl,List.length_range]
theorem Iz {m s c:Nat} (h:c < m):(U8 m s).getD c 0=if E3 s c=true then 1 else 0:=by
 unfold U8
 rw [Zu_,Θg,List.getElem?_range h]
 rfl
noncomputable def BitsAt (H:Hp) (m:Nat) (as:List Addr) (S:List Nat):Prop:=as.length=S.length/\∀(i:Nat) (a:Addr) (s:Nat),as[i]? = some a->S[i]? = some s->H a=some (.lst ((U8 m s).map vN))
theorem BitsAt.same {H H':Hp} {m:Nat} {as:List Addr} {S:List Nat} (h:BitsAt H m as S) (e:Same H H'):BitsAt H' m as S:=⟨h.1,fun i a s h1 h2=>e _ _ (h.2 i a s h1 h2)⟩
theorem BitsAt.snoc {H:Hp} {m s:Nat} {a:Addr} {as:List Addr} {S:List Nat} (h:BitsAt H m as S) (ha:H a=some (.lst ((U8 m s).map vN))):BitsAt H m (as++[a]) (S++[s]):=by
 refine ⟨by rw [Zv_,Zv_,h.1]; rfl,fun i b t h1 h2=>?_⟩
 by_cases c:i < as.length
 ·rw [List.getElem?_append_left c] at h1
  rw [List.getElem?_append_left (by rw [<-h.1]; exact c)] at h2
  exact h.2 i b t h1 h2
 ·have l1:=(Ze_.mp h1).1
  rw [Zv_] at l1
  have e:i=as.length:=by
   have:[a].length=1:=rfl
   omega
  subst e
  rw [ZD (Zd_ _),Nat.sub_self] at h1
  rw [h.1,ZD (Zd_ _),Nat.sub_self] at h2
  obtain rfl:a=b:=Θo h1
  obtain rfl:s=t:=Θo h2
  exact ha
theorem BitsAt.app {H:Hp} {m:Nat} {as bs:List Addr} {S U:List Nat} (h:BitsAt H m as S) (g:BitsAt H m bs U):BitsAt H m (as++bs) (S++U):=by
 refine ⟨by rw [Zv_,Zv_,h.1,g.1],fun i b t h1 h2=>?_⟩
 by_cases c:i < as.length
 ·rw [List.getElem?_append_left c] at h1
  rw [List.getElem?_append_left (by rw [<-h.1]; exact c)] at h2
  exact h.2 i b t h1 h2
 ·rw [ZD (Nat.le_of_not_lt c)] at h1
  rw [ZD (by rw [<-h.1]; exact Nat.le_of_not_lt c),<-h.1] at h2
  exact g.2 _ b t h1 h2
theorem BitsAt.but {H H':Hp} {m:Nat} {st:Addr} {as:List Addr} {S:List Nat} (h:BitsAt H m as S) (e:But st H H') (n:∀a∈as,a≠st):BitsAt H' m as S:=⟨h.1,fun i a s h1 h2=>e _ _ (h.2 i a s h1 h2) (n a (Θe h1))⟩
noncomputable def NmOk (H:Hp) (ps:List NM):Prop:=(∀p∈ps,H p.1=some (.tup [.int p.2.1,.int (p.2.2 - p.2.1)]))/\∀p∈ps,p.2.1 < p.2.2
theorem NmOk.snoc {H H':Hp} {ps:List NM} {t:Addr} {lo d:Int} (h:NmOk H ps) (k:∀t xs,H t=some (.tup xs)->H' t=some (.tup xs)) (ht:H' t=some (.tup [.int lo,.int d])) (hd:0 < d):NmOk H' (ps++[(t,lo,lo + d)]):=by
 constructor <;> intro p hp <;> rcases Θa hp with hp | hp
 ·exact k _ _ (h.1 p hp)
 ·rw [Θs hp]
  show H' t=some (.tup [.int lo,.int (lo + d - lo)])
  rw [show lo + d - lo=d by omega]
  exact ht
 ·exact h.2 p hp
 ·rw [Θs hp]
  show lo < lo + d
  omega
theorem NmOk.tup {H H':Hp} {ps:List NM} (h:NmOk H ps) (k:∀t xs,H t=some (.tup xs)->H' t=some (.tup xs)):NmOk H' ps:=⟨fun p hp=>k _ _ (h.1 p hp),h.2⟩
theorem Aci {s b c:Nat}:(if E3 s c=true then 1 else 0)|||(if E3 b c=true then 1 else 0)=if E3 (s|||b) c=true then 1 else (0:Nat):=by
 have e:E3 (s|||b) c=(E3 s c || E3 b c):=by rw [O3,O3,O3,Nat.testBit_or]
 rw [e]
 cases E3 s c <;> cases E3 b c <;> rfl
noncomputable def Ga (K:Θf):Sp:=fun vs H Q _=>∃(st:Addr) (ns:List Int) (k:Nat),vs=[.ref st]/\STF K H st ns k/\k<=1000/\ns.length<=63/\
 ∀(t p:Addr) (m:Nat) (rs:List Rl) (k':Nat) (H':Hp),1<=m->m<=7->rs.length<=12->RulesAt H' m rs->H' t=some (.tup [vN m,.ref p])->H' p=some (.lst (rs.map fun r=>V.ref r.r))->H p=none->p≠st->k'<=k + 100->STF K H' st ns k'->But st H H'->Q (.ref t) H'
noncomputable def Cf (K:Θf):Sp:=fun vs H Q _=>∃(st bl:Addr) (ns:List Int) (k m:Nat) (os:List Nat),vs=[.ref st,vN m,.ref bl]/\STF K H st ns k/\k<=1000/\ns.length<=63/\1<=m/\m<=7/\SqL K H bl (os.map vN)/\
 ∀(tb:Addr) (T:List RW) (lo hi:Nat->Int) (k':Nat) (H':Hp),(∀c,lo c≠hi c)->(T.map (·.2)).Perm ((List.range (2 ^ (os.take 4).length)).map (P8 m lo hi (os.take 4)))->H tb=none->H' tb=some (.lst (C0 T))->RowsOk H' m T->k'<=k + 100->STF K H' st ns k'->But st H H'->tb≠st->Q (.ref tb) H'
end L2
namespace Own
open PySem L2
section
variable {P:Program} {w:World} {K:Θf} {mg:Str->Option Value} {base:Heap}
seal PySem.wpAny
noncomputable def Ph (K:Θf):Sp:=fun vs H Q _=>∃(a:Addr) (ns:List Int),vs=[.ref a]/\SqF K H a ns/\ns.length<=63/\∀H',Q (.bl true) H'
noncomputable abbrev Ry:Stmt:=top 55
theorem scLaw:FnScope ["_law_script","_law_state","_law_many","_law_rules_here","_law_tree_here","_law_some","_law_k","_law_blocks","_law_rows"] ["_law_script"] (C3 Ry):=⟨rfl,rfl,rfl,by decide +kernel,rfl,by decide +kernel,by decide +kernel⟩
theorem Ab6 {f fT fTB fTR fND fUN fS fCH fKP fKE fBK fRU fDR:Addr} {fd fdT fdTB fdTR fdND fdUN fdS fdCH fdKP fdKE fdBK fdRU fdDR:FuncData} (F:Fun K "law" "law" Ry f fd) (GT:FnOk P w K mg base CX0 1 fT fdT ["_law_state","_law_most"] (U9 K)) (mT:mg "_law_take" = some (.ref fT)) (kT:Θk K fT) (bT:Binds K fdT ["_law_state","_law_most"] []) (GTB:FnOk P w K mg base CX0 4 fTB fdTB ["_law_state"] (Ga K)) (mTB:mg "_law_table" = some (.ref fTB)) (kTB:Θk K fTB) (bTB:Binds K fdTB ["_law_state"] []) (GTR:FnOk P w K mg base CX0 136 fTR fdTR ["_law_many","_law_rules_here"] (Kr K)) (mTR:mg "_law_tree" = some (.ref fTR)) (kTR:Θk K fTR) (bTR:Binds K fdTR ["_law_many","_law_rules_here"] []) (GND:FnOk P w K mg base CX0 1 fND fdND ["_law_tree_here"] (Pi K)) (mND:mg "_law_nodes" = some (.ref fND)) (kND:Θk K fND) (bND:Binds K fdND ["_law_tree_here"] []) (GUN:FnOk P w K mg base CX0 3 fUN fdUN ["many","rules","some"] (Ao K)) (mUN:mg "unfolded" = some (.ref fUN)) (kUN:Θk K fUN) (bUN:Binds K fdUN ["many","rules","some"] []) (GS:FnOk P w K mg base CX0 2 fS fdS ["_law_state","_law_many"] (Mu K)) (mS:mg "_law_set" = some (.ref fS)) (kS:Θk K fS) (bS:Binds K fdS ["_law_state","_law_many"] []) (GCH:FnOk P w K mg base CX0 2 fCH fdCH ["_law_state","_law_many","_law_blocks"] (Cf K)) (mCH:mg "_law_choices" = some (.ref fCH)) (kCH:Θk K fCH) (bCH:Binds K fdCH ["_law_state","_law_many","_law_blocks"] []) (GKP:FnOk P w K mg base CX0 9 fKP fdKP ["book","rules"] (Pg K)) (mKP:mg "keeps" = some (.ref fKP)) (kKP:Θk K fKP) (bKP:Binds K fdKP ["book","rules"] []) (GKE:FnOk P w K mg base CX0 135 fKE fdKE ["_law_rows","_law_some"] (Ko K)) (mKE:mg "_law_kept" = some (.ref fKE)) (kKE:Θk K fKE) (bKE:Binds K fdKE ["_law_rows","_law_some"] []) (GBK:FnOk P w K mg base CX0 3 fBK fdBK ["_law_state","_law_many","_law_size"] (Wy K)) (mBK:mg "_law_book" = some (.ref fBK)) (kBK:Θk K fBK) (bBK:Binds K fdBK ["_law_state","_law_many","_law_size"] []) (GRU:FnOk P w K mg base CX0 3 fRU fdRU ["_law_state","_law_many","_law_count"] (Ik K)) (mRU:mg "_law_rules" = some (.ref fRU)) (kRU:Θk K fRU) (bRU:Binds K fdRU ["_law_state","_law_many","_law_count"] []) (GDR:FnOk P w K mg base CX0 135 fDR fdDR ["_law_rows","_law_some"] (Fy K)) (mDR:mg "_law_drawn_right" = some (.ref fDR)) (kDR:Θk K fDR) (bDR:Binds K fdDR ["_law_rows","_law_some"] []) (zlist:mg "list" = none) (zrange:mg "range" = none) (zlen:mg "len" = none) (zint:mg "int" = none):FnOk P w K mg base CX0 137 f fd ["_law_script"] (Ph K):=by
 refine F.ok scLaw (fun vs H Q E h=>?_) (fun cdv A outer s H vs Q E hr h=>?_)
 ·obtain ⟨a,ns,rfl,_⟩:=h
  rfl
 ·obtain ⟨a,ns,rfl,hS,hlen,q⟩:=h
  have nd:=scLaw.nd
  have hr1:Room 1 _:=hr.mono (by decide)
  have hr2:Room 2 _:=hr.mono (by decide)
  have hr3:Room 3 _:=hr.mono (by decide)
  have hr4:Room 4 _:=hr.mono (by decide)
  have hr9:Room 9 _:=hr.mono (by decide)
  have hrK:Room 135 _:=hr.mono (by decide)
  have hrT:Room 136 _:=hr.mono (by decide)
  refine ⟨_,(A9 (D1 (i:=1) nd rfl (Or.inl rfl) (G8 (A0 (pv 0) (A0 B0 A6))))
   (A9 (Hm (C2 GTB hr4 rfl mTB kTB bTB .nil C8 (A0 (pv 1) A6)) (Hk rfl (M3 (D5 (i:=2) nd rfl (Or.inl rfl)) (M3 (D5 (i:=3) nd rfl (Or.inl rfl)) Cu))))
   (A9 (D1 (i:=4) nd rfl (Or.inl rfl) (C2 GTR hrT rfl mTR kTR bTR .nil C8 (A0 (pv 2) (A0 (pv 3) A6))))
   (A9 (F8 (D8 Vd (pv 4) N6 (D9 _)) (C1 (D0 X8)) E1)
   (A9 (D1 (i:=5) nd rfl (Or.inl rfl) (C2 GND hr1 rfl mND kND bND .nil C8 (A0 (pv 4) A6)))
   (A9 (I8 PassesOwn.never rfl (G9 rfl zrange (A0 B0 A6)) (D5 (i:=6) nd rfl (Or.inl rfl)) (A9 (D1 (i:=7) nd rfl (Or.inl rfl) (D7 (D2 (K:=K) rfl) (C2 GUN hr3 rfl mUN kUN bUN .nil C8 (A0 (pv 2) (A0 (E5 (K7 (K:=K) rfl) (by rfl) zlist PyProof.Rows.boot_list (A0 (pv 3) A6)) (A0 (C2 GS hr2 rfl mS kS bS .nil C8 (A0 (pv 1) (A0 (pv 2) A6))) A6)))) B0 (fun _ _=>rfl)))
   (A9 (D1 (i:=8) nd rfl (Or.inl rfl) (C2 GCH hr2 rfl mCH kCH bCH .nil C8 (A0 (pv 1) (A0 (pv 2) (A0 (pv 7) A6)))))
   (A9 (D1 (i:=8) nd rfl (Or.inl rfl) (D6 X4 (pv 8) (D6 Acg (O1 Q5 (pv 8) Q2 (Q3 (C2 GT hr1 rfl mT kT bT .nil C8 (A0 (pv 1) (A0 B0 A6))))) (E5 Z9 (by rfl) zint PyProof.Rows.boot_int (A0 (P1 Ve (F2 (G0 (K:=K) rfl) (by rfl) zlen PySem.boot_len (A0 (pv 8) A6)) B0 (D9 _)) A6)))))
   (C1 (F8 (PW.pt (Vt (Hn (V2 (C2 GKP hr9 rfl mKP kKP bKP .nil C8 (A0 (E5 (K7 (K:=K) rfl) (by rfl) zlist PyProof.Rows.boot_list (A0 (pv 8) A6)) (A0 (E5 (K7 (K:=K) rfl) (by rfl) zlist PyProof.Rows.boot_list (A0 (pv 3) A6)) A6))))) (Vu (Hn (V2 (C2 GKE hrK rfl mKE kKE bKE .nil C8 (A0 (pv 8) (A0 (pv 5) A6)))))))) (C1 (D0 X8)) E1))))))
   (A9 (D1 (i:=8) nd rfl (Or.inl rfl) (C2 GBK hr3 rfl mBK kBK bBK .nil C8 (A0 (pv 1) (A0 (pv 2) (A0 (D6 X2 B0 (D6 Zd (C2 GT hr1 rfl mT kT bT .nil C8 (A0 (pv 1) (A0 B0 A6))) (E5 Z9 (by rfl) zint PyProof.Rows.boot_int (A0 (P1 Ve (pv 2) B0 (D9 _)) A6)))) A6)))))
   (A9 (F8 (D8 Bu (C2 GT hr1 rfl mT kT bT .nil C8 (A0 (pv 1) (A0 B0 A6))) B0 (D9 _)) (A9 (D1 (i:=4) nd rfl (Or.inl rfl) (C2 GTR hrT rfl mTR kTR bTR .nil C8 (A0 (pv 2) (A0 (C2 GRU hr3 rfl mRU kRU bRU .nil C8 (A0 (pv 1) (A0 (pv 2) (A0 (C2 GT hr1 rfl mT kT bT .nil C8 (A0 (pv 1) (A0 B0 A6))) A6)))) A6))))
   (C1 (F8 (D8 Bk (pv 4) N6 (D9 _)) (C1 (D1 (i:=5) nd rfl (Or.inl rfl) (C2 GND hr1 rfl mND kND bND .nil C8 (A0 (pv 4) A6)))) E1))) E1)
   (C1 (D0 (C2 GDR hrK rfl mDR kDR bDR .nil C8 (A0 (pv 8) (A0 (D6 X4 (O1 Q5 (pv 5) Q2 (Q3 B0)) (O1 Q5 (pv 5) (Q3 (D6 Ft (F2 (G0 (K:=K) rfl) (by rfl) zlen PySem.boot_len (A0 (pv 5) A6)) B0)) Q2)) A6))))))))))))),?_⟩
  refine ⟨_,rfl,(by show 2<=sizeLine; decide),fun st hst=>?_⟩
  have S0:=STF.start hS hst
  generalize upd H st (.lst [.ref a,.int 0])=H0 at S0
  refine ⟨_,rfl,st,ns,0,rfl,S0,by omega,hlen,fun t rp m rs k1 H1 m1 m7 lrs hRs ht hrp hrp0 nrp hk1 S1 B1=>?_⟩
  refine ⟨t,_,rfl,SqT.of ht,rfl,_,_,rfl,_,_,rfl,rfl,?_⟩
  have pw0:0 < 2 ^ m:=Nat.two_pow_pos m
  refine ⟨_,rfl,_,rfl,m,rp,rs,rfl,m7,SqL.of hrp,hRs,by omega,fun H2 s2=>?_,fun vt H2 s2 c60 tv=>?_⟩
  ·exact ⟨_,rfl,rfl,_,rfl,Y1 (q _)⟩
  obtain ⟨ta,tx,rfl,hta,_⟩:=P9 tv
  refine ⟨_,rfl,rfl,_,rfl,V1 ?_⟩
  refine ⟨_,rfl,.ref ta,_,rfl,tv,c60,fun nl ts us H3 s3 hnl0 hnl tsv fst sub l60=>?_⟩
  have s13:=s2.trans s3
  have S3:=S1.same s13
  have nnl:nl≠st:=(F1 (S1.same s2) (But.refl _ _) hnl0).2
  have nok:NodesOk m (rs.map Rl.d) ts:=fun t' h=>Bo _ _ (Zd_ _) (by omega) t' (sub t' h)
  have lts:1<=ts.length:=by
   have:=(Ze_.mp fst).1
   omega
  have L0:L63 K st rp nl ns m rs ts us k1 H3:=⟨S3,s13 _ _ hrp,hRs.same s13,hnl,tsv⟩
  have vt:V:=.ref ta
  refine ⟨3,rfl,by decide,by decide,U3 (n:=3) (fun i σ H'=>(∃v6 v7 v8,σ=[some (.ref a),some (.ref st),some (vN m),some (.ref rp),some (.ref ta),some (.ref nl),v6,v7,v8])/\∃k',k'<=k1 + 150 * i/\L63 K st rp nl ns m rs ts us k' H') ⟨⟨_,_,_,rfl⟩,k1,by omega,L0⟩ ?_ ?_⟩
  ·clear L0 S3 hnl tsv tv hta ht hrp hRs S1 B1 S0
   rintro i σ H4 hi ⟨⟨v6,v7,v8,rfl⟩,k4,hk4,L4⟩
   refine ⟨_,rfl,_,rfl,rp,_,rfl,.inl (SqL.of L4.hrp),fun hd hhd=>?_⟩
   have s5:=Same.new (o:=.lst (rs.map fun (r:Rl)=>V.ref r.r)) hhd
   have hhd5:(upd H4 hd (.lst (rs.map fun (r:Rl)=>V.ref r.r))) hd=some (.lst (rs.map fun (r:Rl)=>V.ref r.r)):=A8
   have nhd:hd≠st:=(F1 L4.S (But.refl _ _) hhd).2
   have L5:=L4.same s5
   generalize upd H4 hd (.lst (rs.map fun (r:Rl)=>V.ref r.r))=H5 at hhd5 L5
   refine ⟨_,rfl,_,rfl,st,ns,k4,m,rfl,L5.S,by omega,hlen,m1,m7,fun x k6 H6 hx hk6 S6 B6=>?_⟩
   have L6:=L5.but nrp nnl S6 B6
   refine ⟨m,x,hd,rs,rfl,m7,hx,SqL.of (B6 _ _ hhd5 nhd),L6.hRs,by omega,fun t2 bp qa u sw H7 R s7 ht2 ht2' hbp hbp' hq hq' st1 e1 l1 n1=>?_⟩
   refine ⟨t2,_,_,_,rfl,rfl,SqT.of ht2',C4 (j:=1) rfl,?_⟩
   have L7:=L6.same s7
   refine ⟨_,rfl,_,rfl,_,rfl,st,bp,ns,k6,m,u.bs,rfl,L7.S,by omega,hlen,m1,m7,SqL.of hbp',fun tb T lo hi' k8 H8 lh pr htb0 htb hT hk8 S8 B8 ntb=>?_⟩
   have CT:ChT m (rs.map Rl.d) (u.bs.take 4) lo hi' T:=⟨Abf (R.blocks hx) 4,lh,pr⟩
   have lT:T.length<=16:=by
    rw [CT.len]
    exact Nat.pow_le_pow_right (by decide) (List.length_take_le _ _)
   have lT1:1<=T.length:=by rw [CT.len]; exact Nat.two_pow_pos _
   have L8:=L7.but nrp nnl S8 B8
   clear hq' hbp' ht2' L7 L6 L5 L4 S6 B6 S8 B8 hhd5
   have lrf:(C0 T).length=T.length:=Θl ..
   refine ⟨_,rfl,_,rfl,_,rfl,st,ns,k8,2,rfl,L8.S,by omega,hlen,by decide,fun r9 H9 a9 b9 S9 B9=>?_⟩
   obtain ⟨j9,rfl,hj9⟩:=K9 (n:=2) a9 b9
   have L9:=L8.but nrp nnl S9 B9
   have htb9:=B9 _ _ htb ntb
   have hT9:RowsOk H9 m T:=fun r hr'=>⟨K4 L8.S B9 (hT r hr').1,(hT r hr').2⟩
   refine ⟨(j9:Int),rfl,tb,_,rfl,SqL.of htb9,fun sp hsp=>?_⟩
   rw [Y5]
   have sA:=Same.new (o:=.lst ((C0 T).take j9)) hsp
   have hspA:(upd H9 sp (.lst ((C0 T).take j9))) sp=some (.lst ((C0 T).take j9)):=A8
   have LA:=L9.same sA
   have htbA:=sA _ _ htb9
   have hTA:=hT9.same sA
   generalize upd H9 sp (.lst ((C0 T).take j9))=HA at sA hspA LA htbA hTA
   refine ⟨_,rfl,tb,_,rfl,.inl (SqL.of htbA),(C0 T).length,16,rfl,rfl,.inr ⟨_,rfl,?_⟩⟩
   obtain ⟨e,ee,he⟩:∃e:Nat,(if decide ((C0 T).length < 16)=true then (1:Int) else 0)=(e:Int)/\e<=1:=by
    split
    ·exact ⟨1,rfl,by decide⟩
    ·exact ⟨0,rfl,by decide⟩
   dsimp only
   rw [ee]
   have ltk:((C0 T).take j9).length<=1:=Zo_ (List.length_take_le _ _) (by omega)
   obtain ⟨D,hD,lD,eD⟩:∃D:List RW,(∀r∈D,r∈T)/\D.length<=1/\(List.replicate ((e:Int)).toNat ((C0 T).take j9)).flatten=C0 D:=by
    match e,he with
    | 0,_=>exact ⟨[],(fun r h=>absurd h Zi_),Zp_ _,rfl⟩
    | 1,_=>
     refine ⟨T.take j9,fun r h=>List.mem_of_mem_take h,Zo_ (List.length_take_le _ _) (by omega),?_⟩
     show (List.replicate 1 _).flatten=_
     unfold C0
     rw [List.map_take]
     simp
   refine ⟨sp,(e:Int),(C0 T).take j9,rfl,rfl,hspA,by omega,by omega,Nat.le_of_lt (E2 (by rw [Int.toNat_natCast]; have:=Nat.mul_le_mul ltk he; omega)),fun dp hdp=>?_⟩
   rw [eD]
   have sB:=Same.new (o:=.lst (C0 D)) hdp
   have hdpB:(upd HA dp (.lst (C0 D))) dp=some (.lst (C0 D)):=A8
   have LB:=LA.same sB
   have htbB:=sB _ _ htbA
   have hTB:=hTA.same sB
   generalize upd HA dp (.lst (C0 D))=HB at sB hdpB LB htbB hTB
   have lrd:(C0 D).length=D.length:=Θl ..
   refine ⟨tb,dp,C0 T,C0 D,rfl,rfl,htbB,hdpB,Nat.le_of_lt (E2 (by rw [lrf,lrd]; omega)),fun tc htc=>?_⟩
   have er:C0 T++C0 D=C0 (T++D):=by unfold C0; rw [List.map_append]
   rw [er]
   have sC:=Same.new (o:=.lst (C0 (T++D))) htc
   have htcC:(upd HB tc (.lst (C0 (T++D)))) tc=some (.lst (C0 (T++D))):=A8
   have LC:=LB.same sC
   have hTC0:=hTB.same sC
   generalize upd HB tc (.lst (C0 (T++D)))=HC at sC htcC LC hTC0
   have sub:∀r∈T++D,r∈T:=fun r h=>(Θa h).elim id (hD r)
   have hTC:RowsOk HC m (T++D):=fun r h=>hTC0 r (sub r h)
   have lU:(T++D).length<=17:=by rw [Zv_]; omega
   have lU1:1<=(T++D).length:=by rw [Zv_]; omega
   have few:=Jk m7 CT sub
   have rokU:∀r∈rs,ROk (T++D) r.st r.x r.y:=fun r hr'=>Wb (r1:=T) (fun k=>⟨fun h=>by
    obtain ⟨w,hw,rfl⟩:=Θn h
    exact Θm ⟨w,Zt_ _ hw,rfl⟩,fun h=>by
    obtain ⟨w,hw,rfl⟩:=Θn h
    exact Θm ⟨w,sub w hw,rfl⟩⟩) (CT.rok fun b hb=>(CT.chs.kept b hb).2.2 r.d (Θm ⟨r,hr',rfl⟩))
   clear hTC0 hTB htbB LB hdpB sB hTA htbA LA hspA sA hT9 htb9 L9 L8 hT htb
   generalize T++D=U at htcC hTC lU lU1 few rokU
   refine ⟨_,rfl,tc,_,rfl,.inl (SqL.of htcC),fun h1 hh1=>?_⟩
   have s6:=Same.new (o:=.lst (C0 U)) hh1
   refine ⟨_,rfl,rp,_,rfl,.inl (SqL.of (s6 _ _ LC.hrp)),fun h2 hh2=>?_⟩
   have s7:=Same.new (o:=.lst (rs.map fun (r:Rl)=>V.ref r.r)) hh2
   have s57:=s6.trans s7
   refine ⟨h1,h2,U,rs,m,rfl,⟨SqL.of (s7 _ _ A8),hTC.same s57,m1,m7,by omega⟩,SqL.of A8,by omega,(fun r hr'=>(LC.hRs.same s57) r hr'),fun kb HD sD iff=>⟨_,rfl,?_⟩⟩
   obtain rfl:kb=true:=iff.mpr rokU
   refine V1 ?_
   have s58:=s57.trans sD
   have LD:=LC.same s58
   have rokD:∀r∈rs.map Rl.d,ROk U r.1 r.2.1 r.2.2:=fun r hr'=>by
    obtain ⟨r',h1,rfl⟩:=Θn hr'
    exact rokU r' h1
   refine ⟨_,rfl,_,rfl,tc,nl,U,ts,us,m,rs.map Rl.d,rfl,SqL.of (s58 _ _ htcC),hTC.same s58,m1,m7,lU1,by omega,SqL.of LD.hnl,LD.tv,lts,l60,nok,rokD,few,fun HE sE=>⟨_,rfl,?_⟩⟩
   exact V1 ⟨⟨_,_,_,rfl⟩,k8 + 1,by omega,LD.same sE⟩
  ·clear L0 S3 hnl tsv tv hta ht hrp hRs S1 B1 S0
   rintro σ H4 ⟨⟨v6,v7,v8,rfl⟩,k4,hk4,L4⟩
   refine ⟨_,rfl,_,rfl,_,rfl,st,ns,k4,2,rfl,L4.S,by omega,hlen,by decide,fun r5 H5 a5 b5 S5 B5=>?_⟩
   obtain ⟨n5,rfl,hn5⟩:=K9 (n:=2) a5 b5
   have L5:=L4.but nrp nnl S5 B5
   refine ⟨_,rfl,m,6,rfl,rfl,.inr ⟨_,rfl,?_⟩⟩
   obtain ⟨e,ee,he⟩:∃e:Nat,(if decide (m < 6)=true then (1:Int) else 0)=(e:Int)/\(e=0\/e=1/\m < 6):=by
    by_cases z:m < 6
    ·exact ⟨1,by rw [if_pos (Zr_ z)]; rfl,.inr ⟨rfl,z⟩⟩
    ·exact ⟨0,by rw [if_neg (by rw [decide_eq_false z]; exact Zf_)]; rfl,.inl rfl⟩
   dsimp only
   rw [ee]
   have n3:n5 * e<=1:=by rcases he with rfl | ⟨rfl,_⟩ <;> omega
   refine ⟨n5,e,rfl,rfl,(by show n5 < 2 ^ 64; omega),2,n5 * e,rfl,rfl,st,ns,k4 + 1,m,2 + n5 * e,rfl,L5.S,by omega,hlen,m1,m7,by omega,fun ta2 ra p6 k6 H6 lra hra hk6 hp60 hp6 RA S6 B6=>?_⟩
   have L6:=L5.but nrp nnl S6 B6
   obtain ⟨ez,Rz,lz⟩:=Mg RA hra
   rw [<-ez] at hp6
   have np6:p6≠st:=fun z=>by
    obtain ⟨o,ho⟩:=L5.S.some
    rw [<-z,hp60] at ho
    cases ho
   have few:W1 ((ta2.zip ra).map (·.2)) m:=by
    rcases he with rfl | ⟨rfl,h6⟩
    ·exact Jl (n:=2) (by decide) (by omega) (Xj m7)
    ·exact Jl (n:=3) (by decide) (by omega) (Sn (by omega))
   have lU1:1<=(ta2.zip ra).length:=by omega
   have lU:(ta2.zip ra).length<=20:=by omega
   clear RA hra lra ez lz
   generalize ta2.zip ra=U at hp6 Rz few lU1 lU
   refine ⟨_,rfl,st,ns,k6,2,rfl,L6.S,by omega,hlen,by decide,fun r7 H7 a7 b7 S7 B7=>?_⟩
   obtain ⟨n7,rfl,hn7⟩:=K9 (n:=2) a7 b7
   have L7:=L6.but nrp nnl S7 B7
   have hp7:=B7 _ _ hp6 np6
   have R7:RowsOk H7 m U:=fun r hr'=>⟨K4 L6.S B7 (Rz r hr').1,(Rz r hr').2⟩
   have F0:Sw m U p6 nl H7:=⟨ts,us,rs.map Rl.d,L7.hnl,L7.tv,l60,nok,hp7,R7⟩
   refine ⟨n7,0,rfl,rfl,_,rfl,M9 (fun _=>?ga) (fun _=>?gb)⟩
   case' gb=>
    clear L7 L6 L5 L4 S7 B7 S6 B6 S5 B5 Rz hp6 hp7 R7 nok sub fst lts
    revert F0
    generalize nl=nx
    generalize H7=HX
    generalize V.ref ta=vx
    intro F0
   case' ga=>
    refine ⟨_,rfl,_,rfl,_,rfl,_,rfl,st,ns,k6 + 1,7,rfl,L7.S,by omega,hlen,by decide,fun r8 H8 a8 b8 S8 B8=>?_⟩
    obtain ⟨n8,rfl,hn8⟩:=K9 (n:=7) a8 b8
    have L8:=L7.but nrp nnl S8 B8
    have hp8:=B8 _ _ hp7 np6
    have R8:RowsOk H8 m U:=fun r hr'=>⟨K4 L7.S B8 (R7 r hr').1,(R7 r hr').2⟩
    refine ⟨st,ns,k6 + 2,m,n8,rfl,L8.S,by omega,hlen,m1,m7,by omega,fun rs2 rp2 k9 H9 lr2 hR2 hk9 hrp20 hrp2 S9 B9=>?_⟩
    have L9:=L8.but nrp nnl S9 B9
    have hp9:=B9 _ _ hp8 np6
    have R9:RowsOk H9 m U:=fun r hr'=>⟨K4 L8.S B9 (R8 r hr').1,(R8 r hr').2⟩
    refine ⟨m,rp2,rs2,rfl,m7,SqL.of hrp2,hR2,by omega,fun HA sA=>?gc,fun v HA sA c60' tv'=>?gd⟩
   case' gc=>
    refine ⟨_,rfl,rfl,_,rfl,V1 ?_⟩
    have FA:Sw m U p6 nl HA:=⟨ts,us,rs.map Rl.d,sA _ _ L9.hnl,L9.tv.same sA,l60,nok,sA _ _ hp9,R9.same sA⟩
    clear F0 L9 L8 L7 L6 L5 L4 S9 B9 S8 B8 S7 B7 S6 B6 S5 B5 Rz hp6 hp7 hp8 hp9 R7 R8 R9 nok sub fst lts sA
    have F0:=FA
    clear FA
    revert F0
    generalize nl=nx
    generalize HA=HX
    generalize V.non=vx
    intro F0
   case' gd=>
    obtain ⟨tc,tx2,rfl,htc,_⟩:=P9 tv'
    refine ⟨_,rfl,rfl,_,rfl,Y1 ?_⟩
    refine ⟨_,rfl,.ref tc,_,rfl,tv',c60',fun nl2 ts2 us2 HB sB hnl20 hnl2 tsv2 fst2 sub2 l602=>?_⟩
    have FA:Sw m U p6 nl2 HB:=⟨ts2,us2,rs2.map Rl.d,hnl2,tsv2,l602,(fun t' h=>Bo _ _ (Zd_ _) (by omega) t' (sub2 t' h)),(sA.trans sB) _ _ hp9,R9.same (sA.trans sB)⟩
    clear F0 L9 L8 L7 L6 L5 L4 S9 B9 S8 B8 S7 B7 S6 B6 S5 B5 Rz hp6 hp7 hp8 hp9 R7 R8 R9 nok sub fst lts tv' htc hnl2 tsv2 fst2 sub2 l602 sA sB
    have F0:=FA
    clear FA
    revert F0
    generalize nl2=nx
    generalize HB=HX
    generalize V.ref tc=vx
    intro F0
   all_goals
    obtain ⟨ts3,us3,rs3,hn3,tv3,l3,nok3,hp3,R3⟩:=F0
    have lu3:=tv3.len
    refine ⟨_,rfl,_,rfl,((1:Nat):Int),rfl,nx,_,rfl,SqL.of hn3,fun q1 hq1=>?_⟩
    rw [Y5]
    have t1:=Same.new (o:=.lst (us3.take 1)) hq1
    have hq1':(upd HX q1 (.lst (us3.take 1))) q1=some (.lst (us3.take 1)):=A8
    generalize upd HX q1 (.lst (us3.take 1))=HY at t1 hq1'
    refine ⟨_,rfl,_,rfl,nx,_,rfl,.inl (SqL.of (t1 _ _ hn3)),us3.length,2,rfl,rfl,⟨by decide,by decide⟩,((us3.length / 2:Nat):Int),rfl,nx,_,rfl,SqL.of (t1 _ _ hn3),fun q2 hq2=>?_⟩
    rw [Ds]
    have t2:=Same.new (o:=.lst (us3.drop (us3.length / 2))) hq2
    have hq2':(upd HY q2 (.lst (us3.drop (us3.length / 2)))) q2=some (.lst (us3.drop (us3.length / 2))):=A8
    have hq1'':=t2 _ _ hq1'
    have t12:=t1.trans t2
    generalize upd HY q2 (.lst (us3.drop (us3.length / 2)))=HZ at t12 hq2' hq1''
    have ld:(us3.take 1).length + (us3.drop (us3.length / 2)).length<=61:=by
     have h1:=List.length_take_le 1 us3
     rw [List.length_drop]
     omega
    refine ⟨q1,q2,us3.take 1,us3.drop (us3.length / 2),rfl,rfl,hq1'',hq2',Nat.le_of_lt (E2 (by omega)),fun q3 hq3=>?_⟩
    have t3:=t12.trans (Same.new (o:=.lst (us3.take 1++us3.drop (us3.length / 2))) hq3)
    refine ⟨p6,q3,U,ts3.take 1++ts3.drop (us3.length / 2),us3.take 1++us3.drop (us3.length / 2),m,rs3,rfl,SqL.of (t3 _ _ hp3),R3.same t3,m1,m7,lU1,lU,SqL.of A8,((tv3.take 1).app (tv3.drop (us3.length / 2))).same t3,?_,fun t' h=>?_,few,fun HW sW=>q _⟩
    ·have h1:=List.length_take_le 1 ts3
     rw [Zv_,List.length_drop]
     omega
    ·rcases Θa h with h | h
     ·exact nok3 t' (List.mem_of_mem_take h)
     ·exact nok3 t' (List.mem_of_mem_drop h)
end
end Own
namespace Own
open PySem L2
section
variable {P:Program} {w:World} {K:Θf} {mg:Str->Option Value} {base:Heap}
seal PySem.wpAny
noncomputable abbrev Acz:Stmt:=top 1
theorem Aef:FnScope ["some","column"] ["some","column"] (C3 Acz):=⟨rfl,rfl,rfl,by decide +kernel,rfl,by decide +kernel,by decide +kernel⟩
theorem Ab5 {f:Addr} {fd:FuncData} (F:Fun K "has_column" "has_column" Acz f fd):FnOk P w K mg base CX0 1 f fd ["some","column"] Xa:=by
 refine F.ok Aef (fun vs H Q E h=>?_) (fun cdv A outer s H vs Q E hr h=>?_)
 ·obtain ⟨a,k,rfl,_⟩:=h
  rfl
 ·obtain ⟨a,k,rfl,q⟩:=h
  refine ⟨_,C1 (D0 (P1 op_eq (D6 op_and (D6 Ach (pv 0) (pv 1)) B0) B0 (D9 _))),?_⟩
  refine ⟨_,rfl,_,rfl,_,_,rfl,rfl,(by omega),_,_,rfl,rfl,rfl,?_⟩
  show Q (V.bl (decide (V.int (Builtin.bitAnd ((a:Int) / 2 ^ (k:Int).toNat) 1)=V.int 1))) H
  rw [Abp]
  exact q
noncomputable abbrev Oy:Stmt:=top 2
theorem Ac4:FnScope ["some"] ["some"] (C3 Oy):=⟨rfl,rfl,rfl,by decide +kernel,rfl,by decide +kernel,by decide +kernel⟩
theorem Ys {f fH:Addr} {fd fdH:FuncData} (F:Fun K "columns_of" "columns_of" Oy f fd) (GH:FnOk P w K mg base CX0 1 fH fdH ["some","column"] Xa) (mH:mg "has_column" = some (.ref fH)) (kH:Θk K fH) (bH:Binds K fdH ["some","column"] []) (zR:mg "range" = none):FnOk P w K mg base CX0 2 f fd ["some"] Mt:=by
 refine F.ok Ac4 (fun vs H Q E h=>?_) (fun cdv A outer s H vs Q E hr h=>?_)
 ·obtain ⟨a,rfl,_⟩:=h
  rfl
 ·obtain ⟨a,rfl,ha,q⟩:=h
  refine ⟨_,C1 (D0 (M1 (xs:=["column"]) (cs ["some"] (C3 Oy) rfl rfl (by decide +kernel)) rfl (G9 rfl zR (A0 (Vh PySem.F.plainAttrs_int PySem.F.slot_int_bit_length PySem.F.type_int_bit_length Qw (pv 0)) A6))
   (fun _ _ _=>D5 (i:=0) (show (["column","some"]:List Str).Nodup by decide +kernel) rfl (Or.inl rfl)) (fun _ _ _=>Bl (V2 (C2 GH hr rfl mH kH bH .nil C8 (A0 (pv 1) (A0 (pv 0) A6))))) (fun _ _ _=>pv 0))),?_⟩
  refine ⟨_,rfl,rfl,(a:Int),rfl,rfl,_,rfl,(by omega),?_,?_⟩
  ·have:=Dp ha
   show ((Jb a:Nat):Int) < _
   omega
  ·refine Jv (lo:=0) (k:=((Jb a:Nat):Int).toNat) (n:=1) (fun i acc H'=>H' = H/\acc=((List.range i).filter (E3 a)).map vN) ?_ ⟨rfl,rfl⟩ (fun i acc H' hi h=>?_) (fun i acc H' hi h=>?_) (fun acc H' h=>?_)
   ·have:=Dp ha
    omega
   ·rw [h.2,Θl]
    exact Nat.le_trans (List.length_filter_le _ _) (by simp)
   ·obtain ⟨rfl,rfl⟩:=h
    refine ⟨rfl,_,rfl,_,rfl,a,i,?_,_,rfl,?_⟩
    ·show [vN a,V.int (0 + (i:Int))]=_
     rw [Int.zero_add]; rfl
    ·refine M9 (fun hc=>?_) (fun hc=>?_)
     ·refine ⟨_,rfl,rfl,?_⟩
      rw [V5,if_pos hc,Zw_,Int.zero_add]
      rfl
     ·refine ⟨rfl,?_⟩
      rw [V5,if_neg hc,List.append_nil]
   ·obtain ⟨rfl,rfl⟩:=h
    intro p hp
    exact q p hp
noncomputable abbrev Acy:Stmt:=top 3
theorem Aee:FnScope ["many"] ["many"] (C3 Acy):=⟨rfl,rfl,rfl,by decide +kernel,rfl,by decide +kernel,by decide +kernel⟩
theorem Ab3 {f:Addr} {fd:FuncData} (F:Fun K "all_of" "all_of" Acy f fd):FnOk P w K mg base CX0 1 f fd ["many"] Db:=by
 refine F.ok Aee (fun vs H Q E h=>?_) (fun cdv A outer s H vs Q E hr h=>?_)
 ·obtain ⟨m,rfl,_⟩:=h
  rfl
 ·obtain ⟨m,rfl,hm,q⟩:=h
  refine ⟨_,C1 (D0 (D6 Ei (D6 op_shl B0 (pv 0)) B0)),?_⟩
  refine ⟨_,rfl,_,_,rfl,rfl,Tg hm,_,_,rfl,rfl,?_⟩
  show Q (V.int (1 * 2 ^ (m:Int).toNat - 1)) H
  have pw:0 < 2 ^ m:=Nat.two_pow_pos m
  have e:(1:Int) * 2 ^ (m:Int).toNat - 1=((2 ^ m - 1:Nat):Int):=by rw [Ac7]; omega
  rw [e]
  exact q
noncomputable abbrev Ig:Stmt:=top 4
noncomputable def Kt:Sp:=fun vs H Q _=>∃a b:Nat,vs=[.int (a:Int),.int (b:Int)]/\Q (.bl (decide (a&&&b=a))) H
theorem Wt:FnScope ["one","other"] ["one","other"] (C3 Ig):=⟨rfl,rfl,rfl,by decide +kernel,rfl,by decide +kernel,by decide +kernel⟩
theorem Ro {f:Addr} {fd:FuncData} (F:Fun K "is_within" "is_within" Ig f fd):FnOk P w K mg base CX0 1 f fd ["one","other"] Kt:=by
 refine F.ok Wt (fun vs H Q E h=>?_) (fun cdv A outer s H vs Q E hr h=>?_)
 ·obtain ⟨a,b,rfl,_⟩:=h
  rfl
 ·obtain ⟨a,b,rfl,q⟩:=h
  refine ⟨_,C1 (D0 (P1 op_eq (D6 op_and (pv 0) (pv 1)) (pv 0) (D9 _))),?_⟩
  refine ⟨_,rfl,_,rfl,_,_,rfl,rfl,_,rfl,rfl,?_⟩
  show Q (V.bl (decide (V.int (Builtin.bitAnd (a:Int) (b:Int))=V.int (a:Int)))) H
  rw [W3,Az]
  have e:(((a&&&b:Nat):Int) == (a:Int))=decide (a&&&b=a):=by
   rw [Bool.eq_iff_iff,beq_iff_eq,decide_eq_true_iff]
   exact Int.ofNat_inj
  rw [e]
  exact q
noncomputable abbrev Pa:Stmt:=top 5
theorem scMore:FnScope ["sets","some","found","inner"] ["sets","some"] (C3 Pa):=⟨rfl,rfl,rfl,by decide +kernel,rfl,by decide +kernel,by decide +kernel⟩
theorem Yw {f fC:Addr} {fd fdC:FuncData} (F:Fun K "with_one_more" "with_one_more" Pa f fd) (GC:FnOk P w K mg base CX0 2 fC fdC ["some"] Mt) (mC:mg "columns_of" = some (.ref fC)) (kC:Θk K fC) (bC:Binds K fdC ["some"] []) (zsorted:mg "sorted" = none):FnOk P w K mg base CX0 3 f fd ["sets","some"] Pj:=by
 refine F.ok scMore (fun vs H Q E h=>?_) (fun cdv A outer s H vs Q E hr h=>?_)
 ·obtain ⟨p,a,i,rfl,_⟩:=h
  rfl
 ·obtain ⟨p,a,i,rfl,ha,hi,hp,q⟩:=h
  have nd:=scMore.nd
  have hr2:Room 2 _:=hr.mono (by decide)
  obtain ⟨c7,cb⟩:=Aas a ha
  have lr:=Ow a ha i (by omega)
  refine ⟨_,(A9 (D1 (i:=2) nd rfl (Or.inl rfl) (G8 A6))
   (A9 (I8 PassesOwn.never rfl (E7 (K:=K) rfl (pv 0)) (D5 (i:=3) nd rfl (Or.inr rfl)) (C1 (Q4 (Ah PySem.F.plainAttrs_list PySem.F.slot_list_extend PySem.F.type_list_extend Qx (pv 2) (A0 (M1 (xs:=["column"]) (cs ["sets","some","found","inner"] (C3 Pa) rfl rfl (by decide +kernel)) rfl (E7 (K:=K) rfl (C2 GC hr2 rfl mC kC bC .nil C8 (A0 (pv 1) A6))) (fun _ _ _=>D5 (i:=0) (show (["column","sets","some","found","inner"]:List Str).Nodup by decide +kernel) rfl (Or.inl rfl)) (fun _ _ _=>(Bl (D8 Eh (D6 Hh B0 (pv 0)) (pv 4) (D9 _)))) (fun _ _ _=>(D6 Bw (pv 4) (D6 Hh B0 (pv 0))))) A6)))))
   (C1 (D0 (F2 (Gn (K:=K) rfl) (by rfl) zsorted PyProof.Rows.boot_sorted (A0 (pv 2) A6)))))),?_⟩
  refine ⟨Zp_ _,fun fp hfp=>?_⟩
  have s0:=Same.new (o:=.lst []) hfp
  refine ⟨_,rfl,p,rfl,⟨_,SqL.of (s0 _ _ hp)⟩,I9 (K:=K) (xs:=(J9 a i).map vN) (fun j σ H'=>(∃v3:Option V,σ=[some (.ref p),some (vN a),some (.ref fp),v3])/\Same H H'/\H' fp=some (.lst ((Z1 a ((J9 a i).take j)).map vN))) ⟨⟨_,rfl⟩,s0,A8⟩ (fun j σ H' _ h=>SqL.of (h.2.1 _ _ hp)) ?_ ?_⟩
  ·rintro j v σ H1 hv ⟨⟨v3,rfl⟩,s1,hf1⟩
   rw [Θg] at hv
   cases ex:(J9 a i)[j]? with
   | none=>rw [ex] at hv; cases hv
   | some x=>
    rw [ex] at hv
    obtain rfl:=(Θo hv).symm
    refine ⟨_,rfl,.inl ⟨rfl,_,SqL.of hf1⟩,_,rfl,a,rfl,by omega,fun cp hcp=>⟨cp,rfl,⟨_,SqL.of A8⟩,?_⟩⟩
    have sC:=Same.new (o:=.lst ((L1 a).map vN)) hcp
    have hcp2:(upd H1 cp (.lst ((L1 a).map vN))) cp=some (.lst ((L1 a).map vN)):=A8
    generalize upd H1 cp (.lst ((L1 a).map vN))=H2 at sC hcp2
    refine W9 (K:=K) (xs:=(L1 a).map vN) (fun k acc H3=>H3=H2/\acc=((((L1 a).take k).filter fun c=>decide (x < 2 ^ c)).map fun c=>x|||2 ^ c).map vN) (by rw [Θl]; omega) ⟨rfl,rfl⟩ (fun k acc H3 hk h=>?_) (fun k u acc H3 hu h=>?_) (fun acc H3 h=>?_)
    ·obtain ⟨rfl,rfl⟩:=h
     exact ⟨SqL.of hcp2,by rw [Θl,Θl]; exact Zo_ (List.length_filter_le _ _) (List.length_take_le _ _)⟩
    ·obtain ⟨rfl,rfl⟩:=h
     rw [Θg] at hu
     cases ec:(L1 a)[k]? with
     | none=>rw [ec] at hu; cases hu
     | some c=>
      rw [ec] at hu
      obtain rfl:=(Θo hu).symm
      have c1:c < 7:=Zj_ (List.all_eq_true.mp cb c (Θe ec))
      have et:((L1 a).take (k + 1)).filter (fun c=>decide (x < 2 ^ c))=((L1 a).take k).filter (fun c=>decide (x < 2 ^ c))++[c].filter (fun c=>decide (x < 2 ^ c)):=by rw [List.take_succ,ec,<-List.filter_append]; rfl
      refine ⟨rfl,_,rfl,c,rfl,rfl,by omega,_,rfl,2 ^ c,x,rfl,rfl,_,rfl,M9 (fun hb=>?_) (fun hb=>?_)⟩
      ·refine ⟨_,rfl,_,rfl,c,rfl,rfl,by omega,x,2 ^ c,rfl,rfl,rfl,?_⟩
       rw [et,List.filter_cons_of_pos (p:=fun c=>decide (x < 2 ^ c)) hb,Zw_,Zw_]; rfl
      ·refine ⟨rfl,?_⟩
       rw [et,List.filter_cons_of_neg (p:=fun c=>decide (x < 2 ^ c)) hb,List.filter_nil,List.append_nil]
    ·obtain ⟨rfl,rfl⟩:=h
     rw [Θl,List.take_length]
     intro ep hep
     have sE:=Same.new (o:=.lst (((((L1 a).filter fun c=>decide (x < 2 ^ c)).map fun c=>x|||2 ^ c)).map vN)) hep
     have hf3:=(sC.trans sE) _ _ hf1
     have lm:=Fr a ha ((J9 a i).take j)
     have lt:((J9 a i).take j).length<=(J9 a i).length:=List.length_take_le' j _
     have lu:=Kv a x ha
     refine ⟨fp,ep,_,_,rfl,rfl,hf3,A8,Nat.le_of_lt (E2 ?_),?_⟩
     ·rw [Θl,Θl]
      have:(((L1 a).filter fun c=>decide (x < 2 ^ c)).map fun c=>x|||2 ^ c).length<=7:=lu
      omega
     ·refine ⟨⟨_,rfl⟩,(s1.trans (sC.trans sE)).own3 hfp,?_⟩
      rw [A8,Lx ex,Zw_]
      rfl
  ·rintro σ H1 ⟨⟨v3,rfl⟩,s1,hf1⟩
   rw [Θl,List.take_length] at hf1
   have mi:=Ct (Z1 a (J9 a i))
   have l64:((Z1 a (J9 a i)).map fun (k:Nat)=>(k:Int)).length < 64:=by
    rw [Θl,(List.isPerm_iff.mp (Fs a ha i hi)).length_eq]
    have:=Ow a ha (i + 1) (by omega)
    omega
   refine ⟨_,rfl,fp,(Z1 a (J9 a i)).map fun (k:Nat)=>(k:Int),rfl,SqL.of (by rw [mi]; exact hf1),l64,fun l ns' hl pm pw=>?_⟩
   rw [Act ha hi pm pw,Ct]
   exact q l _ (s1.trans (Same.new hl)) (s1.free hl) A8
noncomputable abbrev Hz:Stmt:=top 24
theorem scCanUse:FnScope ["rule","block","taken"] ["rule","block"] (C3 Hz):=⟨rfl,rfl,rfl,by decide +kernel,rfl,by decide +kernel,by decide +kernel⟩
theorem Re {f:Addr} {fd:FuncData} (F:Fun K "can_use" "can_use" Hz f fd):FnOk P w K mg base CX0 1 f fd ["rule","block"] Ks:=by
 refine F.ok scCanUse (fun vs H Q E h=>?_) (fun cdv A outer s H vs Q E hr h=>?_)
 ·obtain ⟨r,st,x,y,b,rfl,_⟩:=h
  rfl
 ·obtain ⟨r,st,x,y,b,rfl,hR,q⟩:=h
  have nd:=scCanUse.nd
  refine ⟨_,(A9 (F8 (D8 Bv (D6 X3 (D7 (D2 (K:=K) rfl) (pv 0) B0 (fun _ _=>rfl)) (pv 1)) B0 (D9 _)) (C1 (D0 X8)) E1)
   (A9 (D1 (i:=2) nd rfl (Or.inl rfl) (D6 X3 (D7 (D2 (K:=K) rfl) (pv 0) B0 (fun _ _=>rfl)) (pv 1)))
   (A9 (F8 (D8 op_eq (D7 (D2 (K:=K) rfl) (pv 0) B0 (fun _ _=>rfl)) U6 (D9 _)) (C1 (D0 (P1 Bv (pv 2) B0 (D9 _)))) E1)
   (C1 (D0 (Acj (P1 Bv (pv 2) B0 (D9 _)) (Acm (P1 Bv (pv 2) (pv 1) (D9 _))))))))),?_⟩
  refine ⟨_,rfl,r,_,_,_,rfl,rfl,SqT.of hR,C4 (j:=1) rfl,_,rfl,x,b,rfl,rfl,x&&&b,0,rfl,rfl,_,rfl,?_⟩
  cases c1:decide (x&&&b=0) with
  | false=>
   refine Y1 ?_
   have:F9 st x y b=false:=by unfold F9; rw [c1]; rfl
   rw [this] at q
   exact q
  | true=>
   refine V1 ?_
   refine ⟨_,rfl,r,_,_,_,rfl,rfl,SqT.of hR,C4 (j:=2) rfl,_,rfl,y,b,rfl,rfl,?_⟩
   refine ⟨_,rfl,r,_,_,_,rfl,rfl,SqT.of hR,C4 (j:=0) rfl,rfl,_,rfl,?_⟩
   cases st with
   | true=>
    refine Y1 ?_
    have:F9 true x y b = !decide (y&&&b=0):=by unfold F9; rw [c1]; simp
    rw [this] at q
    exact ⟨_,rfl,y&&&b,0,rfl,rfl,q⟩
   | false=>
    refine M9 (fun hc=>?_) (fun _=>?_)
    ·exact absurd (Zj_ hc) (by intro z; injection z with z; revert z; decide)
    refine ⟨_,rfl,y&&&b,0,rfl,rfl,_,rfl,?_⟩
    cases c2:decide (y&&&b=0) with
    | true=>
     refine V1 ?_
     have:F9 false x y b=false:=by unfold F9; rw [c1,c2]; rfl
     rw [this] at q
     exact q
    | false=>
     refine Y1 ?_
     have:F9 false x y b = !decide (y&&&b=b):=by unfold F9; rw [c1,c2]; simp
     rw [this] at q
     exact ⟨_,rfl,_,rfl,y&&&b,b,rfl,rfl,q⟩
noncomputable abbrev Ic:Stmt:=top 25
theorem Ws:FnScope ["block"] ["block"] (C3 Ic):=⟨rfl,rfl,rfl,by decide +kernel,rfl,by decide +kernel,by decide +kernel⟩
theorem Rj {f:Addr} {fd:FuncData} (F:Fun K "listed" "listed" Ic f fd):FnOk P w K mg base CX0 1 f fd ["block"] Es:=by
 refine F.ok Ws (fun vs H Q E h=>?_) (fun cdv A outer s H vs Q E hr h=>?_)
 ·obtain ⟨b,rfl,_⟩:=h
  rfl
 ·obtain ⟨b,rfl,q⟩:=h
  refine ⟨_,(A9 (F8 (D8 Bu (pv 0) B0 (D9 _)) (C1 (D0 (G8 A6))) E1)
   (C1 (D0 (G8 (A0 (pv 0) A6))))),?_⟩
  refine ⟨_,rfl,b,0,rfl,rfl,_,rfl,M9 (fun hc=>?_) (fun hc=>?_)⟩
  ·have b0:b=0:=Zj_ hc
   refine ⟨(by show 0<=sizeLine; exact Zp_ _),fun p hp=>?_⟩
   have:=q p hp
   rw [if_neg (by omega)] at this
   exact this
  ·have b0:0 < b:=Nat.pos_of_ne_zero fun z=>hc (Zr_ z)
   refine ⟨_,rfl,(by show 1<=sizeLine; decide),fun p hp=>?_⟩
   have:=q p hp
   rw [if_pos b0] at this
   exact this
noncomputable abbrev Hx:Stmt:=top 7
theorem Zx:FnScope ["one","other","some"] ["one","other","some"] (C3 Hx):=⟨rfl,rfl,rfl,by decide +kernel,rfl,by decide +kernel,by decide +kernel⟩
theorem Ut {f fC:Addr} {fd fdC:FuncData} (F:Fun K "alike" "alike" Hx f fd) (GC:FnOk P w K mg base CX0 2 fC fdC ["some"] Mt) (mC:mg "columns_of" = some (.ref fC)) (kC:Θk K fC) (bC:Binds K fdC ["some"] []) (zall:mg "all" = none):FnOk P w K mg base CX0 3 f fd ["one","other","some"] (Pd K):=by
 refine F.ok Zx (fun vs H Q E h=>?_) (fun cdv A outer s H vs Q E hr h=>?_)
 ·obtain ⟨a,b,r1,r2,x,rfl,_⟩:=h
  rfl
 ·obtain ⟨a,b,r1,r2,x,rfl,ha,hb,hx,hc,q⟩:=h
  refine ⟨_,(C1 (D0 (F2 (Pw (K:=K) rfl rfl) (by rfl) zall PyProof.Rows.boot_all (A0 (M1 (xs:=["column"]) (cs ["one","other","some"] (C3 Hx) rfl rfl (by decide +kernel)) rfl (E7 (K:=K) rfl (C2 GC hr rfl mC kC bC .nil C8 (A0 (pv 2) A6))) (fun _ _ _=>D5 (i:=0) (show (["column","one","other","some"]:List Str).Nodup by decide +kernel) rfl (Or.inl rfl)) (fun _ _ _=>N3) (fun _ _ _=>(P1 Acc (D7 (D2 (K:=K) rfl) (pv 1) (pv 0) (fun _ _=>rfl)) (D7 (D2 (K:=K) rfl) (pv 2) (pv 0) (fun _ _=>rfl)) (D9 _)))) A6)))),?_⟩
  refine ⟨_,rfl,x,rfl,hx,fun d hd=>⟨d,rfl,⟨_,SqL.of A8⟩,?_⟩⟩
  have s1:Same H (upd H d (.lst ((L1 x).map vN))):=Same.new hd
  have hd1:(upd H d (.lst ((L1 x).map vN))) d=some (.lst ((L1 x).map vN)):=A8
  generalize upd H d (.lst ((L1 x).map vN))=H1 at s1 hd1
  have cl:(L1 x).length<=1000:=Zo_ (List.length_filter_le _ _) (by rw [List.length_range]; exact Zo_ (Dp hx) (by decide))
  refine W9 (xs:=(L1 x).map vN) (fun i acc H'=>H' = H1/\acc=(((L1 x).take i).map fun c=>decide (r1.getD c 0=r2.getD c 0)).map V.bl) (by rw [Θl]; omega) ⟨rfl,rfl⟩ (fun i acc H' hi h=>?_) (fun i y acc H' hy h=>?_) (fun acc H' h=>?_)
  ·rw [h.1,h.2]
   exact ⟨SqL.of hd1,by rw [Θl,Θl]; exact List.length_take_le _ _⟩
  ·obtain ⟨rfl,rfl⟩:=h
   rw [Θg] at hy
   cases ez:(L1 x)[i]? with
   | none=>rw [ez] at hy; cases hy
   | some c=>
    rw [ez] at hy
    obtain rfl:=(Θo hy).symm
    obtain ⟨c1,c2⟩:=hc c (Θe ez)
    refine ⟨rfl,_,rfl,_,rfl,a,_,_,_,rfl,rfl,s1.tupS ha,C4 (j:=c) (O8 c1),_,rfl,_,rfl,b,_,_,_,rfl,rfl,s1.tupS hb,C4 (j:=c) (O8 c2),_,_,rfl,rfl,rfl,?_⟩
    rw [List.take_succ,ez,Zw_,Zw_]
    rfl
  ·obtain ⟨rfl,rfl⟩:=h
   intro e he
   refine ⟨e,_,rfl,SqL.of A8,?_⟩
   rw [Θl,List.take_length]
   exact q _ (s1.trans (Same.new he))
noncomputable abbrev Id:Stmt:=top 8
theorem Zz:FnScope ["one","other","some"] ["one","other","some"] (C3 Id):=⟨rfl,rfl,rfl,by decide +kernel,rfl,by decide +kernel,by decide +kernel⟩
theorem Ux {f fH:Addr} {fd fdH:FuncData} (F:Fun K "mixed" "mixed" Id f fd) (GH:FnOk P w K mg base CX0 1 fH fdH ["some","column"] Xa) (mH:mg "has_column" = some (.ref fH)) (kH:Θk K fH) (bH:Binds K fdH ["some","column"] []) (zrange:mg "range" = none) (zlen:mg "len" = none) (ztuple:mg "tuple" = none):FnOk P w K mg base CX0 2 f fd ["one","other","some"] (X6 K):=by
 refine F.ok Zz (fun vs H Q E h=>?_) (fun cdv A outer s H vs Q E hr h=>?_)
 ·obtain ⟨a,b,r1,r2,x,rfl,_⟩:=h
  rfl
 ·obtain ⟨a,b,r1,r2,x,rfl,ha,hb,hl,hl2,q⟩:=h
  refine ⟨_,(C1 (D0 (E5 (Q6 (K:=K) rfl) (by rfl) ztuple PyProof.Rows.boot_tuple (A0 (M1 (xs:=["column"]) (cs ["one","other","some"] (C3 Id) rfl rfl (by decide +kernel)) rfl (G9 rfl zrange (A0 (F2 (G0 (K:=K) rfl) (by rfl) zlen PySem.boot_len (A0 (pv 0) A6)) A6)) (fun _ _ _=>D5 (i:=0) (show (["column","one","other","some"]:List Str).Nodup by decide +kernel) rfl (Or.inl rfl)) (fun _ _ _=>N3) (fun _ _ _=>(Vk (V2 (C2 GH hr rfl mH kH bH .nil C8 (A0 (pv 3) (A0 (pv 0) A6)))) (D7 (D2 (K:=K) rfl) (pv 1) (pv 0) (fun _ _=>rfl)) (D7 (D2 (K:=K) rfl) (pv 2) (pv 0) (fun _ _=>rfl))))) A6)))),?_⟩
  have lm:(r1.map V.int).length=r1.length:=Θl ..
  refine ⟨_,rfl,a,_,rfl,.inr ha,_,rfl,(by omega),(by omega),O7 (k:=(r1.map V.int).length) (n:=1) (fun i acc H'=>H' = H/\acc=((List.range i).map fun k=>if E3 x k=true then r1.getD k 0 else r2.getD k 0).map V.int) (by omega) ⟨rfl,rfl⟩ (fun i acc H' hi h=>?_) (fun i acc H' hi h=>?_) (fun acc H' h=>?_)⟩
  ·rw [h.2,Θl,Θl,List.length_range]; exact Zd_ _
  ·obtain ⟨rfl,rfl⟩:=h
   rw [lm] at hi
   refine ⟨rfl,_,rfl,_,rfl,x,i,rfl,_,rfl,?_⟩
   refine M9 (fun hc=>?_) (fun hc=>?_)
   ·refine ⟨_,rfl,_,rfl,a,_,_,_,rfl,rfl,ha,C4 (j:=i) (O8 hi),rfl,?_⟩
    rw [List.range_succ,Zw_,Zw_,List.map_singleton,if_pos hc]
    rfl
   ·refine ⟨_,rfl,_,rfl,b,_,_,_,rfl,rfl,hb,C4 (j:=i) (O8 (by omega)),rfl,?_⟩
    rw [List.range_succ,Zw_,Zw_,List.map_singleton,if_neg hc]
    rfl
  ·obtain ⟨rfl,rfl⟩:=h
   intro d hd
   refine ⟨d,_,rfl,.inl ⟨SqL.of A8,fun t ht=>?_⟩⟩
   have ss:=(Same.new (o:=.lst (((List.range (r1.map V.int).length).map fun k=>if E3 x k=true then r1.getD k 0 else r2.getD k 0).map V.int)) hd)
   refine q t _ (ss.trans (Same.new ht)) (ss.free ht) ?_
   rw [A8,lm]
   rfl
noncomputable abbrev Wo:Stmt:=top 26
theorem scUsed:FnScope ["rule","fixed","blocks","at","taken","rest"] ["rule","fixed","blocks","at"] (C3 Wo):=⟨rfl,rfl,rfl,by decide +kernel,rfl,by decide +kernel,by decide +kernel⟩
theorem Za {f fI:Addr} {fd fdI:FuncData} (F:Fun K "used" "used" Wo f fd) (GI:FnOk P w K mg base CX0 1 fI fdI ["block"] Es) (mI:mg "listed" = some (.ref fI)) (kI:Θk K fI) (bI:Binds K fdI ["block"] []):FnOk P w K mg base CX0 2 f fd ["rule","fixed","blocks","at"] (Xe K):=by
 refine F.ok scUsed (fun vs H Q E h=>?_) (fun cdv A outer s H vs Q E hr h=>?_)
 ·obtain ⟨r,l,st,x,y,fx,at_,bs,rfl,_⟩:=h
  rfl
 ·obtain ⟨r,l,st,x,y,fx,at_,bs,rfl,hR,hl,hat,hb,hdis,q⟩:=h
  have nd:=scUsed.nd
  refine ⟨_,(A9 (D1 (i:=4) nd rfl (Or.inl rfl) (D6 X3 (D7 (E4 (K:=K) rfl) (pv 2) (pv 3) (fun _ _=>rfl)) (D7 (D2 (K:=K) rfl) (pv 0) B0 (fun _ _=>rfl))))
   (A9 (D1 (i:=5) nd rfl (Or.inl rfl) (D6 Ac (D7 (E4 (K:=K) rfl) (pv 2) (pv 3) (fun _ _=>rfl)) (Kc Ex (D7 (D2 (K:=K) rfl) (pv 0) B0 (fun _ _=>rfl)))))
   (A9 (F8 (D8 op_eq (D7 (D2 (K:=K) rfl) (pv 0) B0 (fun _ _=>rfl)) U6 (D9 _)) (C1 (D0 (M8 (A0 (D6 Bw (pv 1) (pv 4)) (A0 (D6 X4 (D6 X4 (O1 Q5 (pv 2) Q2 (Q3 (pv 3))) (C2 GI hr rfl mI kI bI .nil C8 (A0 (pv 5) A6))) (O1 Q5 (pv 2) (Q3 (D6 X2 (pv 3) B0)) Q2)) A6))))) E1)
   (C1 (D0 (M8 (A0 (pv 1) (A0 (D6 X4 (D6 X4 (O1 Q5 (pv 2) Q2 (Q3 (pv 3))) (G8 (A0 (pv 4) (A0 (pv 5) A6)))) (O1 Q5 (pv 2) (Q3 (D6 X2 (pv 3) B0)) Q2)) A6)))))))),?_⟩
  have eb:bs[at_]? = some (bs.getD at_ 0):=by rw [Zu_,Θh hat]; rfl
  have ebv:(bs.map vN)[at_]? = some (vN (bs.getD at_ 0)):=by rw [Θg,eb]; rfl
  refine ⟨_,rfl,_,rfl,l,_,_,_,rfl,rfl,hl,C4 ebv,_,rfl,r,_,_,_,rfl,rfl,SqT.of hR,C4 (j:=2) rfl,bs.getD at_ 0,y,rfl,rfl,?_⟩
  refine ⟨_,rfl,_,rfl,l,_,_,_,rfl,rfl,hl,C4 ebv,_,rfl,r,_,_,_,rfl,rfl,SqT.of hR,C4 (j:=2) rfl,(y:Int),rfl,bs.getD at_ 0,y,rfl,rfl,?_⟩
  refine ⟨_,rfl,r,_,_,_,rfl,rfl,SqT.of hR,C4 (j:=0) rfl,rfl,_,rfl,?_⟩
  have lt:(List.take at_ (bs.map vN)).length<=200:=by rw [ZB,Θl]; omega
  have ld:(List.drop (at_ + 1) (bs.map vN)).length<=200:=by rw [List.length_drop,Θl]; omega
  have szc:∀n:Nat,n<=1000->n<=sizeLine:=fun n h=>Nat.le_of_lt (E2 h)
  have e1:Fa (bs.map vN) none (some (at_:Int))=List.take at_ (bs.map vN):=Y5 _ _
  have e2:Fa (bs.map vN) (some ((at_ + 1:Nat):Int)) none=List.drop (at_ + 1) (bs.map vN):=Ds _ _
  cases st with
  | true=>
   refine Y1 ?_
   have eo:N7 true y fx bs at_=fx|||inN y bs at_:=by
    unfold N7
    rw [if_pos rfl]
    exact (Bx fx (inN y bs at_) (T7 hdis (Cc _ y))).symm
   refine ⟨_,rfl,_,rfl,fx,inN y bs at_,rfl,rfl,?_⟩
   refine ⟨_,rfl,_,rfl,(at_:Int),rfl,l,_,rfl,hl,fun p1 hp1=>?_⟩
   rw [e1]
   have s1:=Same.new (o:=.lst (List.take at_ (bs.map vN))) hp1
   refine ⟨_,rfl,P7 y bs at_,rfl,fun p3 hp3=>?_⟩
   have s3:=Same.new (o:=.lst ((if 0 < P7 y bs at_ then [P7 y bs at_] else []).map vN)) hp3
   have l3:((if 0 < P7 y bs at_ then [P7 y bs at_] else []).map vN).length<=1:=by split <;> simp
   refine ⟨p1,p3,List.take at_ (bs.map vN),(if 0 < P7 y bs at_ then [P7 y bs at_] else []).map vN,rfl,rfl,s3 _ _ A8,A8,szc _ (by omega),fun p4 hp4=>?_⟩
   have s4:=Same.new (o:=.lst (List.take at_ (bs.map vN)++(if 0 < P7 y bs at_ then [P7 y bs at_] else []).map vN)) hp4
   have s14:=(s1.trans s3).trans s4
   refine ⟨_,rfl,_,rfl,at_,1,rfl,rfl,((at_ + 1:Nat):Int),rfl,l,_,rfl,s14.seq hl,fun p5 hp5=>?_⟩
   rw [e2]
   have s5:=Same.new (o:=.lst (List.drop (at_ + 1) (bs.map vN))) hp5
   refine ⟨p4,p5,List.take at_ (bs.map vN)++(if 0 < P7 y bs at_ then [P7 y bs at_] else []).map vN,List.drop (at_ + 1) (bs.map vN),rfl,rfl,s5 _ _ A8,A8,szc _ (by rw [Zv_]; omega),fun p6 hp6=>?_⟩
   have e6:List.take at_ (bs.map vN)++(if 0 < P7 y bs at_ then [P7 y bs at_] else []).map vN++List.drop (at_ + 1) (bs.map vN)=(F4 true y bs at_).map vN:=by
    unfold F4
    rw [if_pos rfl,Zw_,Zw_,List.map_take,List.map_drop]
   rw [e6]
   have s6:=Same.new (o:=.lst ((F4 true y bs at_).map vN)) hp6
   refine ⟨(by show 2<=sizeLine; decide),fun t ht=>?_⟩
   have s7:=Same.new (o:=.tup [vN (fx|||inN y bs at_),V.ref p6]) ht
   have s16:=(s14.trans s5).trans s6
   exact q t p6 _ (s16.trans s7) (s16.none ht) (by rw [eo]; exact A8) ((s14.trans s5).none hp6) (s7 _ _ A8)
  | false=>
   refine M9 (fun hc=>?_) (fun _=>?_)
   ·exact absurd (Zj_ hc) (by intro z; injection z with z; revert z; decide)
   refine ⟨_,rfl,?_⟩
   refine ⟨_,rfl,_,rfl,(at_:Int),rfl,l,_,rfl,hl,fun p1 hp1=>?_⟩
   rw [e1]
   have s1:=Same.new (o:=.lst (List.take at_ (bs.map vN))) hp1
   refine ⟨_,rfl,_,rfl,(by show 2<=sizeLine; decide),fun p3 hp3=>?_⟩
   have s3:=Same.new (o:=.lst [vN (inN y bs at_),vN (P7 y bs at_)]) hp3
   refine ⟨p1,p3,List.take at_ (bs.map vN),[vN (inN y bs at_),vN (P7 y bs at_)],rfl,rfl,s3 _ _ A8,A8,szc _ (by show _ + 2<=1000; omega),fun p4 hp4=>?_⟩
   have s4:=Same.new (o:=.lst (List.take at_ (bs.map vN)++[vN (inN y bs at_),vN (P7 y bs at_)])) hp4
   have s14:=(s1.trans s3).trans s4
   refine ⟨_,rfl,_,rfl,at_,1,rfl,rfl,((at_ + 1:Nat):Int),rfl,l,_,rfl,s14.seq hl,fun p5 hp5=>?_⟩
   rw [e2]
   have s5:=Same.new (o:=.lst (List.drop (at_ + 1) (bs.map vN))) hp5
   refine ⟨p4,p5,List.take at_ (bs.map vN)++[vN (inN y bs at_),vN (P7 y bs at_)],List.drop (at_ + 1) (bs.map vN),rfl,rfl,s5 _ _ A8,A8,szc _ (by rw [Zv_]; show _ + 2 + _<=1000; omega),fun p6 hp6=>?_⟩
   have e6:List.take at_ (bs.map vN)++[vN (inN y bs at_),vN (P7 y bs at_)]++List.drop (at_ + 1) (bs.map vN)=(F4 false y bs at_).map vN:=by
    unfold F4
    rw [if_neg Zf_,Zw_,Zw_,List.map_take,List.map_drop]
    rfl
   rw [e6]
   have s6:=Same.new (o:=.lst ((F4 false y bs at_).map vN)) hp6
   refine ⟨(by show 2<=sizeLine; decide),fun t ht=>?_⟩
   have s7:=Same.new (o:=.tup [vN fx,V.ref p6]) ht
   have s16:=(s14.trans s5).trans s6
   exact q t p6 _ (s16.trans s7) (s16.none ht) A8 ((s14.trans s5).none hp6) (s7 _ _ A8)
noncomputable abbrev Mh:Stmt:=top 27
theorem Zy:FnScope ["many","some"] ["many","some"] (C3 Mh):=⟨rfl,rfl,rfl,by decide +kernel,rfl,by decide +kernel,by decide +kernel⟩
theorem Uu {f fI fAL:Addr} {fd fdI fdAL:FuncData} (F:Fun K "begun" "begun" Mh f fd) (GI:FnOk P w K mg base CX0 1 fI fdI ["block"] Es) (mI:mg "listed" = some (.ref fI)) (kI:Θk K fI) (bI:Binds K fdI ["block"] []) (GAL:FnOk P w K mg base CX0 1 fAL fdAL ["many"] Db) (mAL:mg "all_of" = some (.ref fAL)) (kAL:Θk K fAL) (bAL:Binds K fdAL ["many"] []):FnOk P w K mg base CX0 2 f fd ["many","some"] (Pe K):=by
 refine F.ok Zy (fun vs H Q E h=>?_) (fun cdv A outer s H vs Q E hr h=>?_)
 ·obtain ⟨m,x,rfl,_⟩:=h
  rfl
 ·obtain ⟨m,x,rfl,m7,hx,q⟩:=h
  have hr1:Room 1 _:=hr.mono (by decide)
  refine ⟨_,(C1 (D0 (M8 (A0 (pv 1) (A0 (C2 GI hr1 rfl mI kI bI .nil C8 (A0 (D6 Ac (C2 GAL hr1 rfl mAL kAL bAL .nil C8 (A0 (pv 0) A6)) (Kc Ex (pv 1))) A6)) A6))))),?_⟩
  refine ⟨_,rfl,_,rfl,m,rfl,by omega,_,rfl,(x:Int),rfl,2 ^ m - 1,x,rfl,rfl,2 ^ m - 1 - ((2 ^ m - 1)&&&x),rfl,fun p hp=>?_⟩
  have ea:(2 ^ m - 1)&&&x=x:=by rw [Nat.and_comm,Nat.and_two_pow_sub_one_eq_mod,Nat.mod_eq_of_lt hx]
  have e:(if 0 < 2 ^ m - 1 - ((2 ^ m - 1)&&&x) then [2 ^ m - 1 - ((2 ^ m - 1)&&&x)] else [])=E6 m x:=by
   rw [ea]
   unfold E6
   by_cases h:x < 2 ^ m - 1
   ·rw [if_pos h,if_pos (by omega)]
   ·rw [if_neg h,if_neg (by omega)]
  rw [e]
  have s1:=Same.new (o:=.lst ((E6 m x).map vN)) hp
  refine ⟨(by show 2<=sizeLine; decide),fun t ht=>?_⟩
  have s2:=Same.new (o:=.tup [vN x,V.ref p]) ht
  exact q t p _ (s1.trans s2) (s1.none ht) A8 hp (s2 _ _ A8)
noncomputable abbrev Mj:Stmt:=top 28
theorem scFirst:FnScope ["rules","blocks","number","rule","at","block"] ["rules","blocks"] (C3 Mj):=⟨rfl,rfl,rfl,by decide +kernel,rfl,by decide +kernel,by decide +kernel⟩
theorem Uv {f fCU:Addr} {fd fdCU:FuncData} (F:Fun K "first_use" "first_use" Mj f fd) (GCU:FnOk P w K mg base CX0 1 fCU fdCU ["rule","block"] Ks) (mCU:mg "can_use" = some (.ref fCU)) (kCU:Θk K fCU) (bCU:Binds K fdCU ["rule","block"] []) (zenumerate:mg "enumerate" = none):FnOk P w K mg base CX0 2 f fd ["rules","blocks"] (Er K):=by
 refine F.ok scFirst (fun vs H Q E h=>?_) (fun cdv A outer s H vs Q E hr h=>?_)
 ·obtain ⟨rl,bl,rs,bs,m,rfl,_⟩:=h
  rfl
 ·obtain ⟨rl,bl,rs,bs,m,rfl,hrl,hRs,hbl,lr,lb,qn,qs⟩:=h
  have nd:=scFirst.nd
  have hr:Room 1 _:=hr.mono (by decide)
  have lrm:(rs.map fun r=>V.ref r.r).length=rs.length:=Θl ..
  have lbm:(bs.map vN).length=bs.length:=Θl ..
  refine ⟨_,(A9 (I8 PassesOwn.never rfl (Om (K:=K) rfl rfl zenumerate (A0 (pv 0) A6)) (Hk rfl (M3 (D5 (i:=2) nd rfl (Or.inl rfl)) (M3 (D5 (i:=3) nd rfl (Or.inl rfl)) Cu))) (C1 (I8 PassesOwn.never rfl (Om (K:=K) rfl rfl zenumerate (A0 (pv 1) A6)) (Hk rfl (M3 (D5 (i:=4) nd rfl (Or.inl rfl)) (M3 (D5 (i:=5) nd rfl (Or.inl rfl)) Cu))) (C1 (F8 (V2 (C2 GCU hr rfl mCU kCU bCU .nil C8 (A0 (pv 3) (A0 (pv 5) A6)))) (C1 (D0 (M8 (A0 (pv 2) (A0 (pv 4) A6))))) E1)))))
   (C1 (D0 N6))),?_⟩
  refine ⟨_,rfl,rl,_,rfl,hrl,Jm (xs:=rs.map fun r=>V.ref r.r) (fun i σ H'=>(∃v2 v3 v4 v5,σ=[some (.ref rl),some (.ref bl),v2,v3,v4,v5])/\Same H H'/\M5 (rs.map Rl.d) bs i=[]) ⟨⟨none,none,none,none,rfl⟩,Same.refl _,rfl⟩ (fun i σ H' _ h=>h.2.1.seq hrl) ?_ ?_⟩
  ·rintro i v σ H0 t0 hv ⟨⟨v2,v3,v4,v5,rfl⟩,s0,u0⟩ ht0
   rw [Θg] at hv
   cases er:rs[i]? with
   | none=>rw [er] at hv; cases hv
   | some r=>
    rw [er] at hv
    obtain rfl:=(Θo hv).symm
    have hi:i < rs.length:=(Ze_.mp er).1
    have hrm:=Θe er
    have s1:=s0.trans (Same.new (o:=.tup [.int (i:Int),V.ref r.r]) ht0)
    refine ⟨t0,_,rfl,SqT.of A8,rfl,_,_,rfl,_,_,rfl,rfl,?_⟩
    generalize upd H0 t0 (.tup [.int (i:Int),V.ref r.r])=H1 at s1
    refine ⟨_,rfl,bl,_,rfl,s1.seq hbl,Jm (xs:=bs.map vN) (fun j σ H'=>(∃v4 v5,σ=[some (.ref rl),some (.ref bl),some (vN i),some (.ref r.r),v4,v5])/\Same H H'/\Y0 r.d i bs j=[]) ⟨⟨_,_,rfl⟩,s1,rfl⟩ (fun j σ H' _ h=>h.2.1.seq hbl) ?_ ?_⟩
    ·rintro j v σ H2 t2 hv' ⟨⟨v4',v5',rfl⟩,s2,u2⟩ ht2
     rw [Θg] at hv'
     cases eb:bs[j]? with
     | none=>rw [eb] at hv'; cases hv'
     | some b=>
      rw [eb] at hv'
      obtain rfl:=(Θo hv').symm
      have hj:j < bs.length:=(Ze_.mp eb).1
      have ebd:bs.getD j 0=b:=by rw [Zu_,eb]; rfl
      have s3:=s2.trans (Same.new (o:=.tup [.int (j:Int),vN b]) ht2)
      refine ⟨t2,_,rfl,SqT.of A8,rfl,_,_,rfl,_,_,rfl,rfl,?_⟩
      generalize upd H2 t2 (.tup [.int (j:Int),vN b])=H3 at s3
      refine ⟨_,rfl,_,rfl,r.r,r.st,r.x,r.y,b,rfl,s3 _ _ (hRs r hrm).1,_,rfl,M9 (fun hu=>?_) (fun hu=>?_)⟩
      ·obtain ⟨us,eu⟩:=Nb (n:=rs.length) u0 (by rw [Ov er]; exact u2) hi hj (by rw [Ov er,ebd]; exact hu)
       refine ⟨_,rfl,_,rfl,(by show 2<=sizeLine; decide),fun t ht=>?_⟩
       exact qs (i,j) us t _ (s3.trans (Same.new ht)) eu (s3.none ht) A8
      ·refine ⟨⟨_,_,rfl⟩,s3,?_⟩
       rw [Ar,u2,ebd,if_neg (show ¬usB r.d b=true from hu)]; rfl
    ·rintro σ H2 ⟨⟨v4',v5',rfl⟩,s2,u2⟩
     rw [lbm] at u2
     refine ⟨⟨_,_,_,_,rfl⟩,s2,?_⟩
     rw [Aq,u0,Ov er,u2]; rfl
  ·rintro σ H' ⟨⟨v2,v3,v4,v5,rfl⟩,s',u'⟩
   rw [lrm] at u'
   exact qn H' s' u'
end
end Own
namespace Own
open PySem L2
section
variable {P:Program} {w:World} {K:Θf} {mg:Str->Option Value} {base:Heap}
seal PySem.wpAny
noncomputable abbrev Ac3:Stmt:=top 29
theorem scUnf:FnScope ["many","rules","some","now","steps","use"] ["many","rules","some"] (C3 Ac3):=⟨rfl,rfl,rfl,by decide +kernel,rfl,by decide +kernel,by decide +kernel⟩
theorem Aca {f fBG fFU fUD:Addr} {fd fdBG fdFU fdUD:FuncData} (F:Fun K "unfolded" "unfolded" Ac3 f fd) (GBG:FnOk P w K mg base CX0 2 fBG fdBG ["many","some"] (Pe K)) (mBG:mg "begun" = some (.ref fBG)) (kBG:Θk K fBG) (bBG:Binds K fdBG ["many","some"] []) (GFU:FnOk P w K mg base CX0 2 fFU fdFU ["rules","blocks"] (Er K)) (mFU:mg "first_use" = some (.ref fFU)) (kFU:Θk K fFU) (bFU:Binds K fdFU ["rules","blocks"] []) (GUD:FnOk P w K mg base CX0 2 fUD fdUD ["rule","fixed","blocks","at"] (Xe K)) (mUD:mg "used" = some (.ref fUD)) (kUD:Θk K fUD) (bUD:Binds K fdUD ["rule","fixed","blocks","at"] []):FnOk P w K mg base CX0 3 f fd ["many","rules","some"] (Ao K):=by
 refine F.ok scUnf (fun vs H Q E h=>?_) (fun cdv A outer s H vs Q E hr h=>?_)
 ·obtain ⟨m,x,rl,rs,rfl,_⟩:=h
  rfl
 ·obtain ⟨m,x,rl,rs,rfl,m7,hx,hrl,hRs,lr,qq⟩:=h
  have nd:=scUnf.nd
  have hr2:Room 2 _:=hr.mono (by decide)
  refine ⟨_,(A9 (D1 (i:=3) nd rfl (Or.inl rfl) (C2 GBG hr2 rfl mBG kBG bBG .nil C8 (A0 (pv 0) (A0 (pv 2) A6)))) (A9 (D1 (i:=4) nd rfl (Or.inl rfl) (G8 A6)) (Cv (fun σ H'=>∃n,Adn H m x rl rs n σ H') (D1 (i:=5) nd rfl (Or.inl rfl) (C2 GFU hr2 rfl mFU kFU bFU .nil C8 (A0 (pv 1) (A0 (D7 (D2 (K:=K) rfl) (pv 3) B0 (fun _ _=>rfl)) A6)))) (A9 (Em PassesOwn.never (D8 Bk (pv 5) N6 (D9 _)) (A9 (Q4 (Ah PySem.F.plainAttrs_list PySem.F.slot_list_append PySem.F.type_list_append N2 (pv 4) (A0 (M8 (A0 (D7 (D2 (K:=K) rfl) (pv 5) B0 (fun _ _=>rfl)) (A0 (D7 (E4 (K:=K) rfl) (D7 (D2 (K:=K) rfl) (pv 3) B0 (fun _ _=>rfl)) (D7 (D2 (K:=K) rfl) (pv 5) B0 (fun _ _=>rfl)) (fun _ _=>rfl)) A6))) A6)))
   (A9 (D1 (i:=3) nd rfl (Or.inl rfl) (C2 GUD hr2 rfl mUD kUD bUD .nil C8 (A0 (D7 (E4 (K:=K) rfl) (pv 1) (D7 (D2 (K:=K) rfl) (pv 5) B0 (fun _ _=>rfl)) (fun _ _=>rfl)) (A0 (D7 (D2 (K:=K) rfl) (pv 3) B0 (fun _ _=>rfl)) (A0 (D7 (D2 (K:=K) rfl) (pv 3) B0 (fun _ _=>rfl)) (A0 (D7 (D2 (K:=K) rfl) (pv 5) B0 (fun _ _=>rfl)) A6))))))
   (C1 (D1 (i:=5) nd rfl (Or.inl rfl) (C2 GFU hr2 rfl mFU kFU bFU .nil C8 (A0 (pv 1) (A0 (D7 (D2 (K:=K) rfl) (pv 3) B0 (fun _ _=>rfl)) A6)))))))) (C1 (D0 (M8 (A0 (D7 (D2 (K:=K) rfl) (pv 3) B0 (fun _ _=>rfl)) (A0 (D7 (D2 (K:=K) rfl) (pv 3) B0 (fun _ _=>rfl)) (A0 (pv 4) A6)))))))))),?_⟩
  refine ⟨_,rfl,_,rfl,m,x,rfl,m7,hx,fun t0 p0 H1 s1 ht0 ht1 hp0 hp1=>?_⟩
  refine ⟨(by show 0<=sizeLine; exact Zp_ _),fun qa hqa=>?_⟩
  have c2:=UCore.begin (rs:=rs) m7 hx s1 hp0 hp1 hqa
  have ht2:=Same.new (o:=.lst []) hqa _ _ ht1
  generalize upd H1 qa (.lst [])=H2 at c2 ht2
  refine ⟨⟨_,rfl,_,rfl,t0,_,_,_,rfl,rfl,SqT.of ht2,C4 (j:=1) rfl,rl,p0,rs,E6 m x,m,rfl,c2.same.seq hrl,hRs.same c2.same,SqL.of c2.hp,lr,(by have:=c2.good.len m7; exact Zo_ this (by decide)),fun H3 s3 hu=>?_,fun u us t5 H3 s3 hu ht5 ht5'=>?_⟩,?_⟩
  ·exact ⟨_,_,t0,p0,qa,[],.non,rfl,rfl,s3 _ _ ht2,c2.mono s3,.inl ⟨hu,rfl⟩⟩
  ·exact ⟨_,_,t0,p0,qa,[],.ref t5,rfl,rfl,s3 _ _ ht2,c2.mono s3,.inr ⟨u,us,t5,hu,rfl,ht5'⟩⟩
  clear c2 ht2 ht1 hp1 hp0 ht0 s1 hqa
  rintro σ H3 ⟨n0,hinv⟩
  refine ⟨Adn H m x rl rs,⟨n0,hinv⟩,?_⟩
  rintro n _ H4 ⟨s,t,p,qa,sw,v,rfl,en,ht,c,hv⟩
  refine ⟨_,rfl,rfl,_,rfl,?_⟩
  rcases hv with ⟨hu,rfl⟩ | ⟨u,us,t5,hu,rfl,ht5⟩
  ·refine V1 ?_
   refine ⟨_,rfl,t,_,_,_,rfl,rfl,SqT.of ht,C4 (j:=0) rfl,_,rfl,t,_,_,_,rfl,rfl,SqT.of ht,C4 (j:=1) rfl,_,rfl,(by show 3<=sizeLine; decide),fun tt htt=>?_⟩
   have s5:=Same.new (o:=.tup [vN s.fx,V.ref p,V.ref qa]) htt
   have c5:=c.mono s5
   exact qq tt p qa s sw _ (c.run s (.done (by rw [Vz]; exact hu))) c5.same (c.same.none htt) A8 c5.hp0 c5.hp c5.hq0 c5.hq c5.st c5.est (by have:=c5.slen; omega) c5.npq
  ·refine Y1 ?_
   refine ⟨_,fun _ _ h=>h,?_⟩
   obtain ⟨r,er,erd,hu2,ebu,hR⟩:=Aal (rs:=rs) (u:=u) (by rw [hu]; exact Θc ..) (hRs.same c.same)
   have ebv:(s.bs.map vN)[u.2]? = some (vN (s.bs.getD u.2 0)):=by rw [Θg,ebu]; rfl
   have erv:(rs.map fun r=>V.ref r.r)[u.1]? = some (V.ref r.r):=by rw [Θg,er]; rfl
   refine ⟨_,rfl,.inl ⟨rfl,_,SqL.of c.hq⟩,_,rfl,t5,_,_,_,rfl,rfl,SqT.of ht5,C4 (j:=0) rfl,_,rfl,t,_,_,_,rfl,rfl,SqT.of ht,C4 (j:=1) rfl,_,rfl,t5,_,_,_,rfl,rfl,SqT.of ht5,C4 (j:=1) rfl,p,_,_,_,rfl,rfl,SqL.of c.hp,C4 ebv,(by show 2<=sizeLine; decide),fun w hw=>?_⟩
   have sw1:=Same.new (o:=.tup [vN u.1,vN (s.bs.getD u.2 0)]) hw
   have c1:=c.mono sw1
   have hw1:(upd H4 w (.tup [vN u.1,vN (s.bs.getD u.2 0)])) w=some (.tup [vN u.1,vN (s.bs.getD u.2 0)]):=A8
   have ht1:=sw1 _ _ ht
   have ht51:=sw1 _ _ ht5
   generalize upd H4 w (.tup [vN u.1,vN (s.bs.getD u.2 0)])=H5 at sw1 c1 hw1 ht1 ht51
   refine ⟨qa,_,_,rfl,rfl,c1.hq,(by rw [Θl]; exact E2 (by have:=c1.slen; omega)),?_⟩
   have sq:Same H (upd H5 qa (.lst ((sw.map fun w=>V.ref w.1)++[V.ref w]))):=c1.same.own c1.hq0
   have ht2:(upd H5 qa (.lst ((sw.map fun w=>V.ref w.1)++[V.ref w]))) t=some (.tup [vN s.fx,.ref p]):=by rw [C9 (P4 ht1 c1.hq (by intro z; cases z))]; exact ht1
   have ht52:(upd H5 qa (.lst ((sw.map fun w=>V.ref w.1)++[V.ref w]))) t5=some (.tup [vN u.1,vN u.2]):=by rw [C9 (P4 ht51 c1.hq (by intro z; cases z))]; exact ht51
   have hp2:(upd H5 qa (.lst ((sw.map fun w=>V.ref w.1)++[V.ref w]))) p=some (.lst (s.bs.map vN)):=by rw [C9 c1.npq]; exact c1.hp
   have hdis:s.fx&&&s.bs.getD u.2 0=0:=c.good.dis _ (Θe ebu)
   refine ⟨_,rfl,_,rfl,t5,_,_,_,rfl,rfl,SqT.of ht52,C4 (j:=0) rfl,rl,_,_,_,rfl,rfl,sq.seq hrl,C4 erv,_,rfl,t,_,_,_,rfl,rfl,SqT.of ht2,C4 (j:=0) rfl,_,rfl,t,_,_,_,rfl,rfl,SqT.of ht2,C4 (j:=1) rfl,_,rfl,t5,_,_,_,rfl,rfl,SqT.of ht52,C4 (j:=1) rfl,r.r,p,r.st,r.x,r.y,s.fx,u.2,s.bs,rfl,sq _ _ (hRs r (Θe er)).1,SqL.of hp2,hu2,(by have:=c.good.len m7; omega),hdis,fun t' p' H6 s6 ht' ht6 hp' hp6=>?_⟩
   have efx:(U7 (rs.map Rl.d) s u).fx=N7 r.st r.y s.fx s.bs u.2:=by unfold U7; rw [erd]; rfl
   have ebs:(U7 (rs.map Rl.d) s u).bs=F4 r.st r.y s.bs u.2:=by unfold U7; rw [erd]; rfl
   rw [<-efx] at ht6
   rw [<-ebs] at hp6
   obtain ⟨c6,mu⟩:=c1.next (w:=(w,(u.1,s.bs.getD u.2 0))) hu rfl hw1 s6 hp' hp6
   refine ⟨_,rfl,_,rfl,t',_,_,_,rfl,rfl,SqT.of ht6,C4 (j:=1) rfl,rl,p',rs,(U7 (rs.map Rl.d) s u).bs,m,rfl,c6.same.seq hrl,hRs.same c6.same,SqL.of c6.hp,lr,(by have:=c6.good.len m7; omega),fun H7 s7 hu'=>?_,fun u' us' t5' H7 s7 hu' ht7 ht7'=>?_⟩
   ·exact ⟨_,by rw [en]; exact mu,_,t',p',qa,_,.non,rfl,rfl,s7 _ _ ht6,c6.mono s7,.inl ⟨hu',rfl⟩⟩
   ·exact ⟨_,by rw [en]; exact mu,_,t',p',qa,_,.ref t5',rfl,rfl,s7 _ _ ht6,c6.mono s7,.inr ⟨u',us',t5',hu',rfl,ht7'⟩⟩
noncomputable abbrev Hv:Stmt:=top 32
theorem scAgain:FnScope ["many","rules","part","some","told","gained","pieces"] ["many","rules","part","some"] (C3 Hv):=⟨rfl,rfl,rfl,by decide +kernel,rfl,by decide +kernel,by decide +kernel⟩
theorem Ur {f fUN fIW:Addr} {fd fdUN fdIW:FuncData} (F:Fun K "told_again" "told_again" Hv f fd) (GUN:FnOk P w K mg base CX0 3 fUN fdUN ["many","rules","some"] (Ao K)) (mUN:mg "unfolded" = some (.ref fUN)) (kUN:Θk K fUN) (bUN:Binds K fdUN ["many","rules","some"] []) (GIW:FnOk P w K mg base CX0 1 fIW fdIW ["one","other"] Kt) (mIW:mg "is_within" = some (.ref fIW)) (kIW:Θk K fIW) (bIW:Binds K fdIW ["one","other"] []) (zlen:mg "len" = none):FnOk P w K mg base CX0 4 f fd ["many","rules","part","some"] (Pb K):=by
 refine F.ok scAgain (fun vs H Q E h=>?_) (fun cdv A outer s H vs Q E hr h=>?_)
 ·obtain ⟨m,p,x,rl,rs,rfl,_⟩:=h
  rfl
 ·obtain ⟨m,p,x,rl,rs,rfl,m7,hx,hrl,hRs,lr,q⟩:=h
  have nd:=scAgain.nd
  have hr1:Room 1 _:=hr.mono (by decide)
  have hr3:Room 3 _:=hr.mono (by decide)
  refine ⟨_,(A9 (D1 (i:=4) nd rfl (Or.inl rfl) (C2 GUN hr3 rfl mUN kUN bUN .nil C8 (A0 (pv 0) (A0 (pv 1) (A0 (pv 3) A6)))))
   (A9 (F8 (V2 (C2 GIW hr1 rfl mIW kIW bIW .nil C8 (A0 (pv 2) (A0 (D7 (D2 (K:=K) rfl) (pv 4) B0 (fun _ _=>rfl)) A6)))) (C1 (D0 N6)) E1)
   (A9 (D1 (i:=5) nd rfl (Or.inl rfl) (D6 Ac (D6 X3 (pv 2) (D7 (D2 (K:=K) rfl) (pv 4) B0 (fun _ _=>rfl))) (Kc Ex (pv 3))))
   (A9 (F8 (D8 Bv (pv 5) B0 (D9 _)) (C1 (D0 (pv 5))) E1)
   (A9 (Op (i:=6) (xs:=["block"]) (cs ["many","rules","part","some","told","gained","pieces"] (C3 Hv) rfl rfl (by decide +kernel)) rfl nd rfl rfl (E7 (K:=K) rfl (D7 (D2 (K:=K) rfl) (pv 4) B0 (fun _ _=>rfl))) (fun _ _ _=>D5 (i:=0) (show (["block","many","rules","part","some","told","gained","pieces"]:List Str).Nodup by decide +kernel) rfl (Or.inl rfl)) (fun _ _ _=>(Bl (D8 Bv (D6 X3 (pv 0) (pv 3)) B0 (D9 _)))) (fun _ _ _=>(D6 X3 (pv 0) (pv 3))))
   (A9 (F8 (D8 Eh (F2 (G0 (K:=K) rfl) (by rfl) zlen PySem.boot_len (A0 (pv 6) A6)) B0 (D9 _)) (C1 (D0 (D7 (E4 (K:=K) rfl) (pv 6) B0 (fun _ _=>rfl)))) E1)
   (C1 (D0 N6)))))))),?_⟩
  refine ⟨_,rfl,_,rfl,_,rfl,m,x,rl,rs,rfl,m7,hx,hrl,hRs,lr,fun t pb qb s sw H1 R s1 ht0 ht hp0 hp _ _ _ _ _ _=>?_⟩
  have eU:=R.unfF
  have G:=(R.good (Good.begin hx)).1
  have ea:U2 m (rs.map Rl.d) p x=if p&&&s.fx=p then none else if (p&&&s.fx) - ((p&&&s.fx)&&&x)≠0 then some ((p&&&s.fx) - ((p&&&s.fx)&&&x)) else if 1 < (K2 p s.bs).length then (K2 p s.bs).head? else none:=by
   unfold U2 Bc
   rw [eU]
  refine ⟨_,rfl,_,rfl,t,_,_,_,rfl,rfl,SqT.of ht,C4 (j:=0) rfl,p,s.fx,rfl,_,rfl,M9 (fun hb=>?_) (fun hb=>?_)⟩
  ·have z:=q H1 s1
   rw [ea,if_pos (Zj_ hb)] at z
   exact z
  have n1:¬p&&&s.fx=p:=fun z=>hb (Zr_ z)
  rw [if_neg n1] at ea
  refine ⟨_,rfl,_,rfl,t,_,_,_,rfl,rfl,SqT.of ht,C4 (j:=0) rfl,p,s.fx,rfl,rfl,_,rfl,(x:Int),rfl,p&&&s.fx,x,rfl,rfl,?_⟩
  refine ⟨_,rfl,(p&&&s.fx) - ((p&&&s.fx)&&&x),0,rfl,rfl,_,rfl,M9 (fun hc=>?_) (fun hc=>?_)⟩
  ·have n2:(p&&&s.fx) - ((p&&&s.fx)&&&x)≠0:=fun z=>by rw [Zr_ z] at hc; cases hc
   have z:=q H1 s1
   rw [ea,if_pos n2] at z
   exact ⟨_,rfl,z⟩
  have n2:¬(p&&&s.fx) - ((p&&&s.fx)&&&x)≠0:=fun z=>hc (by rw [decide_eq_false z]; rfl)
  rw [if_neg n2] at ea
  have bl:=G.len m7
  refine ⟨_,rfl,t,_,_,_,rfl,rfl,SqT.of ht,C4 (j:=1) rfl,pb,rfl,⟨_,SqL.of hp⟩,W9 (K:=K) (xs:=s.bs.map vN) (fun k acc H3=>H3=H1/\acc=(K2 p (s.bs.take k)).map vN) (by rw [Θl]; omega) ⟨rfl,rfl⟩ (fun k acc H3 hk h=>?_) (fun k u acc H3 hu h=>?_) (fun acc H3 h=>?_)⟩
  ·obtain ⟨rfl,rfl⟩:=h
   exact ⟨SqL.of hp,by rw [Θl]; exact Lh p _ k⟩
  ·obtain ⟨rfl,rfl⟩:=h
   rw [Θg] at hu
   cases eb:s.bs[k]? with
   | none=>rw [eb] at hu; cases hu
   | some b=>
    rw [eb] at hu
    obtain rfl:=(Θo hu).symm
    refine ⟨rfl,_,rfl,_,rfl,b,p,rfl,rfl,b&&&p,0,rfl,rfl,_,rfl,M9 (fun hd=>?_) (fun hd=>?_)⟩
    ·have z:¬b&&&p=0:=fun z=>by rw [Zr_ z] at hd; cases hd
     refine ⟨_,rfl,_,rfl,b,p,rfl,rfl,rfl,?_⟩
     rw [Ce eb,if_neg z,Zw_]; rfl
    ·have z:b&&&p=0:=Classical.byContradiction fun z=>hd (by rw [decide_eq_false z]; rfl)
     refine ⟨rfl,?_⟩
     rw [Ce eb,if_pos z,List.append_nil]
  ·obtain ⟨rfl,rfl⟩:=h
   rw [Θl,List.take_length]
   intro lp hlp
   have sL:=s1.trans (Same.new (o:=.lst ((K2 p s.bs).map vN)) hlp)
   have hlp':(upd H3 lp (.lst ((K2 p s.bs).map vN))) lp=some (.lst ((K2 p s.bs).map vN)):=A8
   have z:=q _ sL
   generalize upd H3 lp (.lst ((K2 p s.bs).map vN))=H4 at hlp' z
   rw [ea] at z
   refine ⟨_,rfl,lp,_,rfl,.inl (SqL.of hlp'),((K2 p s.bs).map vN).length,1,rfl,rfl,_,rfl,M9 (fun he=>?_) (fun he=>?_)⟩
   ·have he':=Zj_ he
    rw [Θl] at he'
    rw [if_pos he'] at z
    revert hlp' z he'
    match K2 p s.bs with
    | []=>intro _ _ h; exact absurd h (by decide)
    | g :: l=>
     intro hlp' z _
     exact ⟨_,rfl,lp,_,_,_,rfl,rfl,SqL.of hlp',C4 (j:=0) rfl,z⟩
   ·have he':¬1 < (K2 p s.bs).length:=fun w=>he (Zr_ (by rw [Θl]; exact w))
    rw [if_neg he'] at z
    exact z
noncomputable abbrev Mr:Stmt:=top 33
theorem scTwice:FnScope ["many","rules","part","level","some","again"] ["many","rules","part"] (C3 Mr):=⟨rfl,rfl,rfl,by decide +kernel,rfl,by decide +kernel,by decide +kernel⟩
theorem Vb {f fTA fMO:Addr} {fd fdTA fdMO:FuncData} (F:Fun K "twice" "twice" Mr f fd) (GTA:FnOk P w K mg base CX0 4 fTA fdTA ["many","rules","part","some"] (Pb K)) (mTA:mg "told_again" = some (.ref fTA)) (kTA:Θk K fTA) (bTA:Binds K fdTA ["many","rules","part","some"] []) (GMO:FnOk P w K mg base CX0 3 fMO fdMO ["sets","some"] Pj) (mMO:mg "with_one_more" = some (.ref fMO)) (kMO:Θk K fMO) (bMO:Binds K fdMO ["sets","some"] []):FnOk P w K mg base CX0 5 f fd ["many","rules","part"] (Pk K):=by
 refine F.ok scTwice (fun vs H Q E h=>?_) (fun cdv A outer s H vs Q E hr h=>?_)
 ·obtain ⟨m,p,rl,rs,rfl,_⟩:=h
  rfl
 ·obtain ⟨m,p,rl,rs,rfl,m7,hp,hrl,hRs,lr,q⟩:=h
  have nd:=scTwice.nd
  have hr4:Room 4 _:=hr.mono (by decide)
  have hr3:Room 3 _:=hr.mono (by decide)
  have p7:p < 128:=Zq_ hp (El m7)
  refine ⟨_,(A9 (D1 (i:=3) nd rfl (Or.inl rfl) (G8 (A0 B0 A6)))
   (A9 (Em PassesOwn.never (D8 (Ze (K:=K) rfl hr.units) (pv 3) (G8 A6) (D9 _)) (A9 (I8 PassesOwn.never rfl (E7 (K:=K) rfl (pv 3)) (D5 (i:=4) nd rfl (Or.inl rfl)) (A9 (D1 (i:=5) nd rfl (Or.inl rfl) (C2 GTA hr4 rfl mTA kTA bTA .nil C8 (A0 (pv 0) (A0 (pv 1) (A0 (pv 2) (A0 (pv 4) A6))))))
   (C1 (F8 (D8 Bk (pv 5) N6 (D9 _)) (C1 (D0 (M8 (A0 (pv 4) (A0 (pv 5) A6))))) E1))))
   (C1 (D1 (i:=3) nd rfl (Or.inl rfl) (C2 GMO hr3 rfl mMO kMO bMO .nil C8 (A0 (pv 3) (A0 (pv 2) A6)))))))
   (C1 (D0 N6)))),?_⟩
  refine ⟨(by show 1<=sizeLine; decide),fun l0 hl0=>?_⟩
  have s1:=Same.new (o:=.lst [V.int 0]) hl0
  have hl1:(upd H l0 (.lst [V.int 0])) l0=some (.lst ((J9 p 0).map vN)):=by rw [A8,Wg p p7]; rfl
  refine ⟨fun n σ H'=>∃(i:Nat) (lp:Addr) (v4 v5:Option V),σ=[some (vN m),some (.ref rl),some (vN p),some (.ref lp),v4,v5]/\n=8 - i/\i<=8/\Same H H'/\(Bp p i).findSome? (Y7 m (rs.map Rl.d) p)=none/\H' lp=some (.lst ((J9 p i).map vN)),⟨_,0,l0,none,none,rfl,rfl,by omega,s1,rfl,hl1⟩,?_⟩
  rintro n _ H1 ⟨i,lp,v4,v5,rfl,en,hi,s2,u0,hl2⟩
  have mi:=Ct (J9 p i)
  refine ⟨_,rfl,Zp_ _,fun np hnp=>?_⟩
  have sN:=Same.new (o:=.lst []) hnp
  refine ⟨lp,np,(J9 p i).map fun (k:Nat)=>(k:Int),[],rfl,rfl,SqL.of (by rw [mi]; exact sN _ _ hl2),SqL.of A8,_,rfl,?_⟩
  have hl3:=sN _ _ hl2
  have s3:=s2.trans sN
  generalize upd H1 np (.lst [])=H3 at hl3 s3
  rw [if_pos rfl]
  refine M9 (fun hb=>?_) (fun hb=>?_)
  ·have hne:J9 p i≠[]:=fun z=>by
    rw [z] at hb
    cases hb
   have hi8:i < 8:=by
    rcases Nat.lt_or_ge i 8 with h | h
    ·exact h
    ·have:i=8:=by omega
     rw [this,We p p7] at hne
     exact absurd rfl hne
   refine ⟨_,fun _ _ h=>h,?_⟩
   refine ⟨_,rfl,lp,rfl,⟨_,SqL.of hl3⟩,I9 (K:=K) (xs:=(J9 p i).map vN) (fun j σ H'=>(∃v4 v5:Option V,σ=[some (vN m),some (.ref rl),some (vN p),some (.ref lp),v4,v5])/\Same H3 H'/\((J9 p i).take j).findSome? (Y7 m (rs.map Rl.d) p)=none) ⟨⟨_,_,rfl⟩,Same.refl _,rfl⟩ (fun j σ H' _ h=>SqL.of (h.2.1 _ _ hl3)) ?_ ?_⟩
   ·rintro j v σ H4 hv ⟨⟨v4,v5,rfl⟩,s4,u1⟩
    rw [Θg] at hv
    cases ex:(J9 p i)[j]? with
    | none=>rw [ex] at hv; cases hv
    | some x=>
     rw [ex] at hv
     obtain rfl:=(Θo hv).symm
     have hx:x < 2 ^ m:=by
      have h1:=Zv (Θe ex)
      have h2:x&&&p<=p:=Nat.and_le_right
      rw [h1] at h2
      omega
     have s34:=s3.trans s4
     refine ⟨_,rfl,_,rfl,_,rfl,_,rfl,m,p,x,rl,rs,rfl,m7,hx,s34.seq hrl,hRs.same s34,lr,fun H5 s5=>?_⟩
     cases eg:U2 m (rs.map Rl.d) p x with
     | none=>
      refine ⟨_,rfl,rfl,_,rfl,V1 ?_⟩
      exact ⟨⟨_,_,rfl⟩,s4.trans s5,Aah u1 ex (by unfold Y7; rw [eg]; rfl)⟩
     | some g=>
      refine ⟨_,rfl,rfl,_,rfl,Y1 ?_⟩
      refine ⟨_,rfl,_,rfl,(by show 2<=sizeLine; decide),fun t ht=>?_⟩
      exact q _ _ ((s34.trans s5).trans (Same.new ht)) (by rw [Adh u0 u1 hi8 ex (u:=(x,g)) (by unfold Y7; rw [eg]; rfl)]; exact ⟨t,rfl,A8⟩)
   ·rintro σ H4 ⟨⟨v4,v5,rfl⟩,s4,u1⟩
    rw [Θl] at u1
    refine ⟨_,rfl,_,rfl,lp,p,i,rfl,p7,hi8,s4 _ _ hl3,fun l H5 s5 hl50 hl5=>?_⟩
    exact ⟨8 - (i + 1),by omega,i + 1,l,_,_,rfl,rfl,by omega,(s3.trans s4).trans s5,Xh u0 u1 (Zd_ _),hl5⟩
  ·have hz:J9 p i=[]:=by
    cases z:J9 p i with
    | nil=>rfl
    | cons x xs=>exact absurd (by rw [z]; rfl) hb
   exact q _ _ s3 (by rw [Aai p7 (by omega) u0 hz]; rfl)
end
end Own
namespace Own
open PySem L2
section
variable {P:Program} {w:World} {K:Θf} {mg:Str->Option Value} {base:Heap}
seal PySem.wpAny
noncomputable abbrev Wn:Stmt:=top 34
theorem scTree:FnScope ["many","rules","part","found","one","other"] ["many","rules","part"] (C3 Wn):=⟨rfl,rfl,rfl,by decide +kernel,rfl,by decide +kernel,by decide +kernel⟩
theorem Oi {f fTW:Addr} {fd fdTW:FuncData} (F:Fun K "tree_of" "tree_of" Wn f fd) (GTW:FnOk P w K mg base CX0 5 fTW fdTW ["many","rules","part"] (Pk K)) (mTW:mg "twice" = some (.ref fTW)) (kTW:Θk K fTW) (bTW:Binds K fdTW ["many","rules","part"] []) (mTR:mg "tree_of" = some (.ref f)) (kTR:Θk K f) (bTR:Binds K fd ["many","rules","part"] []):∀n:Nat,FnOk P w K mg base CX0 (n + 6) f fd ["many","rules","part"] (Xd K n)
 | 0=>by
  refine F.ok (k:=5) scTree (fun vs H Q E h=>?_) (fun cdv A outer s H vs Q E hr h=>?_)
  ·obtain ⟨m,p,rl,rs,rfl,_⟩:=h
   rfl
  ·obtain ⟨m,p,rl,rs,rfl,m7,hp,hn,_⟩:=h
   exact absurd hn (Nat.not_lt_zero _)
 | n + 1=>by
  have GTR:=Oi F GTW mTW kTW bTW mTR kTR bTR n
  refine F.ok (k:=n + 6) scTree (fun vs H Q E h=>?_) (fun cdv A outer s H vs Q E hr h=>?_)
  ·obtain ⟨m,p,rl,rs,rfl,_⟩:=h
   rfl
  obtain ⟨m,p,rl,rs,rfl,m7,hp,hn,hrl,hRs,lr,q⟩:=h
  have nd:=scTree.nd
  have hr5:Room 5 _:=hr.mono (by omega)
  refine ⟨_,(A9 (D1 (i:=3) nd rfl (Or.inl rfl) (C2 GTW hr5 rfl mTW kTW bTW .nil C8 (A0 (pv 0) (A0 (pv 1) (A0 (pv 2) A6)))))
   (A9 (F8 (D8 Vd (pv 3) N6 (D9 _)) (C1 (D0 (M8 (A0 U6 (A0 (pv 2) A6))))) E1)
   (A9 (D1 (i:=4) nd rfl (Or.inl rfl) (C2 GTR hr rfl mTR kTR bTR .nil C8 (A0 (pv 0) (A0 (pv 1) (A0 (D6 Bw (D7 (D2 (K:=K) rfl) (pv 3) B0 (fun _ _=>rfl)) (D7 (D2 (K:=K) rfl) (pv 3) B0 (fun _ _=>rfl))) A6)))))
   (A9 (D1 (i:=5) nd rfl (Or.inl rfl) (C2 GTR hr rfl mTR kTR bTR .nil C8 (A0 (pv 0) (A0 (pv 1) (A0 (D6 Ac (pv 2) (Kc Ex (D7 (D2 (K:=K) rfl) (pv 3) B0 (fun _ _=>rfl)))) A6)))))
   (C1 (D0 (M8 (A0 U6 (A0 (pv 2) (A0 (D7 (D2 (K:=K) rfl) (pv 3) B0 (fun _ _=>rfl)) (A0 (D7 (D2 (K:=K) rfl) (pv 3) B0 (fun _ _=>rfl)) (A0 (pv 4) (A0 (pv 5) A6))))))))))))),?_⟩
  refine ⟨_,rfl,_,rfl,_,rfl,m,p,rl,rs,rfl,m7,hp,hrl,hRs,lr,fun v H1 s1 hv=>?_⟩
  cases e:twF m (rs.map Rl.d) p with
  | none=>
   rw [e] at hv
   obtain rfl:=(show v=V.non from hv)
   refine ⟨_,rfl,rfl,_,rfl,Y1 ?_⟩
   refine ⟨_,rfl,(by show 2<=sizeLine; decide),fun t ht=>?_⟩
   exact q _ _ (s1.trans (Same.new ht)) (by rw [V8 e]; exact ⟨t,rfl,A8⟩)
  | some u=>
   rw [e] at hv
   obtain ⟨a,rfl,ha⟩:=hv
   have z:=Ew hp e
   have z1:=z.one
   have z2:=z.oth
   refine ⟨_,rfl,rfl,_,rfl,V1 ?_⟩
   refine ⟨_,rfl,_,rfl,_,rfl,a,_,_,_,rfl,rfl,SqT.of ha,C4 (j:=0) rfl,_,rfl,a,_,_,_,rfl,rfl,SqT.of ha,C4 (j:=1) rfl,u.1,u.2,rfl,rfl,m,u.1|||u.2,rl,rs,rfl,m7,by omega,by omega,s1.seq hrl,hRs.same s1,lr,fun v1 H2 s2 t1=>?_⟩
   have ha2:=s2 _ _ ha
   have s12:=s1.trans s2
   refine ⟨_,rfl,_,rfl,_,rfl,_,rfl,a,_,_,_,rfl,rfl,SqT.of ha2,C4 (j:=1) rfl,(u.2:Int),rfl,p,u.2,rfl,rfl,m,p - (p&&&u.2),rl,rs,rfl,m7,by omega,by omega,s12.seq hrl,hRs.same s12,lr,fun v2 H3 s3 t2=>?_⟩
   have ha3:=s3 _ _ ha2
   refine ⟨_,rfl,_,rfl,a,_,_,_,rfl,rfl,SqT.of ha3,C4 (j:=0) rfl,_,rfl,a,_,_,_,rfl,rfl,SqT.of ha3,C4 (j:=1) rfl,_,rfl,_,rfl,(by show 6<=sizeLine; decide),fun t ht=>?_⟩
   have sn:=Same.new (o:=.tup [.str "cut",vN p,vN u.1,vN u.2,v1,v2]) ht
   exact q _ _ ((s12.trans s3).trans sn) (by rw [V9 hp e]; exact ⟨t,v1,v2,rfl,A8,(t1.same s3).same sn,t2.same sn⟩)
noncomputable abbrev Mi:Stmt:=top 35
theorem scCount:FnScope ["tree"] ["tree"] (C3 Mi):=⟨rfl,rfl,rfl,by decide +kernel,rfl,by decide +kernel,by decide +kernel⟩
theorem Ka {f:Addr} {fd:FuncData} (F:Fun K "count_parts" "count_parts" Mi f fd) (mCO:mg "count_parts" = some (.ref f)) (kCO:Θk K f) (bCO:Binds K fd ["tree"] []):∀n:Nat,FnOk P w K mg base CX0 (n + 1) f fd ["tree"] (Pf n)
 | 0=>by
  refine F.ok (k:=0) scCount (fun vs H Q E h=>?_) (fun cdv A outer s H vs Q E hr h=>?_)
  ·obtain ⟨v,t,rfl,_⟩:=h
   rfl
  ·obtain ⟨v,t,rfl,_,hn,_⟩:=h
   exact absurd hn (Nat.not_lt_zero _)
 | n + 1=>by
  have GCO:=Ka F mCO kCO bCO n
  refine F.ok (k:=n + 1) scCount (fun vs H Q E h=>?_) (fun cdv A outer s H vs Q E hr h=>?_)
  ·obtain ⟨v,t,rfl,_⟩:=h
   rfl
  obtain ⟨v,t,rfl,ht,hn,q⟩:=h
  have nd:=scCount.nd
  refine ⟨_,(A9 (F8 (D8 op_eq (D7 (D2 (K:=K) rfl) (pv 0) B0 (fun _ _=>rfl)) U6 (D9 _)) (C1 (D0 B0)) E1)
   (C1 (D0 (D6 X2 (D6 X2 B0 (C2 GCO hr rfl mCO kCO bCO .nil C8 (A0 (D7 (D2 (K:=K) rfl) (pv 0) B0 (fun _ _=>rfl)) A6))) (C2 GCO hr rfl mCO kCO bCO .nil C8 (A0 (D7 (D2 (K:=K) rfl) (pv 0) B0 (fun _ _=>rfl)) A6)))))),?_⟩
  cases t with
  | whole p=>
   obtain ⟨a,rfl,ha⟩:=ht
   refine ⟨_,rfl,a,_,_,_,rfl,rfl,SqT.of ha,C4 (j:=0) rfl,rfl,_,rfl,Y1 ?_⟩
   exact q
  | cut p s1 g l r=>
   obtain ⟨a,x,y,rfl,ha,hl,hr'⟩:=ht
   have hd:max l.dep r.dep + 1 < n + 1:=hn
   refine ⟨_,rfl,a,_,_,_,rfl,rfl,SqT.of ha,C4 (j:=0) rfl,rfl,_,rfl,M9 (fun hc=>?_) (fun _=>?_)⟩
   ·exact absurd (Zj_ hc) (by intro z; injection z with z; revert z; decide)
   exact ⟨_,rfl,a,_,_,_,rfl,rfl,SqT.of ha,C4 (j:=4) rfl,x,l,rfl,hl,by omega,1,l.cnt,rfl,rfl,_,rfl,a,_,_,_,rfl,rfl,SqT.of ha,C4 (j:=5) rfl,y,r,rfl,hr',by omega,1 + l.cnt,r.cnt,rfl,rfl,q⟩
noncomputable abbrev En:Stmt:=top 36
theorem scCutTree:FnScope ["many","rules","tree"] ["many","rules"] (C3 En):=⟨rfl,rfl,rfl,by decide +kernel,rfl,by decide +kernel,by decide +kernel⟩
theorem Lz {f fTR fAL fCO CTM:Addr} {fd fdTR fdAL fdCO:FuncData} {tkMT:PySem.Tok} (F:Fun K "cut_tree" "cut_tree" En f fd) (GTR:FnOk P w K mg base CX0 134 fTR fdTR ["many","rules","part"] (Xd K 128)) (mTR:mg "tree_of" = some (.ref fTR)) (kTR:Θk K fTR) (bTR:Binds K fdTR ["many","rules","part"] []) (GAL:FnOk P w K mg base CX0 1 fAL fdAL ["many"] Db) (mAL:mg "all_of" = some (.ref fAL)) (kAL:Θk K fAL) (bAL:Binds K fdAL ["many"] []) (GCO:FnOk P w K mg base CX0 129 fCO fdCO ["tree"] (Pf 128)) (mCO:mg "count_parts" = some (.ref fCO)) (kCO:Θk K fCO) (bCO:Binds K fdCO ["tree"] []) (OTM:Exc K "TooMany" CTM) (mMT:mg "MOST_TREE_PARTS" = some (.int 60 tkMT)):FnOk P w K mg base (CX1 P w) 135 f fd ["many","rules"] (Fx K CTM):=by
 refine F.ok1 scCutTree (fun vs H Q E h=>?_) (fun cdv A outer s H vs Q E hr h=>?_)
 ·obtain ⟨m,rl,rs,rfl,_⟩:=h
  rfl
 ·obtain ⟨m,rl,rs,rfl,m7,hrl,hRs,lr,qe,qq⟩:=h
  have nd:=scCutTree.nd
  have hr1:Room 1 _:=hr.mono (by decide)
  have hrT:Room 134 _:=hr.mono (by decide)
  have hrC:Room 129 _:=hr.mono (by decide)
  have pw:0 < 2 ^ m:=Nat.two_pow_pos m
  have p7:=El m7
  refine ⟨_,(A9 (D1 (i:=2) nd rfl (Or.inl rfl) (C2 GTR hrT rfl mTR kTR bTR .nil C8 (A0 (pv 0) (A0 (pv 1) (A0 (C2 GAL hr1 rfl mAL kAL bAL .nil C8 (A0 (pv 0) A6)) A6)))))
   (A9 (F8 (D8 Eh (C2 GCO hrC rfl mCO kCO bCO .nil C8 (A0 (pv 2) A6)) (Ol (v:=vN 60) (by rfl) mMT ⟨_,rfl⟩) (D9 _)) (C1 (Vo (EX:=E) OTM (by rfl) rfl (A0 (Acl (Ol (v:=vN 60) (by rfl) mMT ⟨_,rfl⟩)) A6) (fun _ _ _ _ _ _ _ I hx hE=>Rv I hx hE))) E1)
   (C1 (D0 (pv 2))))),?_⟩
  refine ⟨_,rfl,_,rfl,_,rfl,m,rfl,by omega,m,2 ^ m - 1,rl,rs,rfl,m7,by omega,by omega,hrl,hRs,lr,fun v H1 s1 hv=>?_⟩
  have dp:=Ip (m:=m) (rs:=rs.map Rl.d) _ (2 ^ m - 1) (Zd_ _) (by omega)
  refine ⟨_,rfl,v,_,rfl,hv,by omega,(trP m (rs.map Rl.d) (2 ^ m - 1)).cnt,60,rfl,rfl,_,rfl,M9 (fun hb=>?_) (fun hb=>?_)⟩
  ·exact ⟨_,rfl,by decide,fun x=>⟨(by show 1<=sizeLine; decide),qe (Zj_ hb) _ s1⟩⟩
  ·exact ⟨_,rfl,qq (Nat.le_of_not_lt fun z=>hb (Zr_ z)) _ _ s1 hv⟩
end
end Own
namespace Own
open PySem L2
section
variable {P:Program} {w:World} {K:Θf} {mg:Str->Option Value} {base:Heap}
seal PySem.wpAny
noncomputable abbrev Eo:Stmt:=top 9
theorem Sd:FnScope ["many"] ["many"] (C3 Eo):=⟨rfl,rfl,rfl,by decide +kernel,rfl,by decide +kernel,by decide +kernel⟩
theorem Mb {f:Addr} {fd:FuncData} (F:Fun K "noughts" "noughts" Eo f fd):FnOk P w K mg base CX0 1 f fd ["many"] Fz:=by
 refine F.ok Sd (fun vs H Q E h=>?_) (fun cdv A outer s H vs Q E hr h=>?_)
 ·obtain ⟨m,rfl,_⟩:=h
  rfl
 ·obtain ⟨m,rfl,h1,h20,q⟩:=h
  refine ⟨_,(C1 (D0 (D6 Zf (M8 (A0 B0 A6)) (pv 0)))),?_⟩
  refine ⟨(by show 1<=sizeLine; decide),fun l hl=>?_⟩
  refine ⟨_,rfl,l,V.int 0,m,rfl,rfl,A8,h1,by omega,fun e=>?_,fun e p hp=>?_⟩
  ·subst e
   exact q l _ (Same.new hl) hl A8
  ·refine q p _ ((Same.new hl).trans (Same.new hp)) ((Same.new hl).free hp) ?_
   rw [A8,List.map_replicate]
noncomputable abbrev Wl:Stmt:=top 10
theorem Ac6:FnScope ["row","part"] ["row","part"] (C3 Wl):=⟨rfl,rfl,rfl,by decide +kernel,rfl,by decide +kernel,by decide +kernel⟩
theorem Yy {f fM fN:Addr} {fd fdM fdN:FuncData} (F:Fun K "seen_row" "seen_row" Wl f fd) (GM:FnOk P w K mg base CX0 2 fM fdM ["one","other","some"] (X6 K)) (mM:mg "mixed" = some (.ref fM)) (kM:Θk K fM) (bM:Binds K fdM ["one","other","some"] []) (GN:FnOk P w K mg base CX0 1 fN fdN ["many"] Fz) (mN:mg "noughts" = some (.ref fN)) (kN:Θk K fN) (bN:Binds K fdN ["many"] []) (zlen:mg "len" = none):FnOk P w K mg base CX0 3 f fd ["row","part"] Il:=by
 refine F.ok Ac6 (fun vs H Q E h=>?_) (fun cdv A outer s H vs Q E hr h=>?_)
 ·obtain ⟨a,r,x,rfl,_⟩:=h
  rfl
 ·obtain ⟨a,r,x,rfl,ha,l1,l20,q⟩:=h
  have hr1:Room 1 _:=hr.mono (by decide)
  refine ⟨_,(C1 (D0 (C2 GM hr rfl mM kM bM .nil C8 (A0 (pv 0) (A0 (C2 GN hr1 rfl mN kN bN .nil C8 (A0 (F2 (G0 (K:=K) rfl) (by rfl) zlen PySem.boot_len (A0 (pv 0) A6)) A6)) (A0 (pv 1) A6)))))),?_⟩
  have lm:(r.map V.int).length=r.length:=Θl ..
  refine ⟨_,rfl,_,rfl,a,_,rfl,.inr (SqT.of ha),(r.map V.int).length,rfl,by omega,by omega,fun p H1 s1 hp hp1=>?_⟩
  rw [lm] at hp1
  refine ⟨_,rfl,a,p,r,List.replicate r.length 0,x,rfl,SqT.of (s1 _ _ ha),SqT.of hp1,by rw [List.length_replicate],l20,fun p2 H2 s2 hp2 hp3=>?_⟩
  exact q p2 H2 (s1.trans s2) (s1.free hp2) hp3
noncomputable abbrev Ia:Stmt:=top 11
theorem scGroups:FnScope ["book","some","groups","row"] ["book","some"] (C3 Ia):=⟨rfl,rfl,rfl,by decide +kernel,rfl,by decide +kernel,by decide +kernel⟩
theorem Rg {f fE:Addr} {fd fdE:FuncData} (F:Fun K "groups_on" "groups_on" Ia f fd) (GE:FnOk P w K mg base CX0 3 fE fdE ["row","part"] Il) (mE:mg "seen_row" = some (.ref fE)) (kE:Θk K fE) (bE:Binds K fdE ["row","part"] []):FnOk P w K mg base CX0 4 f fd ["book","some"] (Z6 K):=by
 refine F.ok scGroups (fun vs H Q E h=>?_) (fun cdv A outer s H vs Q E hr h=>?_)
 ·obtain ⟨bk,rws,x,m,rfl,_⟩:=h
  rfl
 ·obtain ⟨bk,rws,x,m,rfl,hB,hR,m1,m20,hlen,q⟩:=h
  have nd:=scGroups.nd
  refine ⟨_,(A9 (D1 (i:=2) nd rfl (Or.inl rfl) Ej)
   (A9 (I8 PassesOwn.never rfl (E7 (K:=K) rfl (pv 0)) (D5 (i:=3) nd rfl (Or.inl rfl)) (C1 (Q4 (Ah PySem.F.plainAttrs_list PySem.F.slot_list_append PySem.F.type_list_append N2 (Ack (Jp hr) (pv 2) (C2 GE hr rfl mE kE bE .nil C8 (A0 (pv 3) (A0 (pv 1) A6))) (G8 A6) ⟨rfl,rfl,rfl,rfl⟩) (A0 (pv 3) A6)))))
   (C1 (D0 (pv 2))))),?_⟩
  intro d hd
  have s0:Same H (upd H d (.dT [])):=Same.new hd
  refine ⟨_,rfl,bk,rfl,⟨_,s0.seq hB⟩,I9 (xs:=C0 rws) (fun i σ H2=>(∃v,σ=[some (.ref bk),some (vN x),some (.ref d),v])/\Same H H2/\∃G,GroupsAt H2 d G/\O5 G=F5 (rws.take i) x/\∀g∈G,H g.at_=none)
   ⟨⟨none,rfl⟩,s0,[],⟨A8,fun g hg=>absurd hg Zi_,List.nodup_nil,List.nodup_nil⟩,rfl,fun g hg=>absurd hg Zi_⟩ (fun i σ H2 _ h=>h.2.1.seq hB) ?_ ?_⟩
  ·rintro i v σ H2 hv ⟨⟨v3,rfl⟩,s2,G,A2,eG,hf⟩
   unfold C0 at hv
   rw [Θg] at hv
   cases er:rws[i]? with
   | none=>rw [er] at hv; cases hv
   | some rw0=>
    rw [er] at hv
    obtain rfl:=(Θo hv).symm
    obtain ⟨hrow,hrl⟩:=hR rw0 (Θe er)
    have tk:rws.take (i + 1)=rws.take i++[rw0]:=by rw [List.take_succ,er]; rfl
    obtain ⟨gl1,gl2⟩:=W8 x (rws.take i)
    have tl:(rws.take i).length<=300:=Zo_ (List.length_take_le _ _) (by
     have:=(Ze_.mp er).1; omega)
    refine ⟨_,rfl,d,rfl,.inr ⟨_,.inl A2.dict⟩,?_⟩
    refine ⟨_,rfl,_,rfl,rw0.1,rw0.2,x,rfl,s2 _ _ hrow,by omega,by omega,fun p H3 s3 hp hp3=>?_⟩
    refine ⟨(by show 0<=sizeLine; exact Zp_ _),fun l hl=>?_⟩
    have s34:Same H3 (upd H3 l (.lst [])):=Same.new hl
    have A4:GroupsAt (upd H3 l (.lst [])) d G:=(A2.same s3).same s34
    have hl4:(upd H3 l (.lst [])) l=some (.lst []):=A8
    have hp4:(upd H3 l (.lst [])) p=some (.tup ((C6 rw0.2 x).map V.int)):=s34 _ _ hp3
    have s4:Same H (upd H3 l (.lst [])):=s2.trans (s3.trans s34)
    have hlG:∀g∈G,g.at_≠l:=fun g hg=>C7 ((A2.same s3).lists g hg) hl
    have hlH:H l=none:=(s2.trans s3).free hl
    generalize upd H3 l (.lst [])=H4 at A4 hl4 hp4 s4
    refine ⟨F7 G,tks (C6 rw0.2 x),p,A4.dict,rfl,by rw [Ap]; exact hp4,?_,fun v hv=>?_,fun hv=>?_⟩
    ·unfold F7
     rw [Θl,W7 eG]
     exact E2 (by omega)
    ·rw [Ey] at hv
     cases ef:(G.find? fun g=>decide (g.key=C6 rw0.2 x)) with
     | none=>rw [ef] at hv; cases hv
     | some g=>
      rw [ef] at hv
      obtain rfl:=(Θo hv).symm
      obtain ⟨hm,hk,A5⟩:=A4.old (rw:=rw0) ef
      refine ⟨.inl ⟨rfl,_,SqL.of (A4.lists g hm)⟩,_,rfl,g.at_,_,_,rfl,rfl,A4.lists g hm,?_,⟨_,rfl⟩,?_,_,A5,?_,fun g' hg'=>?_⟩
      ·unfold C0
       rw [Θl]
       have h9:g.rows.length<=(rws.take i).length:=gl2 _ (K8 eG hm)
       exact E2 (by show g.rows.length<=1000; omega)
      ·exact fun b o e=>by rw [C9 (C7 e (hf g hm))]; exact s4 b o e
      ·rw [Lm (by rw [ef]; rfl),eG,tk,O9]
      ·unfold Ff at hg'
       obtain ⟨g0,h0,rfl⟩:=Θn hg'
       have:=hf g0 h0
       split <;> exact this
    ·rw [Ey] at hv
     have ef:(G.find? fun g=>decide (g.key=C6 rw0.2 x))=none:=by
      cases ef:(G.find? fun g=>decide (g.key=C6 rw0.2 x)) with
      | none=>rfl
      | some g=>rw [ef] at hv; cases hv
     have A5:=A4.snoc (rw:=rw0) ef hl4 hlG
     have hl5:(upd H4 d (.dT (P2 (F7 G) (tks (C6 rw0.2 x)) (V.ref l)))) l=some (.lst []):=by
      rw [C9 (P4 hl4 A4.dict (fun z=>nomatch z))]; exact hl4
     refine ⟨.inl ⟨rfl,_,SqL.of hl5⟩,_,rfl,l,_,_,rfl,rfl,hl5,(by show 0 < sizeLine; exact E2 (by omega)),⟨_,rfl⟩,?_,_,A5,?_,fun g' hg'=>?_⟩
     ·exact fun b o e=>by rw [C9 (C7 e hlH),C9 (C7 e hd)]; exact s4 b o e
     ·rw [Ll ef,eG,tk,O9]
     ·rcases Θa hg' with hg' | hg'
      ·exact hf g' hg'
      ·rw [Θs hg']; exact hlH
  ·rintro σ H2 ⟨⟨v3,rfl⟩,s2,G,A2,eG,hf⟩
   refine ⟨_,rfl,q d G _ s2 hd A2 ?_⟩
   rw [eG]
   unfold C0
   rw [Θl,List.take_length]
noncomputable abbrev Cy:Stmt:=top 12
theorem Wr:FnScope ["book","some"] ["book","some"] (C3 Cy):=⟨rfl,rfl,rfl,by decide +kernel,rfl,by decide +kernel,by decide +kernel⟩
theorem Rf {f fU:Addr} {fd fdU:FuncData} (F:Fun K "firsts_on" "firsts_on" Cy f fd) (GU:FnOk P w K mg base CX0 4 fU fdU ["book","some"] (Z6 K)) (mU:mg "groups_on" = some (.ref fU)) (kU:Θk K fU) (bU:Binds K fdU ["book","some"] []):FnOk P w K mg base CX0 5 f fd ["book","some"] (Km K):=by
 refine F.ok Wr (fun vs H Q E h=>?_) (fun cdv A outer s H vs Q E hr h=>?_)
 ·obtain ⟨bk,rws,x,m,rfl,_⟩:=h
  rfl
 ·obtain ⟨bk,rws,x,m,rfl,hB,hR,m1,m20,hlen,q⟩:=h
  refine ⟨_,(C1 (D0 (M1 (xs:=["rows"]) (cs ["book","some"] (C3 Cy) rfl rfl (by decide +kernel)) rfl (Hl (C2 GU hr rfl mU kU bU .nil C8 (A0 (pv 0) (A0 (pv 1) A6)))) (fun _ _ _=>D5 (i:=0) (show (["rows","book","some"]:List Str).Nodup by decide +kernel) rfl (Or.inl rfl)) (fun _ _ _=>N3) (fun _ _ _=>(D7 (E4 (K:=K) rfl) (pv 0) B0 (fun _ _=>rfl)))))),?_⟩
  refine ⟨_,rfl,_,rfl,bk,rws,x,m,rfl,hB,hR,m1,m20,hlen,fun d G H1 s1 hd A1 eG=>⟨d,_,rfl,A1.dict,fun ob=>?_⟩⟩
  obtain ⟨gl1,gl2⟩:=W8 x rws
  obtain ⟨gk,gm,gc⟩:=O6 x rws
  have Gl:=W7 eG
  have kl:(F7 G).length=G.length:=by unfold F7; rw [Θl]
  have hdf:(upd H1 d (.frz ob (.dT (F7 G)))) d=some (.frz ob (.dT (F7 G))):=A8
  have sf:Same H (upd H1 d (.frz ob (.dT (F7 G)))):=fun b o e=>by rw [C9 (C7 e hd)]; exact s1 b o e
  have lf:∀g∈G,(upd H1 d (.frz ob (.dT (F7 G)))) g.at_=some (.lst (C0 g.rows)):=fun g hg=>by
   rw [C9 (P4 (A1.lists g hg) A1.dict (fun z=>nomatch z))]; exact A1.lists g hg
  generalize upd H1 d (.frz ob (.dT (F7 G)))=H2 at hdf sf lf
  refine Yk (fun i acc H'=>H' = H2/\acc=C0 ((G.take i).map fun g=>g.rows.headD (0,[]))) (by omega) ⟨rfl,rfl⟩ (fun i acc H' hi h=>?_) (fun i k v acc H' hv h=>?_) (fun acc H' h=>?_)
  ·rw [h.1,h.2]
   refine ⟨hdf,?_⟩
   unfold C0
   rw [Θl,Θl]
   exact List.length_take_le _ _
  ·obtain ⟨rfl,rfl⟩:=h
   obtain ⟨g,eg,rfl⟩:=Lu hv
   have hg:=Θe eg
   obtain ⟨ne,_⟩:=gm _ (K8 eG hg)
   obtain ⟨r0,rs,er⟩:∃r0 rs,g.rows=r0 :: rs:=by
    cases e:g.rows with
    | nil=>exact absurd e ne
    | cons a b=>exact ⟨a,b,rfl⟩
   refine ⟨rfl,_,rfl,g.at_,_,_,_,rfl,rfl,SqL.of (lf g hg),C4 (j:=0) (v:=V.ref r0.1) (by rw [er]; rfl),rfl,?_⟩
   rw [List.take_succ,eg]
   unfold C0
   rw [Option.toList_some,Zw_,Zw_,List.map_singleton,List.map_singleton,er]
   rfl
  ·obtain ⟨rfl,rfl⟩:=h
   intro p hp
   rw [kl,List.take_length]
   have fst:∀g∈G,g.rows.headD (0,[])∈g.rows:=fun g hg=>by
    obtain ⟨ne,_⟩:=gm _ (K8 eG hg)
    cases e:g.rows with
    | nil=>exact absurd e ne
    | cons a b=>exact Θc
   refine q p _ _ (sf.trans (Same.new hp)) (sf.free hp) A8 (fun f hf=>?_) (fun rw0 hr0=>?_) (by rw [Θl]; omega)
   ·obtain ⟨g,hg,rfl⟩:=Θn hf
    exact (((gm _ (K8 eG hg)).2 _).mp (fst g hg)).1
   ·obtain ⟨y,hy,ey⟩:=gc rw0 hr0
    obtain ⟨g,hg,e1,e2⟩:=Al eG hy
    refine ⟨_,Θm ⟨g,hg,rfl⟩,?_⟩
    have:=(((gm _ (K8 eG hg)).2 _).mp (fst g hg)).2
    rw [this]
    show g.key=_
    rw [e1,ey]
noncomputable abbrev Ie:Stmt:=top 13
theorem scSettle:FnScope ["book","left","right","rows","row"] ["book","left","right"] (C3 Ie):=⟨rfl,rfl,rfl,by decide +kernel,rfl,by decide +kernel,by decide +kernel⟩
theorem Rm {f fU fL:Addr} {fd fdU fdL:FuncData} (F:Fun K "settle_breach" "settle_breach" Ie f fd) (GU:FnOk P w K mg base CX0 4 fU fdU ["book","some"] (Z6 K)) (mU:mg "groups_on" = some (.ref fU)) (kU:Θk K fU) (bU:Binds K fdU ["book","some"] []) (GL:FnOk P w K mg base CX0 3 fL fdL ["one","other","some"] (Pd K)) (mL:mg "alike" = some (.ref fL)) (kL:Θk K fL) (bL:Binds K fdL ["one","other","some"] []):FnOk P w K mg base CX0 5 f fd ["book","left","right"] (Kq K):=by
 refine F.ok scSettle (fun vs H Q E h=>?_) (fun cdv A outer s H vs Q E hr h=>?_)
 ·obtain ⟨bk,rws,x,y,m,rfl,_⟩:=h
  rfl
 ·obtain ⟨bk,rws,x,y,m,rfl,hBk,hx,hy,qn,qp⟩:=h
  have nd:=scSettle.nd
  have hr3:Room 3 _:=hr.mono (by decide)
  obtain ⟨hB,hR,m1,m7,hlen⟩:=hBk
  have m8:m < 8:=by omega
  have pw:2 ^ m<=2 ^ 7:=Nat.pow_le_pow_right (by decide) m7
  obtain ⟨gl1,gl2⟩:=W8 x rws
  obtain ⟨gk,gm,gc⟩:=O6 x rws
  refine ⟨_,(A9 (I8 PassesOwn.never rfl (Hl (C2 GU hr rfl mU kU bU .nil C8 (A0 (pv 0) (A0 (pv 1) A6)))) (D5 (i:=3) nd rfl (Or.inl rfl)) (C1 (I8 PassesOwn.never rfl (E7 (K:=K) rfl (pv 3)) (D5 (i:=4) nd rfl (Or.inl rfl)) (C1 (F8 (Hn (V2 (C2 GL hr3 rfl mL kL bL .nil C8 (A0 (D7 (E4 (K:=K) rfl) (pv 3) B0 (fun _ _=>rfl)) (A0 (pv 4) (A0 (pv 2) A6)))))) (C1 (D0 (M8 (A0 (D7 (E4 (K:=K) rfl) (pv 3) B0 (fun _ _=>rfl)) (A0 (pv 4) A6))))) E1)))))
   (C1 (D0 N6))),?_⟩
  refine ⟨_,rfl,_,rfl,bk,rws,x,m,rfl,hB,hR,m1,by omega,hlen,fun d G H1 s1 hd A1 eG=>⟨d,_,rfl,A1.dict,fun ob=>?_⟩⟩
  have Gl:=W7 eG
  have kl:(F7 G).length=G.length:=by unfold F7; rw [Θl]
  have hdf:(upd H1 d (.frz ob (.dT (F7 G)))) d=some (.frz ob (.dT (F7 G))):=A8
  have sf:Same H (upd H1 d (.frz ob (.dT (F7 G)))):=fun b o e=>by rw [C9 (C7 e hd)]; exact s1 b o e
  have lf:∀g∈G,(upd H1 d (.frz ob (.dT (F7 G)))) g.at_=some (.lst (C0 g.rows)):=fun g hg=>by
   rw [C9 (P4 (A1.lists g hg) A1.dict (fun z=>nomatch z))]; exact A1.lists g hg
  generalize upd H1 d (.frz ob (.dT (F7 G)))=H2 at hdf sf lf
  have inG:∀g∈G,∀rw0,rw0∈g.rows↔rw0∈rws/\C6 rw0.2 x=g.key:=fun g hg=>(gm _ (K8 eG hg)).2
  refine Jn (fun i σ H'=>(∃v3 v4,σ=[some (.ref bk),some (vN x),some (vN y),v3,v4])/\Same H2 H'/\∀j g,j < i->G[j]? = some g->∀a∈g.rows,∀b∈g.rows,C6 a.2 y=C6 b.2 y) ⟨⟨none,none,rfl⟩,Same.refl _,fun j g h=>absurd h (Nat.not_lt_zero _)⟩ (fun i σ H' _ h=>h.2.1 _ _ hdf) ?_ ?_
  ·rintro i k v σ H' hv ⟨⟨v3,v4,rfl⟩,s',hj⟩
   obtain ⟨g,eg,rfl⟩:=Lu hv
   have hg:=Θe eg
   obtain ⟨ne,_⟩:=gm _ (K8 eG hg)
   obtain ⟨r0,rs,er⟩:∃r0 rs,g.rows=r0 :: rs:=by
    cases e:g.rows with
    | nil=>exact absurd e ne
    | cons a b=>exact ⟨a,b,rfl⟩
   have hr0:r0∈g.rows:=by rw [er]; exact Θc
   obtain ⟨r0r,r0k⟩:=(inG g hg r0).mp hr0
   obtain ⟨t0,l0⟩:=hR r0 r0r
   refine ⟨_,rfl,g.at_,rfl,⟨_,SqL.of (s' _ _ (lf g hg))⟩,I9 (xs:=C0 g.rows) (fun j σ H''=>(∃v4,σ=[some (.ref bk),some (vN x),some (vN y),some (.ref g.at_),v4])/\Same H2 H''/\∀b∈g.rows.take j,C6 r0.2 y=C6 b.2 y) ⟨⟨_,rfl⟩,s',fun b h=>absurd h (by rw [List.take_zero]; exact Zi_)⟩ (fun j σ H'' _ h=>SqL.of (h.2.1 _ _ (lf g hg))) ?_ ?_⟩
   ·rintro j v σ H'' hv' ⟨⟨v4',rfl⟩,s'',hb⟩
    unfold C0 at hv'
    rw [Θg] at hv'
    cases eb:g.rows[j]? with
    | none=>rw [eb] at hv'; cases hv'
    | some b=>
     rw [eb] at hv'
     obtain rfl:=(Θo hv').symm
     have hbm:=Θe eb
     obtain ⟨bb,bk'⟩:=(inG g hg b).mp hbm
     obtain ⟨tb,lb⟩:=hR b bb
     have S:=sf.trans s''
     have cl:∀c∈L1 y,c < m:=fun c hc=>((Ed m8 hy).mp hc).1
     refine ⟨_,rfl,g.at_,_,_,_,rfl,rfl,SqL.of (s'' _ _ (lf g hg)),C4 (j:=0) (v:=V.ref r0.1) (by rw [er]; rfl),_,rfl,_,rfl,r0.1,b.1,r0.2,b.2,y,rfl,SqT.of (S _ _ t0),SqT.of (S _ _ tb),by omega,fun c hc=>⟨by have:=cl c hc; omega,by have:=cl c hc; omega⟩,fun H3 s3=>⟨_,rfl,?_⟩⟩
     have S3:=S.trans s3
     cases ea:Dg r0.2 b.2 y with
     | true=>
      refine V1 ?_
      refine ⟨⟨_,rfl⟩,s''.trans s3,fun c hc=>?_⟩
      rw [List.take_succ,eb] at hc
      rcases Θa hc with hc | hc
      ·exact hb c hc
      ·have ec:c=b:=by simpa using hc
       rw [ec]
       exact (Dh m8 hy l0 lb).mp ea
     | false=>
      refine Y1 ?_
      refine ⟨_,rfl,g.at_,_,_,_,rfl,rfl,SqL.of (s3 _ _ (s'' _ _ (lf g hg))),C4 (j:=0) (v:=V.ref r0.1) (by rw [er]; rfl),_,rfl,(by show 2<=sizeLine; decide),fun p hp=>?_⟩
      refine qp p r0 b _ ⟨r0r,bb,by rw [r0k,bk'],fun e=>?_⟩ (S3.trans (Same.new hp)) (S3.free hp) A8
      rw [(Dh m8 hy l0 lb).mpr e] at ea
      cases ea
   ·rintro σ H'' ⟨⟨v4',rfl⟩,s'',hb⟩
    have hb':∀b∈g.rows,C6 r0.2 y=C6 b.2 y:=fun b hbm=>hb b (by
     unfold C0
     rw [Θl,List.take_length]; exact hbm)
    refine ⟨⟨_,_,rfl⟩,s'',fun j g' hj' eg'=>?_⟩
    rcases Nat.lt_succ_iff_lt_or_eq.mp hj' with z | rfl
    ·exact hj j g' z eg'
    ·rw [eg] at eg'
     obtain rfl:=Θo eg'
     exact fun a ha b hb''=>(hb' a ha).symm.trans (hb' b hb'')
  ·rintro σ H' ⟨⟨v3,v4,rfl⟩,s',hj⟩
   refine qn H' (sf.trans s') fun a ha b hb hab=>?_
   obtain ⟨z,hz,ez⟩:=gc a ha
   obtain ⟨g,hg,e1,e2⟩:=Al eG hz
   obtain ⟨j,hjl,ej⟩:=List.getElem_of_mem hg
   refine hj j g (by rw [kl]; exact hjl) (by rw [Θh hjl,ej]) a ((inG g hg a).mpr ⟨ha,by rw [e1,ez]⟩) b ((inG g hg b).mpr ⟨hb,by rw [e1,ez,hab]⟩)
noncomputable abbrev Oz:Stmt:=top 14
theorem scLack:FnScope ["rows","held","there","rest","others","one","other"] ["rows","held"] (C3 Oz):=⟨rfl,rfl,rfl,by decide +kernel,rfl,by decide +kernel,by decide +kernel⟩
theorem Yv {f fA fF fM:Addr} {fd fdA fdF fdM:FuncData} (F:Fun K "lacking_mix" "lacking_mix" Oz f fd) (GA:FnOk P w K mg base CX0 1 fA fdA ["many"] Db) (mA:mg "all_of" = some (.ref fA)) (kA:Θk K fA) (bA:Binds K fdA ["many"] []) (GF:FnOk P w K mg base CX0 5 fF fdF ["book","some"] (Km K)) (mF:mg "firsts_on" = some (.ref fF)) (kF:Θk K fF) (bF:Binds K fdF ["book","some"] []) (GM:FnOk P w K mg base CX0 2 fM fdM ["one","other","some"] (X6 K)) (mM:mg "mixed" = some (.ref fM)) (kM:Θk K fM) (bM:Binds K fdM ["one","other","some"] []) (zdict:mg "dict" = none) (zlen:mg "len" = none):FnOk P w K mg base CX0 6 f fd ["rows","held"] (Xb K):=by
 refine F.ok scLack (fun vs H Q E h=>?_) (fun cdv A outer s H vs Q E hr h=>?_)
 ·obtain ⟨bk,rws,x,m,rfl,_⟩:=h
  rfl
 ·obtain ⟨bk,rws,x,m,rfl,hBk,hx,hne,qn,qp⟩:=h
  have nd:=scLack.nd
  have hr1:Room 1 _:=hr.mono (by decide)
  have hr2:Room 2 _:=hr.mono (by decide)
  have hBk':=hBk
  obtain ⟨hB,hR,m1,m7,hlen⟩:=hBk
  have m8:m < 8:=by omega
  have pw:2 ^ m<=2 ^ 7:=Nat.pow_le_pow_right (by decide) m7
  obtain ⟨r0,rs0,er0⟩:∃r0 rs,rws=r0 :: rs:=by
   cases e:rws with
   | nil=>exact absurd e hne
   | cons a b=>exact ⟨a,b,rfl⟩
  have hr0:r0∈rws:=by rw [er0]; exact Θc
  refine ⟨_,(A9 (D1 (i:=2) nd rfl (Or.inl rfl) (E5 (Gj rfl hr.units) (by rfl) zdict PyProof.Rows.boot_dict (A0 (M1 (xs:=["row"]) (cs ["rows","held","there","rest","others","one","other"] (C3 Oz) rfl rfl (by decide +kernel)) rfl (E7 (K:=K) rfl (pv 0)) (fun _ _ _=>D5 (i:=0) (show (["row","rows","held","there","rest","others","one","other"]:List Str).Nodup by decide +kernel) rfl (Or.inl rfl)) (fun _ _ _=>N3) (fun _ _ _=>(M8 (A0 (pv 0) (A0 X8 A6))))) A6)))
   (A9 (D1 (i:=3) nd rfl (Or.inl rfl) (D6 op_and (C2 GA hr1 rfl mA kA bA .nil C8 (A0 (F2 (G0 (K:=K) rfl) (by rfl) zlen PySem.boot_len (A0 (D7 (E4 (K:=K) rfl) (pv 0) B0 (fun _ _=>rfl)) A6)) A6)) (Kc Ex (pv 1))))
   (A9 (D1 (i:=4) nd rfl (Or.inl rfl) (C2 GF hr rfl mF kF bF .nil C8 (A0 (pv 0) (A0 (pv 3) A6))))
   (A9 (I8 PassesOwn.never rfl (E7 (K:=K) rfl (C2 GF hr rfl mF kF bF .nil C8 (A0 (pv 0) (A0 (pv 1) A6)))) (D5 (i:=5) nd rfl (Or.inl rfl)) (C1 (I8 PassesOwn.never rfl (E7 (K:=K) rfl (pv 4)) (D5 (i:=6) nd rfl (Or.inl rfl)) (C1 (F8 (Acq (Rp (Jp hr) (C2 GM hr2 rfl mM kM bM .nil C8 (A0 (pv 5) (A0 (pv 6) (A0 (pv 1) A6)))) (pv 2))) (C1 (D0 (M8 (A0 (pv 5) (A0 (pv 6) A6))))) E1)))))
   (C1 (D0 N6)))))),?_⟩
  refine ⟨_,rfl,bk,rfl,⟨_,hB⟩,W9 (xs:=C0 rws) (fun i acc H'=>∃ps:List Pr,acc=ps.map (fun p=>V.ref p.t)/\ps.length=i/\Same H H'/\(∀p∈ps,p.At H')/\ps.map (·.k)=(rws.take i).map fun rw0=>tks rw0.2) (by unfold C0; rw [Θl]; omega)
   ⟨[],rfl,rfl,Same.refl _,(fun p h=>absurd h Zi_),rfl⟩ (fun i acc H' hi h=>?_) (fun i v acc H' hv h=>?_) (fun acc H' h=>?_)⟩
  ·obtain ⟨ps,rfl,e,s',_⟩:=h
   exact ⟨s'.seq hB,by rw [Θl,e]; exact Zd_ _⟩
  ·obtain ⟨ps,rfl,e,s',hAt,hk⟩:=h
   unfold C0 at hv
   rw [Θg] at hv
   cases er:rws[i]? with
   | none=>rw [er] at hv; cases hv
   | some b=>
    rw [er] at hv
    obtain rfl:=(Θo hv).symm
    obtain ⟨tb,lb⟩:=hR b (Θe er)
    refine ⟨rfl,_,rfl,(by show 2<=sizeLine; decide),fun t ht=>?_⟩
    have sn:=Same.new (o:=.tup [V.ref b.1,V.bl true]) ht
    refine ⟨ps++[⟨t,tks b.2,b.1,.bl true⟩],by rw [Zw_]; rfl,by rw [Zv_,e]; rfl,s'.trans sn,fun p hp=>?_,?_⟩
    ·rcases Θa hp with hp | hp
     ·exact ⟨sn _ _ (hAt p hp).1,sn _ _ (hAt p hp).2⟩
     ·rw [Θs hp]
      exact ⟨A8,by rw [Ap]; exact sn _ _ (s' _ _ tb)⟩
    ·rw [Zw_,hk,List.take_succ,er,Zw_]
     rfl
  obtain ⟨ps,rfl,epl,s1,hAt,hk⟩:=h
  have rl:(C0 rws).length=rws.length:=by unfold C0; rw [Θl]
  rw [rl,List.take_length] at hk
  intro l hl
  have sl:=Same.new (o:=.lst (ps.map fun p=>V.ref p.t)) hl
  refine ⟨l,ps,rfl,A8,fun p hp=>⟨sl _ _ (hAt p hp).1,sl _ _ (hAt p hp).2⟩,by omega,fun d hd=>?_⟩
  have s2:Same H (upd (upd H' l (.lst (ps.map fun p=>V.ref p.t))) d (.dT (Z2 [] ps))):=s1.trans (sl.trans (Same.new hd))
  have hd2:(upd (upd H' l (.lst (ps.map fun p=>V.ref p.t))) d (.dT (Z2 [] ps))) d=some (.dT (Z2 [] ps)):=A8
  generalize upd (upd H' l (.lst (ps.map fun p=>V.ref p.t))) d (.dT (Z2 [] ps))=H2 at s2 hd2
  obtain ⟨t0,l0⟩:=hR r0 hr0
  refine ⟨_,rfl,bk,_,_,_,rfl,rfl,s2.seq hB,C4 (j:=0) (v:=V.ref r0.1) (by rw [er0]; rfl),r0.1,_,rfl,.inr (SqT.of (s2 _ _ t0)),(r0.2.map V.int).length,rfl,by rw [Θl]; omega,_,rfl,_,rfl,_,_,rfl,rfl,?_⟩
  dsimp only
  rw [Θl,l0,Zr m m8 x hx]
  have hrest:2 ^ m - 1 - x < 2 ^ m:=by omega
  refine ⟨_,rfl,_,rfl,bk,rws,2 ^ m - 1 - x,m,rfl,s2.seq hB,hR.same s2,m1,by omega,hlen,fun po fo H3 s3 hpo hpo3 fo1 fo2 fo3=>?_⟩
  refine ⟨_,rfl,_,rfl,bk,rws,x,m,rfl,(s2.trans s3).seq hB,(hR.same s2).same s3,m1,by omega,hlen,fun pe fe H4 s4 hpe hpe4 fe1 fe2 fe3=>?_⟩
  have s24:Same H2 H4:=s3.trans s4
  have hpo4:=s4 _ _ hpo3
  refine ⟨pe,rfl,⟨_,SqL.of hpe4⟩,I9 (xs:=C0 fe) (fun i σ H'=>(∃v5 v6,σ=[some (.ref bk),some (vN x),some (.ref d),some (vN (2 ^ m - 1 - x)),some (.ref po),v5,v6])/\Same H4 H'/\∀a∈fe.take i,∀b∈fo,∃c∈rws,c.2=K6 a.2 b.2 x) ⟨⟨none,none,rfl⟩,Same.refl _,fun a h=>absurd h (by rw [List.take_zero]; exact Zi_)⟩ (fun i σ H' _ h=>SqL.of (h.2.1 _ _ hpe4)) ?_ ?_⟩
  ·rintro i v σ H' hv ⟨⟨v5,v6,rfl⟩,s',hc⟩
   unfold C0 at hv
   rw [Θg] at hv
   cases er:fe[i]? with
   | none=>rw [er] at hv; cases hv
   | some a=>
    rw [er] at hv
    obtain rfl:=(Θo hv).symm
    have ha:=fe1 a (Θe er)
    obtain ⟨ta,la⟩:=hR a ha
    refine ⟨_,rfl,po,rfl,⟨_,SqL.of (s' _ _ hpo4)⟩,I9 (xs:=C0 fo) (fun j σ H''=>(∃v6,σ=[some (.ref bk),some (vN x),some (.ref d),some (vN (2 ^ m - 1 - x)),some (.ref po),some (.ref a.1),v6])/\Same H4 H''/\∀b∈fo.take j,∃c∈rws,c.2=K6 a.2 b.2 x) ⟨⟨_,rfl⟩,s',fun b h=>absurd h (by rw [List.take_zero]; exact Zi_)⟩ (fun j σ H'' _ h=>SqL.of (h.2.1 _ _ hpo4)) ?_ ?_⟩
    ·rintro j v σ H'' hv' ⟨⟨v6',rfl⟩,s'',hc'⟩
     unfold C0 at hv'
     rw [Θg] at hv'
     cases eb:fo[j]? with
     | none=>rw [eb] at hv'; cases hv'
     | some b=>
      rw [eb] at hv'
      obtain rfl:=(Θo hv').symm
      have hb:=fo1 b (Θe eb)
      obtain ⟨tb,lb⟩:=hR b hb
      have S:Same H H'':=s2.trans (s24.trans s'')
      refine ⟨_,rfl,_,rfl,_,rfl,a.1,b.1,a.2,b.2,x,rfl,SqT.of (S _ _ ta),SqT.of (S _ _ tb),by omega,by omega,fun p5 H5 s5 hp5 hp6=>?_⟩
      have hd5:=s5 _ _ (s'' _ _ (s24 _ _ hd2))
      refine ⟨_,rfl,d,_,rfl,DGet.t (k:=tks (K6 a.2 b.2 x)) hd5 (by rw [Ap]; exact hp6),_,rfl,?_⟩
      rw [Ch]
      have iff:(ps.any fun p=>decide (p.k=tks (K6 a.2 b.2 x)))=true↔∃c∈rws,c.2=K6 a.2 b.2 x:=by
       rw [List.any_eq_true]
       constructor
       ·rintro ⟨p,hp,e⟩
        have:p.k∈rws.map fun rw0=>tks rw0.2:=by rw [<-hk]; exact Θm ⟨p,hp,rfl⟩
        obtain ⟨c,hcm,ec⟩:=Θn this
        exact ⟨c,hcm,Dd (ec.trans (Zj_ e))⟩
       ·rintro ⟨c,hcm,ec⟩
        have:tks c.2∈ps.map (·.k):=by rw [hk]; exact Θm ⟨c,hcm,rfl⟩
        obtain ⟨p,hp,ep⟩:=Θn this
        exact ⟨p,hp,Zr_ (by rw [ep,ec])⟩
      cases en:(ps.any fun p=>decide (p.k=tks (K6 a.2 b.2 x))) with
      | true=>
       refine V1 ?_
       refine ⟨⟨_,rfl⟩,s''.trans s5,fun c hcc=>?_⟩
       rw [List.take_succ,eb] at hcc
       rcases Θa hcc with hcc | hcc
       ·exact hc' c hcc
       ·have ec:c=b:=by simpa using hcc
        rw [ec]
        exact iff.mp en
      | false=>
       refine Y1 ?_
       refine ⟨_,rfl,_,rfl,(by show 2<=sizeLine; decide),fun p hp=>?_⟩
       refine qp p a b _ ⟨ha,hb,fun c hcm ec=>?_⟩ ((S.trans s5).trans (Same.new hp)) ((S.trans s5).free hp) A8
       rw [iff.mpr ⟨c,hcm,ec⟩] at en
       cases en
    ·rintro σ H'' ⟨⟨v6',rfl⟩,s'',hc'⟩
     have fl:(C0 fo).length=fo.length:=by unfold C0; rw [Θl]
     rw [fl,List.take_length] at hc'
     refine ⟨⟨_,_,rfl⟩,s'',fun c hcc=>?_⟩
     rw [List.take_succ,er] at hcc
     rcases Θa hcc with hcc | hcc
     ·exact hc c hcc
     ·have ec:c=a:=by simpa using hcc
      rw [ec]
      exact hc'
  ·rintro σ H' ⟨⟨v5,v6,rfl⟩,s',hc⟩
   have fl:(C0 fe).length=fe.length:=by unfold C0; rw [Θl]
   rw [fl,List.take_length] at hc
   refine qn H' (s2.trans (s24.trans s')) fun a ha b hb=>?_
   obtain ⟨a',ha',ea⟩:=fe2 a ha
   obtain ⟨b',hb',eb⟩:=fo2 b hb
   obtain ⟨c,hcm,ec⟩:=hc a' ha' b' hb'
   refine ⟨c,hcm,ec.trans ?_⟩
   exact Qu m8 hx (hR a' (fe1 a' ha')).2 (hR b' (fo1 b' hb')).2 (hR a ha).2 (hR b hb).2 ea eb
noncomputable abbrev Wi:Stmt:=top 15
theorem scDeal:FnScope ["book","left","right","rows","found"] ["book","left","right"] (C3 Wi):=⟨rfl,rfl,rfl,by decide +kernel,rfl,by decide +kernel,by decide +kernel⟩
theorem Yt {f fU fX:Addr} {fd fdU fdX:FuncData} (F:Fun K "deal_breach" "deal_breach" Wi f fd) (GU:FnOk P w K mg base CX0 4 fU fdU ["book","some"] (Z6 K)) (mU:mg "groups_on" = some (.ref fU)) (kU:Θk K fU) (bU:Binds K fdU ["book","some"] []) (GX:FnOk P w K mg base CX0 6 fX fdX ["rows","held"] (Xb K)) (mX:mg "lacking_mix" = some (.ref fX)) (kX:Θk K fX) (bX:Binds K fdX ["rows","held"] []):FnOk P w K mg base CX0 7 f fd ["book","left","right"] (Wz K):=by
 refine F.ok scDeal (fun vs H Q E h=>?_) (fun cdv A outer s H vs Q E hr h=>?_)
 ·obtain ⟨bk,rws,x,y,m,rfl,_⟩:=h
  rfl
 ·obtain ⟨bk,rws,x,y,m,rfl,hBk,hx,hy,qn,qp⟩:=h
  have nd:=scDeal.nd
  have hr4:Room 4 _:=hr.mono (by decide)
  obtain ⟨hB,hR,m1,m7,hlen⟩:=hBk
  have m8:m < 8:=by omega
  have pw:2 ^ m<=2 ^ 7:=Nat.pow_le_pow_right (by decide) m7
  obtain ⟨gl1,gl2⟩:=W8 x rws
  obtain ⟨gk,gm,gc⟩:=O6 x rws
  refine ⟨_,(A9 (I8 PassesOwn.never rfl (Hl (C2 GU hr4 rfl mU kU bU .nil C8 (A0 (pv 0) (A0 (pv 1) A6)))) (D5 (i:=3) nd rfl (Or.inl rfl)) (A9 (D1 (i:=4) nd rfl (Or.inl rfl) (C2 GX hr rfl mX kX bX .nil C8 (A0 (pv 3) (A0 (D6 Bw (pv 1) (pv 2)) A6))))
   (C1 (F8 (D8 Bk (pv 4) N6 (D9 _)) (C1 (D0 (pv 4))) E1))))
   (C1 (D0 N6))),?_⟩
  refine ⟨_,rfl,_,rfl,bk,rws,x,m,rfl,hB,hR,m1,by omega,hlen,fun d G H1 s1 hd A1 eG=>⟨d,_,rfl,A1.dict,fun ob=>?_⟩⟩
  have Gl:=W7 eG
  have kl:(F7 G).length=G.length:=by unfold F7; rw [Θl]
  have hdf:(upd H1 d (.frz ob (.dT (F7 G)))) d=some (.frz ob (.dT (F7 G))):=A8
  have sf:Same H (upd H1 d (.frz ob (.dT (F7 G)))):=fun b o e=>by rw [C9 (C7 e hd)]; exact s1 b o e
  have lf:∀g∈G,(upd H1 d (.frz ob (.dT (F7 G)))) g.at_=some (.lst (C0 g.rows)):=fun g hg=>by
   rw [C9 (P4 (A1.lists g hg) A1.dict (fun z=>nomatch z))]; exact A1.lists g hg
  generalize upd H1 d (.frz ob (.dT (F7 G)))=H2 at hdf sf lf
  have inG:∀g∈G,∀rw0,rw0∈g.rows↔rw0∈rws/\C6 rw0.2 x=g.key:=fun g hg=>(gm _ (K8 eG hg)).2
  have hxy:x|||y < 2 ^ m:=Nat.or_lt_two_pow hx hy
  refine Jn (fun i σ H'=>(∃v3 v4,σ=[some (.ref bk),some (vN x),some (vN y),v3,v4])/\Same H2 H'/\∀j g,j < i->G[j]? = some g->∀a∈g.rows,∀b∈g.rows,∃c∈g.rows,c.2=K6 a.2 b.2 (x|||y)) ⟨⟨none,none,rfl⟩,Same.refl _,fun j g h=>absurd h (Nat.not_lt_zero _)⟩ (fun i σ H' _ h=>h.2.1 _ _ hdf) ?_ ?_
  ·rintro i k v σ H' hv ⟨⟨v3,v4,rfl⟩,s',hj⟩
   obtain ⟨g,eg,rfl⟩:=Lu hv
   have hg:=Θe eg
   obtain ⟨ne,_⟩:=gm _ (K8 eG hg)
   have gr:∀b∈g.rows,b∈rws:=fun b hb=>((inG g hg b).mp hb).1
   have S:=sf.trans s'
   have gl:g.rows.length<=rws.length:=gl2 _ (K8 eG hg)
   refine ⟨_,rfl,_,rfl,_,rfl,x,y,rfl,rfl,g.at_,g.rows,x|||y,m,rfl,⟨SqL.of (s' _ _ (lf g hg)),fun b hb=>(hR.same S) b (gr b hb),m1,m7,by omega⟩,hxy,ne,fun H3 s3 ok=>?_,fun p a b H3 bad s3 hp hp3=>?_⟩
   ·refine ⟨_,rfl,rfl,_,rfl,?_⟩
    refine V1 ?_
    refine ⟨⟨_,_,rfl⟩,s'.trans s3,fun j g' hj' eg'=>?_⟩
    rcases Nat.lt_succ_iff_lt_or_eq.mp hj' with z | rfl
    ·exact hj j g' z eg'
    ·rw [eg] at eg'
     obtain rfl:=Θo eg'
     exact ok
   ·refine ⟨_,rfl,rfl,_,rfl,?_⟩
    refine Y1 ?_
    refine ⟨_,rfl,?_⟩
    obtain ⟨ha,hb,hc⟩:=bad
    obtain ⟨ha1,ha2⟩:=(inG g hg a).mp ha
    obtain ⟨hb1,hb2⟩:=(inG g hg b).mp hb
    refine qp p a b H3 ⟨ha1,hb1,ha2.trans hb2.symm,fun c hcm ec=>hc c ((inG g hg c).mpr ⟨hcm,?_⟩) ec⟩ (S.trans s3) (S.free hp) hp3
    rw [ec,Wu m8 hx hy (hR a ha1).2,ha2]
  ·rintro σ H' ⟨⟨v3,v4,rfl⟩,s',hj⟩
   refine qn H' (sf.trans s') fun a ha b hb hab=>?_
   obtain ⟨z,hz,ez⟩:=gc a ha
   obtain ⟨g,hg,e1,e2⟩:=Al eG hz
   obtain ⟨j,hjl,ej⟩:=List.getElem_of_mem hg
   obtain ⟨c,hc,ec⟩:=hj j g (by rw [kl]; exact hjl) (by rw [Θh hjl,ej]) a ((inG g hg a).mpr ⟨ha,by rw [e1,ez]⟩) b ((inG g hg b).mpr ⟨hb,by rw [e1,ez,hab]⟩)
   exact ⟨c,((inG g hg c).mp hc).1,ec⟩
noncomputable abbrev Hy:Stmt:=top 16
theorem Wq:FnScope ["book","rule"] ["book","rule"] (C3 Hy):=⟨rfl,rfl,rfl,by decide +kernel,rfl,by decide +kernel,by decide +kernel⟩
theorem Rc {f fS2 fD2:Addr} {fd fdS2 fdD2:FuncData} (F:Fun K "breach" "breach" Hy f fd) (GS2:FnOk P w K mg base CX0 5 fS2 fdS2 ["book","left","right"] (Kq K)) (mS2:mg "settle_breach" = some (.ref fS2)) (kS2:Θk K fS2) (bS2:Binds K fdS2 ["book","left","right"] []) (GD2:FnOk P w K mg base CX0 7 fD2 fdD2 ["book","left","right"] (Wz K)) (mD2:mg "deal_breach" = some (.ref fD2)) (kD2:Θk K fD2) (bD2:Binds K fdD2 ["book","left","right"] []):FnOk P w K mg base CX0 8 f fd ["book","rule"] (Kl K):=by
 refine F.ok Wq (fun vs H Q E h=>?_) (fun cdv A outer s H vs Q E hr h=>?_)
 ·obtain ⟨bk,r,rws,st,x,y,m,rfl,_⟩:=h
  rfl
 ·obtain ⟨bk,r,rws,st,x,y,m,rfl,hBk,hr',hx,hy,qn,qp⟩:=h
  have hr5:Room 5 _:=hr.mono (by decide)
  refine ⟨_,(A9 (F8 (D8 op_eq (D7 (D2 (K:=K) rfl) (pv 1) B0 (fun _ _=>rfl)) U6 (D9 _)) (C1 (D0 (C2 GS2 hr5 rfl mS2 kS2 bS2 .nil C8 (A0 (pv 0) (A0 (D7 (D2 (K:=K) rfl) (pv 1) B0 (fun _ _=>rfl)) (A0 (D7 (D2 (K:=K) rfl) (pv 1) B0 (fun _ _=>rfl)) A6)))))) E1)
   (C1 (D0 (C2 GD2 hr rfl mD2 kD2 bD2 .nil C8 (A0 (pv 0) (A0 (D7 (D2 (K:=K) rfl) (pv 1) B0 (fun _ _=>rfl)) (A0 (D7 (D2 (K:=K) rfl) (pv 1) B0 (fun _ _=>rfl)) A6))))))),?_⟩
  have ix:∀(j:Nat) (v:V),([.str (La st),vN x,vN y]:List V)[j]? = some v->atI ([.str (La st),vN x,vN y]:List V) (j:Int)=some v:=fun j v e=>C4 e
  refine ⟨_,rfl,r,_,_,_,rfl,rfl,SqT.of hr',ix 0 _ rfl,rfl,_,rfl,?_⟩
  cases st with
  | true=>
   refine Y1 ?_
   refine ⟨_,rfl,_,rfl,r,_,_,_,rfl,rfl,SqT.of hr',ix 1 _ rfl,_,rfl,r,_,_,_,rfl,rfl,SqT.of hr',ix 2 _ rfl,?_⟩
   exact ⟨bk,rws,x,y,m,rfl,hBk,hx,hy,fun H' s' ok=>qn H' s' ok,fun p a b H' bad s' hp hp'=>qp p a b H' bad s' hp hp'⟩
  | false=>
   refine M9 (fun hc=>?_) (fun _=>?_)
   ·exact absurd (Zj_ hc) (by intro z; injection z with z; revert z; decide)
   refine ⟨_,rfl,_,rfl,r,_,_,_,rfl,rfl,SqT.of hr',ix 1 _ rfl,_,rfl,r,_,_,_,rfl,rfl,SqT.of hr',ix 2 _ rfl,?_⟩
   exact ⟨bk,rws,x,y,m,rfl,hBk,hx,hy,fun H' s' ok=>qn H' s' ok,fun p a b H' bad s' hp hp'=>qp p a b H' bad s' hp hp'⟩
noncomputable abbrev Ml:Stmt:=top 17
theorem scKeeps:FnScope ["book","rules","rule"] ["book","rules"] (C3 Ml):=⟨rfl,rfl,rfl,by decide +kernel,rfl,by decide +kernel,by decide +kernel⟩
theorem Uw {f fB:Addr} {fd fdB:FuncData} (F:Fun K "keeps" "keeps" Ml f fd) (GB:FnOk P w K mg base CX0 8 fB fdB ["book","rule"] (Kl K)) (mB:mg "breach" = some (.ref fB)) (kB:Θk K fB) (bB:Binds K fdB ["book","rule"] []):FnOk P w K mg base CX0 9 f fd ["book","rules"] (Pg K):=by
 refine F.ok scKeeps (fun vs H Q E h=>?_) (fun cdv A outer s H vs Q E hr h=>?_)
 ·obtain ⟨bk,rl,rws,rs,m,rfl,_⟩:=h
  rfl
 ·obtain ⟨bk,rl,rws,rs,m,rfl,hBk,hrl,hlen,hrs,q⟩:=h
  have nd:=scKeeps.nd
  refine ⟨_,(A9 (I8 PassesOwn.never rfl (E7 (K:=K) rfl (pv 1)) (D5 (i:=2) nd rfl (Or.inl rfl)) (C1 (F8 (D8 Bk (C2 GB hr rfl mB kB bB .nil C8 (A0 (pv 0) (A0 (pv 2) A6))) N6 (D9 _)) (C1 (D0 X8)) E1)))
   (C1 (D0 X8))),?_⟩
  refine ⟨_,rfl,rl,rfl,⟨_,hrl⟩,I9 (xs:=rs.map fun r=>V.ref r.r) (fun i σ H'=>(∃v,σ=[some (.ref bk),some (.ref rl),v])/\Same H H'/\∀r∈rs.take i,ROk rws r.st r.x r.y) ⟨⟨none,rfl⟩,Same.refl _,fun r h=>absurd h (by rw [List.take_zero]; exact Zi_)⟩ (fun i σ H' _ h=>h.2.1.seq hrl) ?_ ?_⟩
  ·rintro i v σ H' hv ⟨⟨v2,rfl⟩,s',hok⟩
   rw [Θg] at hv
   cases er:rs[i]? with
   | none=>rw [er] at hv; cases hv
   | some r=>
    rw [er] at hv
    obtain rfl:=(Θo hv).symm
    obtain ⟨ra,rx,ry⟩:=hrs r (Θe er)
    refine ⟨_,rfl,_,rfl,bk,r.r,rws,r.st,r.x,r.y,m,rfl,hBk.same s',s' _ _ ra,rx,ry,fun H3 s3 ok=>?_,fun p a b H3 bad s3 hp hp3=>?_⟩
    ·refine ⟨rfl,_,rfl,?_⟩
     refine V1 ?_
     refine ⟨⟨_,rfl⟩,s'.trans s3,fun z hz=>?_⟩
     rw [List.take_succ,er] at hz
     rcases Θa hz with hz | hz
     ·exact hok z hz
     ·have ez:z=r:=by simpa using hz
      rw [ez]; exact ok
    ·refine ⟨rfl,_,rfl,?_⟩
     refine Y1 ?_
     exact q false _ (s'.trans s3) ⟨fun z=>absurd z Zf_,fun all=>absurd (all r (Θe er)) bad.not⟩
  ·rintro σ H' ⟨⟨v2,rfl⟩,s',hok⟩
   refine q true H' s' ⟨fun _=>?_,fun _=>rfl⟩
   rw [Θl,List.take_length] at hok
   exact hok
noncomputable abbrev Cz:Stmt:=top 18
theorem scSeenOn:FnScope ["book","part"] ["book","part"] (C3 Cz):=⟨rfl,rfl,rfl,by decide +kernel,rfl,by decide +kernel,by decide +kernel⟩
theorem Rk {f fE:Addr} {fd fdE:FuncData} (F:Fun K "seen_on" "seen_on" Cz f fd) (GE:FnOk P w K mg base CX0 3 fE fdE ["row","part"] Il) (mE:mg "seen_row" = some (.ref fE)) (kE:Θk K fE) (bE:Binds K fdE ["row","part"] []) (zset:mg "set" = none) (zsorted:mg "sorted" = none):FnOk P w K mg base CX0 4 f fd ["book","part"] (Z7 K):=by
 refine F.ok scSeenOn (fun vs H Q E h=>?_) (fun cdv A outer s H vs Q E hr h=>?_)
 ·obtain ⟨bk,rws,x,m,rfl,_⟩:=h
  rfl
 ·obtain ⟨bk,rws,x,m,rfl,hB,hR,m1,m20,hlen,q⟩:=h
  have nd:=scSeenOn.nd
  refine ⟨_,(C1 (D0 (F2 (Gp rfl) (by rfl) zsorted PyProof.Rows.boot_sorted (A0 (E5 (Px (K:=K) rfl rfl hr.units) (by rfl) zset PyProof.Rows.boot_set (A0 (M1 (xs:=["row"]) (cs ["book","part"] (C3 Cz) rfl rfl (by decide +kernel)) rfl (E7 (K:=K) rfl (pv 0)) (fun _ _ _=>D5 (i:=0) (show (["row","book","part"]:List Str).Nodup by decide +kernel) rfl (Or.inl rfl)) (fun _ _ _=>N3) (fun _ _ _=>(C2 GE hr rfl mE kE bE .nil C8 (A0 (pv 0) (A0 (pv 2) A6))))) A6)) A6)))),?_⟩
  refine ⟨_,rfl,bk,rfl,⟨_,hB⟩,?_⟩
  refine W9 (xs:=C0 rws) (fun i acc H'=>Same H H'/\∃w:List RW,acc=C0 w/\w.length=i/\RowsOk H' m w/\w.map (·.2)=(rws.take i).map fun r=>C6 r.2 x) (by unfold C0; rw [Θl]; omega) ⟨Same.refl _,[],rfl,rfl,fun r h=>absurd h List.not_mem_nil,rfl⟩ (fun i acc H' hi h=>?_) (fun i y acc H' hy h=>?_) (fun acc H' h=>?_)
  ·obtain ⟨s',w,rfl,lw,_⟩:=h
   refine ⟨s'.seq hB,?_⟩
   unfold C0
   rw [Θl,lw]
   exact Zd_ _
  ·obtain ⟨s',w,rfl,lw,R',ew⟩:=h
   unfold C0 at hy
   rw [Θg] at hy
   cases er:rws[i]? with
   | none=>rw [er] at hy; cases hy
   | some rw0=>
    rw [er] at hy
    obtain rfl:=(Θo hy).symm
    obtain ⟨hrow,hrl⟩:=hR rw0 (Θe er)
    refine ⟨rfl,_,rfl,_,rfl,rw0.1,rw0.2,x,rfl,s' _ _ hrow,by omega,by omega,fun p H3 s3 hp hp3=>⟨s'.trans s3,w++[(p,C6 rw0.2 x)],?_,?_,fun r hr0=>?_,?_⟩⟩
    ·unfold C0
     rw [Zw_]
     rfl
    ·rw [Zv_,lw]
     rfl
    ·rcases Θa hr0 with hr0 | hr0
     ·exact R'.same s3 r hr0
     ·rw [Θs hr0]
      exact ⟨hp3,(E8 _ _).trans hrl⟩
    ·rw [List.take_succ,er,Zw_,Zw_,ew]
     rfl
  ·obtain ⟨s1,ws,rfl,lw,R1,ew⟩:=h
   have lrw:(C0 rws).length=rws.length:=Θl ..
   rw [lrw] at lw ew
   rw [List.take_length] at ew
   intro e he
   have s2:=Same.new (o:=.lst (C0 ws)) he
   refine ⟨e,m,ws,rfl,SqL.of A8,R1.same s2,by omega,fun l ws' hl sub mem nd'=>?_⟩
   have lw':ws'.length<=ws.length:=by
    have:=Ee nd' fun k hk=>(mem k).mp hk
    rw [Θl,Θl] at this
    exact this
   have s3:=Same.new (o:=tsO w l ws') hl
   have R3:=(R1.same s2).same s3
   refine ⟨l,m,ws',rfl,A8,fun r hr0=>R3 r (sub r hr0),m1,by omega,fun l2 w2 hl2 pr up=>?_⟩
   have s4:=Same.new (o:=.lst (C0 w2)) hl2
   refine q l2 w2 _ (s1.trans (s2.trans (s3.trans s4))) (s1.free (s2.free (s3.free hl2))) A8 (fun r hr0=>(R3.same s4) r (sub r (pr.mem_iff.mp hr0))) (Asc.of up ((pr.map (·.2)).nodup_iff.mpr nd') fun k=>?_)
   rw [(pr.map (·.2)).mem_iff,mem k,ew]
noncomputable abbrev Ac1:Stmt:=top 19
theorem scPut:FnScope ["one","part","other","beside","both","matches","found","row","match"] ["one","part","other","beside"] (C3 Ac1):=⟨rfl,rfl,rfl,by decide +kernel,rfl,by decide +kernel,by decide +kernel⟩
theorem Ab8 {f fO fU fE fM:Addr} {fd fdO fdU fdE fdM:FuncData} (F:Fun K "put_together" "put_together" Ac1 f fd) (GO:FnOk P w K mg base CX0 4 fO fdO ["book","part"] (Z7 K)) (mO:mg "seen_on" = some (.ref fO)) (kO:Θk K fO) (bO:Binds K fdO ["book","part"] []) (GU:FnOk P w K mg base CX0 4 fU fdU ["book","some"] (Z6 K)) (mU:mg "groups_on" = some (.ref fU)) (kU:Θk K fU) (bU:Binds K fdU ["book","some"] []) (GE:FnOk P w K mg base CX0 3 fE fdE ["row","part"] Il) (mE:mg "seen_row" = some (.ref fE)) (kE:Θk K fE) (bE:Binds K fdE ["row","part"] []) (GM:FnOk P w K mg base CX0 2 fM fdM ["one","other","some"] (X6 K)) (mM:mg "mixed" = some (.ref fM)) (kM:Θk K fM) (bM:Binds K fdM ["one","other","some"] []) (zsorted:mg "sorted" = none):FnOk P w K mg base CX0 5 f fd ["one","part","other","beside"] (Aa4 K):=by
 refine F.ok scPut (fun vs H Q E h=>?_) (fun cdv A outer s H vs Q E hr h=>?_)
 ·obtain ⟨b1,b2,r1,r2,x,y,m,rfl,_⟩:=h
  rfl
 ·obtain ⟨b1,b2,r1,r2,x,y,m,rfl,hb1,hb2,R1,R2,m1,m20,l1,l2,h64,q⟩:=h
  have nd:=scPut.nd
  have hr3:Room 3 _:=hr.mono (by decide)
  have hr2:Room 2 _:=hr.mono (by decide)
  refine ⟨_,(A9 (D1 (i:=4) nd rfl (Or.inl rfl) (D6 X3 (pv 1) (pv 3)))
   (A9 (D1 (i:=5) nd rfl (Or.inl rfl) (C2 GU hr rfl mU kU bU .nil C8 (A0 (C2 GO hr rfl mO kO bO .nil C8 (A0 (pv 2) (A0 (pv 3) A6))) (A0 (pv 4) A6))))
   (A9 (D1 (i:=6) nd rfl (Or.inl rfl) (G8 A6))
   (A9 (I8 PassesOwn.never rfl (E7 (K:=K) rfl (C2 GO hr rfl mO kO bO .nil C8 (A0 (pv 0) (A0 (pv 1) A6)))) (D5 (i:=7) nd rfl (Or.inl rfl)) (C1 (I8 PassesOwn.never rfl (E7 (K:=K) rfl (Vj (Jp hr) (pv 5) (C2 GE hr3 rfl mE kE bE .nil C8 (A0 (pv 7) (A0 (pv 4) A6))) (G8 A6) ⟨rfl,rfl,rfl,rfl⟩)) (D5 (i:=8) nd rfl (Or.inl rfl)) (C1 (Q4 (Ah PySem.F.plainAttrs_list PySem.F.slot_list_append PySem.F.type_list_append N2 (pv 6) (A0 (C2 GM hr2 rfl mM kM bM .nil C8 (A0 (pv 7) (A0 (pv 8) (A0 (pv 1) A6)))) A6)))))))
   (C1 (D0 (F2 (Go (K:=K) rfl) (by rfl) zsorted PyProof.Rows.boot_sorted (A0 (pv 6) A6)))))))),?_⟩
  refine ⟨_,rfl,_,rfl,x,y,rfl,rfl,?_⟩
  refine ⟨_,rfl,_,rfl,b2,r2,y,m,rfl,hb2,R2,m1,m20,l2,fun w2a w2 H1 s1 hw2a hw2 Rw2 A2=>?_⟩
  have lw2:w2.length<=300:=Zo_ A2.lenR l2
  refine ⟨_,rfl,w2a,w2,x&&&y,m,rfl,SqL.of hw2,Rw2,m1,m20,by omega,fun d G H2 s2 hd Gd eG=>?_⟩
  refine ⟨(by show 0<=sizeLine; exact Zp_ _),fun p hp=>?_⟩
  have sp:=Same.new (o:=.lst []) hp
  have s02:=s1.trans s2
  have s0p:=s02.trans sp
  have hpH:H p=none:=s02.free hp
  refine ⟨_,rfl,_,rfl,b1,r1,x,m,rfl,s0p.seq hb1,R1.same s0p,m1,m20,l1,fun w1a w1 H3 s3 hw1a hw1 Rw1 A1=>?_⟩
  have lw1:w1.length<=300:=Zo_ A1.lenR l1
  have s2p:=sp.trans s3
  have hp3:H3 p=some (.lst []):=s3 _ _ A8
  have Gd3:=Gd.same s2p
  have Rw23:=(Rw2.same s2).same s2p
  have s03:=s0p.trans s3
  have l64:=h64 w1 w2 A1 A2
  have gne:∀g∈G,g.at_≠p:=fun g hg=>C7 (Gd.lists g hg) hp
  have dne:d≠p:=C7 Gd.dict hp
  have w1ne:w1a≠p:=fun z=>by rw [z,A8] at hw1a; cases hw1a
  have tupk:∀{Ha Hb:Hp},But p Ha Hb->Ha p=some (.lst [])\/(∃ys,Ha p=some (.lst ys))->∀t xs,Ha t=some (.tup xs)->Hb t=some (.tup xs):=fun B hp' t xs e=>B t _ e fun z=>by
   subst z
   rcases hp' with hp' | ⟨ys,hp'⟩ <;> rw [hp'] at e <;> cases e
  refine ⟨w1a,rfl,⟨_,SqL.of hw1⟩,I9 (xs:=C0 w1) (PtA b1 b2 d p x y m w1 w2 H3) ⟨⟨_,_,rfl⟩,But.refl _ _,[],hp3,fun r h=>absurd h Zi_,rfl⟩ (fun i σ H' _ h=>SqL.of (h.2.1 _ _ hw1 w1ne)) ?_ ?_⟩
  ·rintro i v σ H4 hv ⟨⟨v7,v8,rfl⟩,B4,ws,hp4,R4,e4⟩
   unfold C0 at hv
   rw [Θg] at hv
   cases er:w1[i]? with
   | none=>rw [er] at hv; cases hv
   | some a=>
    rw [er] at hv
    obtain rfl:=(Θo hv).symm
    have am:=Θe er
    have ta4:H4 a.1=some (.tup (a.2.map V.int)):=tupk B4 (.inl hp3) _ _ (Rw1 a am).1
    have la:=(Rw1 a am).2
    have hd4:=B4 _ _ Gd3.dict dne
    refine ⟨_,rfl,d,rfl,.inr ⟨_,.inl hd4⟩,?_⟩
    refine ⟨_,rfl,_,rfl,a.1,a.2,x&&&y,rfl,ta4,by omega,by omega,fun t5 H5 s5 ht5 ht5'=>?_⟩
    refine ⟨(by show 0<=sizeLine; exact Zp_ _),fun l6 hl6=>?_⟩
    have s6:=s5.trans (Same.new (o:=.lst []) hl6)
    have hl6':(upd H5 l6 (.lst [])) l6=some (.lst []):=A8
    have hd6:=s6 _ _ hd4
    have ht6:(upd H5 l6 (.lst [])) t5=some (.tup ((C6 a.2 (x&&&y)).map V.int)):=(Same.new (o:=.lst []) hl6) _ _ ht5'
    have hp6:=s6 _ _ hp4
    have ta6:=s6 _ _ ta4
    have l6ne:l6≠p:=fun z=>by
     have:=(s5 _ _ hp4)
     rw [<-z,hl6] at this
     cases this
    have R6:=R4.same s6
    generalize upd H5 l6 (.lst [])=H6 at s6 hl6' hd6 ht6 hp6 ta6 R6
    obtain ⟨fs,hfs⟩:∃fs,fs=w2.filter fun b=>decide (C6 b.2 (x&&&y)=C6 a.2 (x&&&y)):=⟨_,rfl⟩
    have lfs:fs.length<=300:=by
     rw [hfs]
     exact Zo_ (List.length_filter_le _ _) lw2
    obtain ⟨g6,hg6,ev,g6ne⟩:∃g6,H6 g6=some (.lst (C0 fs))/\(O2 (F7 G) (tks (C6 a.2 (x&&&y)))).getD (V.ref l6)=V.ref g6/\g6≠p:=by
     have ga:=Qd (s:=x&&&y) (rws:=w2) (C6 a.2 (x&&&y))
     rw [<-hfs,<-eG] at ga
     unfold O5 at ga
     rw [List.find?_map] at ga
     rw [Ey]
     cases ef:G.find? fun g=>decide (g.key=C6 a.2 (x&&&y)) with
     | some g=>
      have gm:=List.mem_of_find?_eq_some ef
      have:(G.find? ((fun g:List Int × List RW=>decide (g.1=C6 a.2 (x&&&y))) ∘ fun g=>(g.key,g.rows)))=some g:=ef
      rw [this] at ga
      have ga':g.rows=fs:=ga
      refine ⟨g.at_,?_,rfl,gne g gm⟩
      rw [<-ga']
      exact s6 _ _ (B4 _ _ (Gd3.lists g gm) (gne g gm))
     | none=>
      have:(G.find? ((fun g:List Int × List RW=>decide (g.1=C6 a.2 (x&&&y))) ∘ fun g=>(g.key,g.rows)))=none:=ef
      rw [this] at ga
      have ga':[]=fs:=ga
      refine ⟨l6,?_,rfl,l6ne⟩
      rw [<-ga']
      exact hl6'
    have lws:ws.length < 1000:=by
     have h1:=congrArg List.length e4
     rw [Θl] at h1
     have h2:T0 w1 w2 (x&&&y) x=((w1.take i).flatMap fun a=>Dz a w2 (x&&&y) x)++((w1.drop i).flatMap fun a=>Dz a w2 (x&&&y) x):=by
      rw [<-List.flatMap_append,List.take_append_drop]
      rfl
     rw [h2,Zv_] at l64
     omega
    refine ⟨_,DGet.t (k:=tks (C6 a.2 (x&&&y))) hd6 (by rw [Ap]; exact ht6),g6,ev,⟨_,SqL.of hg6⟩,I9 (xs:=C0 fs) (PtB b1 b2 d p x y m a fs ws H6) ⟨⟨_,rfl⟩,But.refl _ _,ws,hp6,R6,by simp⟩ (fun j σ H' _ h=>SqL.of (h.2.1 _ _ hg6 g6ne)) ?_ ?_⟩
    ·rintro j v σ H7 hv ⟨⟨v8',rfl⟩,B7,ws',hp7,R7,e7⟩
     unfold C0 at hv
     rw [Θg] at hv
     cases eb:fs[j]? with
     | none=>rw [eb] at hv; cases hv
     | some b=>
      rw [eb] at hv
      obtain rfl:=(Θo hv).symm
      have bm:b∈w2:=by
       have:=Θe eb
       rw [hfs] at this
       exact (List.mem_filter.mp this).1
      have tb7:=tupk B7 (.inr ⟨_,hp6⟩) _ _ (s6 _ _ (tupk B4 (.inl hp3) _ _ (Rw23 b bm).1))
      have ta7:=tupk B7 (.inr ⟨_,hp6⟩) _ _ ta6
      have lb:=(Rw23 b bm).2
      have lws':ws'.length<=1500:=by
       have:=congrArg List.length e7
       rw [Θl,Zv_,Θl,Θl,ZB] at this
       omega
      refine ⟨_,rfl,.inl ⟨rfl,_,SqL.of hp7⟩,_,rfl,_,rfl,_,rfl,a.1,b.1,a.2,b.2,x,rfl,SqT.of ta7,SqT.of tb7,by omega,by omega,fun t8 H8 s8 ht8 ht8'=>?_⟩
      have hp8:=s8 _ _ hp7
      refine ⟨p,_,_,rfl,rfl,hp8,by unfold C0; rw [Θl]; exact Si (by omega),⟨_,rfl⟩,fun c o e c1=>?_,ws'++[(t8,K6 a.2 b.2 x)],?_,fun r hr0=>?_,?_⟩
      ·rw [C9 c1]
       exact s8 _ _ (B7 c o e c1)
      ·rw [A8]
       unfold C0
       rw [Zw_]
       rfl
      ·rcases Θa hr0 with hr0 | hr0
       ·exact ⟨T9 hp8 _ _ (s8 _ _ (R7 r hr0).1),(R7 r hr0).2⟩
       ·rw [Θs hr0]
        exact ⟨T9 hp8 _ _ ht8',(O4 _ _ _).trans la⟩
      ·rw [Zw_,e7,List.take_succ,eb,Zw_,Zy_]
       rfl
    ·rintro σ H7 ⟨⟨v8',rfl⟩,B7,ws',hp7,R7,e7⟩
     have lrf:(C0 fs).length=fs.length:=Θl ..
     rw [lrf,List.take_length] at e7
     refine ⟨⟨_,_,rfl⟩,(B4.trans fun c o e _=>s6 c o e).trans B7,ws',hp7,R7,?_⟩
     rw [e7,e4,List.take_succ,er,List.flatMap_append,hfs]
     unfold Dz
     simp
  ·rintro σ H4 ⟨⟨v7,v8,rfl⟩,B4,ws,hp4,R4,e4⟩
   have lrf:(C0 w1).length=w1.length:=Θl ..
   rw [lrf,List.take_length] at e4
   have lws:ws.length < 1000:=by
    have:=congrArg List.length e4
    rw [Θl] at this
    rw [this]
    exact l64
   refine ⟨_,rfl,p,m,ws,rfl,SqL.of hp4,R4,m1,lws,fun l w' hl pr up=>?_⟩
   have s5:=Same.new (o:=.lst (C0 w')) hl
   have s04:Same H H4:=fun b o e=>B4 b o (s03 b o e) (C7 e hpH)
   refine q l w' w1 w2 _ A1 A2 (s04.trans s5) (s04.free hl) A8 (fun r hr0=>(R4.same s5) r (pr.mem_iff.mp hr0)) ?_ up
   rw [show T0 w1 w2 (x&&&y) x=ws.map (·.2) from e4.symm]
   exact pr.map _
end
end Own
namespace Own
open PySem L2
section
variable {P:Program} {w:World} {K:Θf} {mg:Str->Option Value} {base:Heap}
seal PySem.wpAny
noncomputable abbrev Wm:Stmt:=top 39
theorem scTake:FnScope ["_law_state","_law_most","_law_at","_law_script","_law_mingled"] ["_law_state","_law_most"] (C3 Wm):=⟨rfl,rfl,rfl,by decide +kernel,rfl,by decide +kernel,by decide +kernel⟩
theorem Yz {f:Addr} {fd:FuncData} (F:Fun K "_law_take" "_law_take" Wm f fd) (zlen:mg "len" = none):FnOk P w K mg base CX0 1 f fd ["_law_state","_law_most"] (U9 K):=by
 refine F.ok scTake (fun vs H Q E h=>?_) (fun cdv A outer s H vs Q E hr h=>?_)
 ·obtain ⟨st,ns,k,most,rfl,_⟩:=h
  rfl
 ·obtain ⟨st,ns,k,most,rfl,⟨sc,hst,hscF⟩,hk,hl,hm,q⟩:=h
  have nd:=scTake.nd
  refine ⟨_,(A9 (D1 (i:=2) nd rfl (Or.inl rfl) (D7 (E4 (K:=K) rfl) (pv 0) B0 (fun _ _=>rfl)))
   (A9 (Hm (D6 op_add (pv 2) B0) (Vm (pv 0) B0 Kk))
   (A9 (D1 (i:=3) nd rfl (Or.inl rfl) (D7 (E4 (K:=K) rfl) (pv 0) B0 (fun _ _=>rfl)))
   (A9 (F8 (D8 op_lt (pv 2) (F2 (G0 (K:=K) rfl) (by rfl) zlen PySem.boot_len (A0 (pv 3) A6)) (D9 _)) (C1 (D0 (D6 op_mod (D7 (E4 (K:=K) rfl) (pv 3) (pv 2) (fun _ _=>rfl)) (pv 1)))) E1)
   (A9 (D1 (i:=4) nd rfl (Or.inl rfl) (D6 op_add (D6 op_add (D6 op_mul (pv 2) (pv 2)) (D6 op_mul B0 (pv 2))) B0))
   (A9 (F8 (D8 op_gt (F2 (G0 (K:=K) rfl) (by rfl) zlen PySem.boot_len (A0 (pv 3) A6)) B0 (D9 _)) (C1 (D1 (i:=4) nd rfl (Or.inl rfl) (D6 op_add (pv 4) (D6 op_mul (D6 op_mod (D7 (E4 (K:=K) rfl) (pv 3) (D6 op_mod (D6 op_add (D6 op_mul B0 (pv 2)) B0) (F2 (G0 (K:=K) rfl) (by rfl) zlen PySem.boot_len (A0 (pv 3) A6))) (fun _ _=>rfl)) B0) B0)))) E1)
   (C1 (D0 (D6 op_mod (D6 op_mod (D6 op_mul (pv 4) (pv 4)) B0) (pv 1)))))))))),?_⟩
  refine ⟨_,rfl,st,_,_,_,rfl,rfl,SqL.of hst,C4 (j:=1) rfl,?_⟩
  refine ⟨_,rfl,_,_,rfl,rfl,_,rfl,st,_,1,1,rfl,rfl,hst,rfl,?_⟩
  have bt:But st H (upd H st (.lst [.ref sc,.int ((k:Int) + 1)])):=But.put st H _
  have hscF':SqF K (upd H st (.lst [.ref sc,.int ((k:Int) + 1)])) sc ns:=STF.seq hst hscF bt
  have hsc':=hscF'.sq
  have s':L2.STF K (upd H st (.lst [.ref sc,.int ((k:Int) + 1)])) st ns (k + 1):=⟨sc,by rw [A8]; rfl,hscF'⟩
  refine ⟨_,rfl,st,_,_,_,rfl,rfl,SqL.of A8,C4 (j:=0) rfl,?_⟩
  have len1:(ns.map V.int).length=ns.length:=Θl ..
  refine ⟨_,rfl,_,rfl,sc,_,rfl,.inl hsc',_,_,rfl,rfl,_,rfl,?_⟩
  refine M9 (fun hc=>?_) (fun hc=>?_)
  ·have hlt:k < ns.length:=by
    have:=Zj_ hc
    rw [len1] at this
    omega
   refine ⟨_,rfl,_,rfl,sc,_,_,_,rfl,rfl,hsc',C4 (j:=k) (v:=V.int ns[k]) (by simp [hlt]),_,rfl,_,_,rfl,rfl,hm,?_⟩
   exact q _ _ (He _ hm) (Hd _ hm) s' bt
  ·have kk0:(0:Int)<=(k:Int) * k:=Int.mul_nonneg (by omega) (by omega)
   have kk1:(k:Int) * k<=1000000 * 1000000:=Int.mul_le_mul (by omega) (by omega) (by omega) (by omega)
   refine ⟨_,rfl,_,rfl,_,_,rfl,rfl,.inl ⟨by omega,by omega⟩,_,rfl,_,_,rfl,rfl,.inl ⟨by decide,by decide⟩,_,_,rfl,rfl,_,_,rfl,rfl,?_⟩
   have fin:∀z:Int,0<=z->z < 1000000000000000000->(Ael (tOp (rI (fun _ j=>0 < j) fun i j=>V.int (i % j)) (tOp (rI (fun _ j=>0 < j) fun i j=>V.int (i % j)) (tOp (rI CMul fun i j=>V.int (i * j)) (Mw 4) (Mw 4)) (tC (.int 2147483647))) (Mw 1)))
     { nx:=fun _ H'=>Q .non H',rt:=Q } [some (.ref st),some (.int most),some (.int k),some (.ref sc),some (.int z)] (upd H st (.lst [.ref sc,.int ((k:Int) + 1)])):=fun z z0 z1=>
    ⟨_,rfl,_,rfl,_,_,rfl,rfl,.inl ⟨by omega,by omega⟩,_,_,rfl,rfl,(by show (0:Int) < _; decide),_,rfl,_,_,rfl,rfl,hm,q _ _ (He _ hm) (Hd _ hm) s' bt⟩
   refine ⟨_,rfl,sc,_,rfl,.inl hsc',_,_,rfl,rfl,_,rfl,?_⟩
   refine M9 (fun hc2=>?_) (fun hc2=>?_)
   ·have hpos:0 < ns.length:=by
     have:=Zj_ hc2
     rw [len1] at this
     omega
    have hp':(0:Int) < ((ns.map V.int).length:Int):=by rw [len1]; omega
    obtain ⟨j,ej,hj⟩:∃j:Nat,((5 * (k:Int) + 2) % ((ns.map V.int).length:Int))=(j:Int)/\j < ns.length:=by
     have h1:=He (5 * (k:Int) + 2) hp'
     have h2:=Hd (5 * (k:Int) + 2) hp'
     rw [len1] at h1 h2 ⊢
     exact ⟨((5 * (k:Int) + 2) % (ns.length:Int)).toNat,by omega,by omega⟩
    have m0:=He ns[j] (show (0:Int) < 2147483629 by decide)
    have m1:=Hd ns[j] (show (0:Int) < 2147483629 by decide)
    refine ⟨_,rfl,_,rfl,_,rfl,_,_,rfl,rfl,.inl ⟨by decide,by decide⟩,_,_,rfl,rfl,_,rfl,sc,_,rfl,.inl hsc',_,_,rfl,rfl,hp',sc,_,_,_,rfl,rfl,hsc',(by rw [ej]; exact C4 (j:=j) (v:=V.int ns[j]) (by simp [hj])),_,_,rfl,rfl,(by show (0:Int) < _; decide),_,_,rfl,rfl,.inr ⟨by decide,by decide⟩,_,_,rfl,rfl,?_⟩
    exact fin _ (by omega) (by omega)
   ·exact fin _ (by omega) (by omega)
noncomputable abbrev Ac2:Stmt:=top 40
theorem scSet:FnScope ["_law_state","_law_many","_law_way","_law_some"] ["_law_state","_law_many"] (C3 Ac2):=⟨rfl,rfl,rfl,by decide +kernel,rfl,by decide +kernel,by decide +kernel⟩
theorem Ab9 {f fT:Addr} {fd fdT:FuncData} (F:Fun K "_law_set" "_law_set" Ac2 f fd) (GT:FnOk P w K mg base CX0 1 fT fdT ["_law_state","_law_most"] (U9 K)) (mT:mg "_law_take" = some (.ref fT)) (kT:Θk K fT) (bT:Binds K fdT ["_law_state","_law_most"] []):FnOk P w K mg base CX0 2 f fd ["_law_state","_law_many"] (Mu K):=by
 refine F.ok scSet (fun vs H Q E h=>?_) (fun cdv A outer s H vs Q E hr h=>?_)
 ·obtain ⟨st,ns,k,m,rfl,_⟩:=h
  rfl
 ·obtain ⟨st,ns,k,m,rfl,S,hk,hl,hm1,hm7,q⟩:=h
  have nd:=scSet.nd
  refine ⟨_,(A9 (D1 (i:=2) nd rfl (Or.inl rfl) (C2 GT hr rfl mT kT bT .nil C8 (A0 (pv 0) (A0 B0 A6))))
   (A9 (D1 (i:=3) nd rfl (Or.inl rfl) (C2 GT hr rfl mT kT bT .nil C8 (A0 (pv 0) (A0 (D6 op_shl B0 (pv 1)) A6))))
   (A9 (F8 (D8 op_eq (pv 2) B0 (D9 _)) (C1 (D0 (D6 op_and (pv 3) (C2 GT hr rfl mT kT bT .nil C8 (A0 (pv 0) (A0 (D6 op_shl B0 (pv 1)) A6)))))) E1)
   (A9 (F8 (D8 op_eq (pv 2) B0 (D9 _)) (C1 (D0 (D6 op_or (pv 3) (C2 GT hr rfl mT kT bT .nil C8 (A0 (pv 0) (A0 (D6 op_shl B0 (pv 1)) A6)))))) E1)
   (A9 (F8 (D8 op_eq (pv 2) B0 (D9 _)) (C1 (D0 (D6 op_shl B0 (C2 GT hr rfl mT kT bT .nil C8 (A0 (pv 0) (A0 (pv 1) A6)))))) E1)
   (C1 (D0 (pv 3)))))))),?_⟩
  have cp:Xu 1 (m:Int):=Tg (by omega)
  have e1:=Ac7 m
  have pw:0 < 2 ^ m:=Nat.two_pow_pos m
  refine ⟨_,rfl,st,ns,k,4,rfl,S,by omega,hl,by decide,fun r1 H1 a1 b1 S1 B1=>?_⟩
  refine ⟨_,rfl,_,rfl,_,_,rfl,rfl,cp,st,ns,k + 1,_,rfl,S1,by omega,hl,by rw [e1]; omega,fun r2 H2 a2 b2 S2 B2=>?_⟩
  rw [e1] at b2
  obtain ⟨n2,rfl,hn2⟩:=K9 a2 b2
  have B12:=B1.trans B2
  refine ⟨_,rfl,rfl,_,rfl,?_⟩
  refine M9 (fun _=>?_) (fun _=>?_)
  ·refine ⟨_,rfl,_,rfl,_,rfl,_,_,rfl,rfl,cp,st,ns,k + 2,_,rfl,S2,by omega,hl,by rw [e1]; omega,fun r3 H3 a3 b3 S3 B3=>?_⟩
   rw [e1] at b3
   obtain ⟨n3,rfl,hn3⟩:=K9 a3 b3
   refine ⟨_,_,rfl,rfl,?_⟩
   show Q (V.int (Builtin.bitAnd (n2:Int) (n3:Int))) _
   rw [W3]
   exact q _ _ _ (Abd hn2) (Zd_ _) S3 (B12.trans B3)
  refine ⟨_,rfl,rfl,_,rfl,?_⟩
  refine M9 (fun _=>?_) (fun _=>?_)
  ·refine ⟨_,rfl,_,rfl,_,rfl,_,_,rfl,rfl,cp,st,ns,k + 2,_,rfl,S2,by omega,hl,by rw [e1]; omega,fun r3 H3 a3 b3 S3 B3=>?_⟩
   rw [e1] at b3
   obtain ⟨n3,rfl,hn3⟩:=K9 a3 b3
   refine ⟨_,_,rfl,rfl,?_⟩
   show Q (V.int (Builtin.bitOr (n2:Int) (n3:Int))) _
   rw [Fk]
   exact q _ _ _ (Nat.or_lt_two_pow hn2 hn3) (Zd_ _) S3 (B12.trans B3)
  refine ⟨_,rfl,rfl,_,rfl,?_⟩
  refine M9 (fun _=>?_) (fun _=>?_)
  ·refine ⟨_,rfl,_,rfl,st,ns,k + 2,(m:Int),rfl,S2,by omega,hl,by omega,fun r3 H3 a3 b3 S3 B3=>?_⟩
   obtain ⟨n3,rfl,hn3⟩:=K9 a3 b3
   refine ⟨_,_,rfl,rfl,Tg (by omega),?_⟩
   show Q (V.int (1 * 2 ^ (n3:Int).toNat)) _
   rw [Ac7]
   exact q _ _ _ (Nat.pow_lt_pow_right (by decide) hn3) (Zd_ _) S3 (B12.trans B3)
  ·exact ⟨_,rfl,q _ _ _ hn2 (by omega) S2 B12⟩
noncomputable abbrev Wj:Stmt:=top 41
theorem Ac5:FnScope ["_law_some","_law_k"] ["_law_some","_law_k"] (C3 Wj):=⟨rfl,rfl,rfl,by decide +kernel,rfl,by decide +kernel,by decide +kernel⟩
theorem Yu {f:Addr} {fd:FuncData} (F:Fun K "_law_has" "_law_has" Wj f fd):FnOk P w K mg base CX0 1 f fd ["_law_some","_law_k"] Ij:=by
 refine F.ok Ac5 (fun vs H Q E h=>?_) (fun cdv A outer s H vs Q E hr h=>?_)
 ·obtain ⟨a,k,rfl,_⟩:=h
  rfl
 ·obtain ⟨a,k,rfl,hk,q⟩:=h
  refine ⟨_,(C1 (D0 (P1 Bu (D6 Vf (D6 Ft (pv 0) (D6 Hh B0 (pv 1))) B0) B0 (D9 _)))),?_⟩
  have hp2:0 < 2 ^ k:=Nat.two_pow_pos k
  have hp3:2 ^ k<=2 ^ 20:=Nat.pow_le_pow_right (by decide) hk
  exact ⟨_,rfl,_,rfl,k,rfl,rfl,by omega,a,2 ^ k,rfl,rfl,⟨hp2,by omega⟩,a / 2 ^ k,2,rfl,rfl,(by show (0:Nat) < 2; decide),a / 2 ^ k % 2,1,rfl,rfl,q⟩
noncomputable abbrev Mo:Stmt:=top 42
theorem scRules:FnScope ["_law_state","_law_many","_law_count","_law_rules_here","_law_k","_law_word"] ["_law_state","_law_many","_law_count"] (C3 Mo):=⟨rfl,rfl,rfl,by decide +kernel,rfl,by decide +kernel,by decide +kernel⟩
theorem Uz {f fT fS:Addr} {fd fdT fdS:FuncData} (F:Fun K "_law_rules" "_law_rules" Mo f fd) (GT:FnOk P w K mg base CX0 1 fT fdT ["_law_state","_law_most"] (U9 K)) (mT:mg "_law_take" = some (.ref fT)) (kT:Θk K fT) (bT:Binds K fdT ["_law_state","_law_most"] []) (GS:FnOk P w K mg base CX0 2 fS fdS ["_law_state","_law_many"] (Mu K)) (mS:mg "_law_set" = some (.ref fS)) (kS:Θk K fS) (bS:Binds K fdS ["_law_state","_law_many"] []) (zrange:mg "range" = none):FnOk P w K mg base CX0 3 f fd ["_law_state","_law_many","_law_count"] (Ik K):=by
 refine F.ok scRules (fun vs H Q E h=>?_) (fun cdv A outer s H vs Q E hr h=>?_)
 ·obtain ⟨st,ns,k,m,n,rfl,_⟩:=h
  rfl
 ·obtain ⟨st,ns,k,m,n,rfl,S,hk,hl,hm1,hm7,hn,q⟩:=h
  have nd:=scRules.nd
  have hr1:Room 1 _:=hr.mono (by decide)
  refine ⟨_,(A9 (D1 (i:=3) nd rfl (Or.inl rfl) (G8 A6))
   (A9 (I8 PassesOwn.never rfl (G9 rfl zrange (A0 (pv 2) A6)) (D5 (i:=4) nd rfl (Or.inl rfl)) (A9 (D1 (i:=5) nd rfl (Or.inl rfl) (D7 (E4 (K:=K) rfl) (G8 (A0 U6 (A0 U6 A6))) (C2 GT hr1 rfl mT kT bT .nil C8 (A0 (pv 0) (A0 B0 A6))) (fun _ _=>rfl)))
   (C1 (Q4 (Ah PySem.F.plainAttrs_list PySem.F.slot_list_append PySem.F.type_list_append N2 (pv 3) (A0 (M8 (A0 (pv 5) (A0 (C2 GS hr rfl mS kS bS .nil C8 (A0 (pv 0) (A0 (pv 1) A6))) (A0 (C2 GS hr rfl mS kS bS .nil C8 (A0 (pv 0) (A0 (pv 1) A6))) A6)))) A6))))))
   (C1 (D0 (pv 3))))),?_⟩
  refine ⟨(by show 0<=sizeLine; exact Zp_ _),fun g hg=>?_⟩
  obtain ⟨hgH,hgs⟩:=F1 S (But.refl _ _) hg
  refine ⟨_,rfl,(n:Int),rfl,by omega,by omega,U3 (n:=n) (fun i σ H2=>(∃v4 v5,σ=[some (.ref st),some (vN m),some (vN n),some (.ref g),v4,v5])/\
   ∃(rs:List Rl) (k2:Nat),rs.length=i/\(∀r∈rs,W2 H2 r.r r.st r.x r.y/\r.x < 2 ^ m/\r.y < 2 ^ m)/\H2 g=some (.lst (rs.map fun r=>V.ref r.r))/\L2.STF K H2 st ns k2/\k2<=k + 7 * i/\But st H H2)
   ⟨⟨none,none,rfl⟩,[],k,rfl,(fun r h=>absurd h Zi_),A8,S.new hg,by omega,(But.refl _ _).own hgH⟩ ?_ ?_⟩
  ·rintro i σ H2 hi ⟨⟨v4,v5,rfl⟩,rs,k2,hrl,hrs,hg2,S2,hk2,B2⟩
   refine ⟨(by show 2<=sizeLine; decide),fun l hl2=>?_⟩
   have sl:=Same.new (o:=.lst [V.str "settle",V.str "deal"]) hl2
   have hls:l≠st:=(F1 S2 (But.refl _ _) hl2).2
   refine ⟨_,rfl,st,ns,k2,2,rfl,S2.new hl2,by omega,hl,by decide,fun r1 H3 a3 b3 S3 B3=>?_⟩
   obtain ⟨n1,rfl,hn1⟩:=K9 (n:=2) a3 b3
   have hl3:=B3 _ _ (show (upd H2 l (.lst [V.str "settle",V.str "deal"])) l=some (.lst [V.str "settle",V.str "deal"]) from A8) hls
   have B03:But st H H3:=B2.trans ((But.new hl2).trans B3)
   obtain ⟨sb,esb⟩:∃sb:Bool,([V.str "settle",V.str "deal"]:List V)[n1]? = some (V.str (La sb)):=by
    match n1,hn1 with
    | 0,_=>exact ⟨true,rfl⟩
    | 1,_=>exact ⟨false,rfl⟩
   refine ⟨l,_,_,_,rfl,rfl,SqL.of hl3,C4 esb,?_⟩
   have hg3:H3 g=some (.lst (rs.map fun r=>V.ref r.r)):=B3 _ _ (sl _ _ hg2) hgs
   have rk:∀r∈rs,W2 H3 r.r r.st r.x r.y:=fun r hr'=>K4 (S2.new hl2) B3 (sl _ _ (hrs r hr').1)
   refine ⟨_,rfl,.inl ⟨rfl,_,SqL.of hg3⟩,_,rfl,?_⟩
   refine ⟨_,rfl,_,rfl,st,ns,k2 + 1,m,rfl,S3,by omega,hl,hm1,hm7,fun x k4 H4 hx hk4 S4 B4=>?_⟩
   refine ⟨_,rfl,_,rfl,st,ns,k4,m,rfl,S4,by omega,hl,hm1,hm7,fun y k5 H5 hy hk5 S5 B5=>?_⟩
   refine ⟨(by show 3<=sizeLine; decide),fun t ht=>?_⟩
   have B05:=(B03.trans B4).trans B5
   have htH:=F1 S5 B05 ht
   have sn:=Same.new (o:=.tup [V.str (La sb),V.int (x:Int),V.int (y:Int)]) ht
   have hg5:=B5 _ _ (B4 _ _ hg3 hgs) hgs
   have hg6:=sn _ _ hg5
   refine ⟨g,_,_,rfl,rfl,hg6,by rw [Θl,hrl]; exact E2 (by omega),⟨_,_,rfl⟩,rs++[⟨t,sb,x,y⟩],k5,by rw [Zv_,hrl]; rfl,fun r hr'=>?_,by rw [A8,Zw_]; rfl,(S5.new ht).put hg6 hgs,by omega,(B05.trans (But.new ht)).own hgH⟩
   rcases Θa hr' with hr' | hr'
   ·exact ⟨T9 hg6 _ _ (sn _ _ (K4 S4 B5 (K4 S3 B4 (rk r hr')))),(hrs r hr').2⟩
   ·rw [Θs hr']
    exact ⟨T9 hg6 _ _ A8,hx,hy⟩
  ·rintro σ H2 ⟨⟨v4,v5,rfl⟩,rs,k2,hrl,hrs,hg2,S2,hk2,B2⟩
   exact ⟨_,rfl,q rs g k2 _ hrl hrs hk2 hgH hg2 S2 B2⟩
noncomputable abbrev Mp:Stmt:=top 43
theorem scTable:FnScope ["_law_state","_law_many","_law_count"] ["_law_state"] (C3 Mp):=⟨rfl,rfl,rfl,by decide +kernel,rfl,by decide +kernel,by decide +kernel⟩
theorem Va {f fT fRU:Addr} {fd fdT fdRU:FuncData} (F:Fun K "_law_table" "_law_table" Mp f fd) (GT:FnOk P w K mg base CX0 1 fT fdT ["_law_state","_law_most"] (U9 K)) (mT:mg "_law_take" = some (.ref fT)) (kT:Θk K fT) (bT:Binds K fdT ["_law_state","_law_most"] []) (GRU:FnOk P w K mg base CX0 3 fRU fdRU ["_law_state","_law_many","_law_count"] (Ik K)) (mRU:mg "_law_rules" = some (.ref fRU)) (kRU:Θk K fRU) (bRU:Binds K fdRU ["_law_state","_law_many","_law_count"] []):FnOk P w K mg base CX0 4 f fd ["_law_state"] (Ga K):=by
 refine F.ok scTable (fun vs H Q E h=>?_) (fun cdv A outer s H vs Q E hr h=>?_)
 ·obtain ⟨st,ns,k,rfl,_⟩:=h
  rfl
 ·obtain ⟨st,ns,k,rfl,S,hk,hl,q⟩:=h
  have nd:=scTable.nd
  have hr1:Room 1 _:=hr.mono (by decide)
  have hr3:Room 3 _:=hr.mono (by decide)
  refine ⟨_,(A9 (D1 (i:=1) nd rfl (Or.inl rfl) (D6 X2 B0 (C2 GT hr1 rfl mT kT bT .nil C8 (A0 (pv 0) (A0 B0 A6))))) (Cv (fun σ H'=>∃(m k':Nat),σ=[some (.ref st),some (vN m),none]/\1<=m/\m<=7/\k'<=k + 3/\L2.STF K H' st ns k'/\But st H H') (F8 (D8 Bu (C2 GT hr1 rfl mT kT bT .nil C8 (A0 (pv 0) (A0 B0 A6))) B0 (D9 _)) (C1 (D1 (i:=1) nd rfl (Or.inl rfl) (D6 X2 B0 (C2 GT hr1 rfl mT kT bT .nil C8 (A0 (pv 0) (A0 B0 A6)))))) E1) (A9 (D1 (i:=2) nd rfl (Or.inl rfl) (C2 GT hr1 rfl mT kT bT .nil C8 (A0 (pv 0) (A0 B0 A6)))) (Cv (fun σ H'=>∃(m c k':Nat),σ=[some (.ref st),some (vN m),some (vN c)]/\1<=m/\m<=7/\c<=12/\k'<=k + 6/\L2.STF K H' st ns k'/\But st H H') (F8 (D8 Bu (C2 GT hr1 rfl mT kT bT .nil C8 (A0 (pv 0) (A0 B0 A6))) B0 (D9 _)) (C1 (D1 (i:=2) nd rfl (Or.inl rfl) (C2 GT hr1 rfl mT kT bT .nil C8 (A0 (pv 0) (A0 B0 A6))))) E1) (C1 (D0 (M8 (A0 (pv 1) (A0 (C2 GRU hr3 rfl mRU kRU bRU .nil C8 (A0 (pv 0) (A0 (pv 1) (A0 (pv 2) A6)))) A6))))))))),?_⟩
  refine ⟨_,rfl,st,ns,k,5,rfl,S,by omega,hl,by decide,fun r1 H1 ar1 br1 Sr1 Br1=>?_⟩
  obtain ⟨n1,rfl,hn1⟩:=K9 (n:=5) ar1 br1
  refine ⟨1,n1,rfl,rfl,?_⟩
  dsimp only
  refine ⟨⟨_,rfl,st,ns,(k + 1),4,rfl,Sr1,by omega,hl,by decide,fun r2 H2 ar2 br2 Sr2 Br2=>?_⟩,?_⟩
  ·obtain ⟨n2,rfl,hn2⟩:=K9 (n:=4) ar2 br2
   refine ⟨n2,0,rfl,rfl,_,rfl,M9 (fun _=>?_) (fun _=>?_)⟩
   ·refine ⟨_,rfl,st,ns,(k + 1 + 1),7,rfl,Sr2,by omega,hl,by decide,fun r3 H3 ar3 br3 Sr3 Br3=>?_⟩
    obtain ⟨n3,rfl,hn3⟩:=K9 (n:=7) ar3 br3
    exact ⟨1,n3,rfl,rfl,1 + n3,k + 1 + 1 + 1,rfl,by omega,by omega,by omega,Sr3,(Br1.trans Br2).trans Br3⟩
   ·exact ⟨1 + n1,k + 1 + 1,rfl,by omega,by omega,by omega,Sr2,Br1.trans Br2⟩
  rintro _ H4 ⟨m,k4,rfl,m1,m7,hk4,S4,B4⟩
  refine ⟨_,rfl,st,ns,k4,7,rfl,S4,by omega,hl,by decide,fun r5 H5 ar5 br5 Sr5 Br5=>?_⟩
  obtain ⟨n5,rfl,hn5⟩:=K9 (n:=7) ar5 br5
  refine ⟨⟨_,rfl,st,ns,(k4 + 1),4,rfl,Sr5,by omega,hl,by decide,fun r6 H6 ar6 br6 Sr6 Br6=>?_⟩,?_⟩
  ·obtain ⟨n6,rfl,hn6⟩:=K9 (n:=4) ar6 br6
   refine ⟨n6,0,rfl,rfl,_,rfl,M9 (fun _=>?_) (fun _=>?_)⟩
   ·refine ⟨_,rfl,st,ns,(k4 + 1 + 1),13,rfl,Sr6,by omega,hl,by decide,fun r7 H7 ar7 br7 Sr7 Br7=>?_⟩
    obtain ⟨n7,rfl,hn7⟩:=K9 (n:=13) ar7 br7
    exact ⟨m,n7,k4 + 1 + 1 + 1,rfl,m1,m7,by omega,by omega,Sr7,((B4.trans Br5).trans Br6).trans Br7⟩
   ·exact ⟨m,n5,k4 + 1 + 1,rfl,m1,m7,by omega,by omega,Sr6,(B4.trans Br5).trans Br6⟩
  rintro _ H8 ⟨m,c,k8,rfl,m1,m7,hc,hk8,S8,B8⟩
  refine ⟨_,rfl,_,rfl,_,rfl,_,rfl,st,ns,k8,m,c,rfl,S8,by omega,hl,m1,m7,by omega,fun rs p k9 H9 lrs hrs hk9 hp0 hp9 S9 B9=>?_⟩
  refine ⟨(by show 2<=sizeLine; decide),fun t ht=>?_⟩
  have sn:=Same.new (o:=.tup [vN m,V.ref p]) ht
  exact q t p m rs k9 _ m1 m7 (by omega) (RulesAt.same hrs sn) A8 (sn _ _ hp9) (F1 S8 B8 hp0).1 (F1 S8 (But.refl _ _) hp0).2 (by omega) (S9.same sn) ((B8.trans B9).trans sn.but)
noncomputable abbrev Wk:Stmt:=top 44
theorem scPool:FnScope ["_law_state","_law_far","_law_way"] ["_law_state"] (C3 Wk):=⟨rfl,rfl,rfl,by decide +kernel,rfl,by decide +kernel,by decide +kernel⟩
theorem Yx {f fT:Addr} {fd fdT:FuncData} (F:Fun K "_law_pool" "_law_pool" Wk f fd) (GT:FnOk P w K mg base CX0 1 fT fdT ["_law_state","_law_most"] (U9 K)) (mT:mg "_law_take" = some (.ref fT)) (kT:Θk K fT) (bT:Binds K fdT ["_law_state","_law_most"] []):FnOk P w K mg base CX0 2 f fd ["_law_state"] (Xc K):=by
 refine F.ok scPool (fun vs H Q E h=>?_) (fun cdv A outer s H vs Q E hr h=>?_)
 ·obtain ⟨st,ns,k,rfl,_⟩:=h
  rfl
 ·obtain ⟨st,ns,k,rfl,S,hk,hl,q⟩:=h
  have nd:=scPool.nd
  refine ⟨_,(A9 (D1 (i:=1) nd rfl (Or.inl rfl) (D6 Ei (D6 Am B0 B0) B0))
   (A9 (D1 (i:=2) nd rfl (Or.inl rfl) (C2 GT hr rfl mT kT bT .nil C8 (A0 (pv 0) (A0 B0 A6))))
   (A9 (F8 (D8 op_lt (pv 2) B0 (D9 _)) (C1 (D0 (G8 (A0 B0 (A0 B0 A6))))) E1)
   (A9 (F8 (D8 op_eq (pv 2) B0 (D9 _)) (C1 (D0 (G8 (A0 B0 (A0 B0 (A0 (C2 GT hr rfl mT kT bT .nil C8 (A0 (pv 0) (A0 (pv 1) A6))) (A0 (D6 Ei B0 (pv 1)) A6))))))) E1)
   (C1 (D0 (G8 (A0 (D6 op_add B0 (C2 GT hr rfl mT kT bT .nil C8 (A0 (pv 0) (A0 (D6 Am B0 B0) A6)))) (A0 (D6 Ei B0 (C2 GT hr rfl mT kT bT .nil C8 (A0 (pv 0) (A0 (D6 Am B0 B0) A6)))) (A0 B0 A6)))))))))),?_⟩
  have fin:∀(pl:List Int) (H1:Hp) (k1:Nat),1<=pl.length->pl.length<=4->k1<=k + 3->L2.STF K H1 st ns k1->But st H H1->∀p,H1 p=none->Q (.ref p) (upd H1 p (.lst (pl.map V.int))):=fun pl H1 k1 l1 l2 hk1 S1 B1 p hp=>
   q pl p k1 _ l1 l2 hk1 (F1 S1 B1 hp).1 A8 (S1.new hp) (B1.trans (But.new hp))
  refine ⟨_,_,rfl,rfl,⟨by decide,by decide,by decide⟩,_,_,rfl,rfl,?_⟩
  refine ⟨_,rfl,st,ns,k,4,rfl,S,by omega,hl,by decide,fun r1 H1 a1 b1 S1 B1=>?_⟩
  refine ⟨_,rfl,_,_,rfl,rfl,_,rfl,?_⟩
  refine M9 (fun _=>?_) (fun _=>?_)
  ·exact ⟨(by show 2<=sizeLine; decide),fin [0,1] H1 (k + 1) (by decide) (by decide) (by omega) S1 B1⟩
  refine ⟨_,rfl,rfl,_,rfl,?_⟩
  refine M9 (fun _=>?_) (fun _=>?_)
  ·refine ⟨_,rfl,_,rfl,st,ns,k + 1,_,rfl,S1,by omega,hl,by decide,fun r2 H2 a2 b2 S2 B2=>?_⟩
   refine ⟨_,rfl,_,_,rfl,rfl,(by show 4<=sizeLine; decide),fin [0,1,r2,_] H2 (k + 2) (by simp) (by simp) (by omega) S2 (B1.trans B2)⟩
  ·refine ⟨_,rfl,_,_,rfl,rfl,⟨by decide,by decide,by decide⟩,st,ns,k + 1,_,rfl,S1,by omega,hl,by decide,fun r2 H2 a2 b2 S2 B2=>?_⟩
   refine ⟨_,_,rfl,rfl,?_⟩
   refine ⟨_,rfl,_,_,rfl,rfl,⟨by decide,by decide,by decide⟩,st,ns,k + 2,_,rfl,S2,by omega,hl,by decide,fun r3 H3 a3 b3 S3 B3=>?_⟩
   exact ⟨_,_,rfl,rfl,(by show 3<=sizeLine; decide),fin [_,_,0] H3 (k + 3) (by simp) (by simp) (by omega) S3 ((B1.trans B2).trans B3)⟩
noncomputable abbrev Ox:Stmt:=top 45
theorem scBook:FnScope ["_law_state","_law_many","_law_size","_law_pool_here","_law_rows","_law_k","_law_row","_law_turn"] ["_law_state","_law_many","_law_size"] (C3 Ox):=⟨rfl,rfl,rfl,by decide +kernel,rfl,by decide +kernel,by decide +kernel⟩
theorem Xz {ts:List Addr} {i:Nat} {t:Addr} (h:ts[i]? = some t):(ts.map V.ref)[i]? = some (V.ref t):=by rw [Θg,h]; rfl
theorem Yr {f fT fP:Addr} {fd fdT fdP:FuncData} (F:Fun K "_law_book" "_law_book" Ox f fd) (GT:FnOk P w K mg base CX0 1 fT fdT ["_law_state","_law_most"] (U9 K)) (mT:mg "_law_take" = some (.ref fT)) (kT:Θk K fT) (bT:Binds K fdT ["_law_state","_law_most"] []) (GP:FnOk P w K mg base CX0 2 fP fdP ["_law_state"] (Xc K)) (mP:mg "_law_pool" = some (.ref fP)) (kP:Θk K fP) (bP:Binds K fdP ["_law_state"] []) (zrange:mg "range" = none) (zlen:mg "len" = none) (zlist:mg "list" = none) (ztuple:mg "tuple" = none):FnOk P w K mg base CX0 3 f fd ["_law_state","_law_many","_law_size"] (Wy K):=by
 refine F.ok scBook (fun vs H Q E h=>?_) (fun cdv A outer s H vs Q E hr h=>?_)
 ·obtain ⟨st,ns,k,m,n,rfl,_⟩:=h
  rfl
 ·obtain ⟨st,ns,k,m,n,rfl,S,hk,hl,hm1,hm7,hn,q⟩:=h
  have nd:=scBook.nd
  have hr1:Room 1 _:=hr.mono (by decide)
  refine ⟨_,(A9 (D1 (i:=3) nd rfl (Or.inr rfl) (C2 GP hr rfl mP kP bP .nil C8 (A0 (pv 0) A6)))
   (A9 (D1 (i:=4) nd rfl (Or.inl rfl) (G8 A6))
   (A9 (I8 PassesOwn.never rfl (G9 rfl zrange (A0 (pv 2) A6)) (D5 (i:=5) nd rfl (Or.inl rfl)) (A9 (Op (i:=6) (xs:=["_law_c"]) (cs ["_law_state","_law_many","_law_size","_law_pool_here","_law_rows","_law_k","_law_row","_law_turn"] (C3 Ox) rfl rfl (by decide +kernel)) rfl nd rfl rfl (G9 rfl zrange (A0 (pv 1) A6)) (fun _ _ _=>D5 (i:=0) (show (["_law_c","_law_state","_law_many","_law_size","_law_pool_here","_law_rows","_law_k","_law_row","_law_turn"]:List Str).Nodup by decide +kernel) rfl (Or.inl rfl)) (fun _ _ _=>N3) (fun _ _ _=>(D7 (E4 (K:=K) rfl) (pv 4) (C2 GT hr1 rfl mT kT bT .nil C8 (A0 (pv 1) (A0 (F2 (G0 (K:=K) rfl) (by rfl) zlen PySem.boot_len (A0 (pv 4) A6)) A6))) (fun _ _=>rfl))))
   (A9 (F8 (PW.pt (Vs (D8 Eh (pv 5) B0 (D9 _)) (Ot (D8 op_gt (C2 GT hr1 rfl mT kT bT .nil C8 (A0 (pv 0) (A0 B0 A6))) B0 (D9 _))))) (A9 (D1 (i:=6) nd rfl (Or.inl rfl) (E5 (K7 (K:=K) rfl) (by rfl) zlist PyProof.Rows.boot_list (A0 (D7 (E4 (K:=K) rfl) (pv 4) (C2 GT hr1 rfl mT kT bT .nil C8 (A0 (pv 0) (A0 (pv 5) A6))) (fun _ _=>rfl)) A6)))
   (C1 (I8 PassesOwn.never rfl (G9 rfl zrange (A0 (C2 GT hr1 rfl mT kT bT .nil C8 (A0 (pv 0) (A0 B0 A6))) A6)) (D5 (i:=7) nd rfl (Or.inl rfl)) (C1 (Hm (D7 (E4 (K:=K) rfl) (pv 3) (C2 GT hr1 rfl mT kT bT .nil C8 (A0 (pv 0) (A0 (F2 (G0 (K:=K) rfl) (by rfl) zlen PySem.boot_len (A0 (pv 3) A6)) A6))) (fun _ _=>rfl)) (Vm (pv 6) (C2 GT hr1 rfl mT kT bT .nil C8 (A0 (pv 0) (A0 (pv 1) A6))) Kk)))))) E1)
   (C1 (Q4 (Ah PySem.F.plainAttrs_list PySem.F.slot_list_append PySem.F.type_list_append N2 (pv 4) (A0 (E5 (Q6 (K:=K) rfl) (by rfl) ztuple PyProof.Rows.boot_tuple (A0 (pv 6) A6)) A6)))))))
   (C1 (D0 (pv 4)))))),?_⟩
  refine ⟨_,rfl,st,ns,k,rfl,S,by omega,hl,fun pl p k1 H1 l1 l4 hk1 hpH hp1 S1 B1=>?_⟩
  have hps:p≠st:=fun e=>by
   obtain ⟨o,z⟩:=S.some
   rw [<-e,hpH] at z; cases z
  refine ⟨(by show 0<=sizeLine; exact Zp_ _),fun g hg=>?_⟩
  obtain ⟨hgH,hgs⟩:=F1 S1 B1 hg
  have hpg:p≠g:=C7 hp1 hg
  have ixp:∀{H2:Hp} {r:Int} {Q':VK},H2 p=some (.lst (pl.map V.int))->0<=r->r < ((pl.map V.int).length:Int)->(∀x:Int,Q' (.int x) H2)->Zp K (.ref p) (.int r) H2 Q':=fun {H2 r Q'} e r0 r1 q'=>by
   obtain ⟨j,rfl,hj⟩:=K9 r0 r1
   rw [Θl] at hj
   exact ⟨p,_,_,_,rfl,rfl,SqL.of e,C4 (O8 hj),q' _⟩
  have lp:(0:Int) < ((pl.map V.int).length:Int):=by rw [Θl]; omega
  refine ⟨_,rfl,(n:Int),rfl,by omega,by omega,U3 (n:=n) (fun i σ H2=>(∃v5 v6 v7,σ=[some (.ref st),some (vN m),some (vN n),some (.ref p),some (.ref g),v5,v6,v7])/\
   ∃(ts:List Addr) (rs:List (List Int)) (k2:Nat),rs.length=i/\(∀r∈rs,r.length=m)/\H2 p=some (.lst (pl.map V.int))/\H2 g=some (.lst (ts.map V.ref))/\RowsAt H2 ts rs/\L2.STF K H2 st ns k2/\k2<=k + 3 + 14 * i/\But st H H2)
   ⟨⟨none,none,none,rfl⟩,[],[],k1,rfl,(fun _ h=>absurd h Zi_),(Same.new hg) _ _ hp1,A8,trivial,S1.new hg,by omega,B1.own hgH⟩ ?_ ?_⟩
  ·rintro i σ H2 hi ⟨⟨v5,v6,v7,rfl⟩,ts,rs,k2,hrl,hrm,hp2,hg2,R2,S2,hk2,B2⟩
   refine ⟨_,rfl,(m:Int),rfl,by omega,by omega,O7 (k:=m) (n:=1) (fun j acc H'=>∃xs:List Int,acc=xs.map V.int/\xs.length=j/\L2.STF K H' st ns (k2 + j)/\But st H2 H') (by omega) ⟨[],rfl,rfl,S2,But.refl _ _⟩ (fun j acc H' hj h=>?_) (fun j acc H' hj h=>?_) (fun acc H' h=>?_)⟩
   ·obtain ⟨xs,rfl,e,_⟩:=h
    rw [Θl,e]; exact Zd_ _
   ·obtain ⟨xs,rfl,e,S',B'⟩:=h
    have hp':=B' _ _ hp2 hps
    refine ⟨rfl,_,rfl,_,rfl,_,rfl,p,_,rfl,.inl (SqL.of hp'),st,ns,k2 + j,_,rfl,S',by omega,hl,lp,fun r H3 a3 b3 S3 B3=>?_⟩
    refine ixp (B3 _ _ hp' hps) a3 b3 fun x=>⟨xs++[x],?_,by rw [Zv_,e]; rfl,S3,B'.trans B3⟩
    rw [Zw_]; rfl
   obtain ⟨xs,rfl,exl,S3,B3⟩:=h
   intro d hd
   have hd3:=F1 S3 (B2.trans B3) hd
   have hp3:=B3 _ _ hp2 hps
   have hg3:=B3 _ _ hg2 hgs
   have R3:RowsAt H' ts rs:=R2.imp fun t xs e=>K4 S2 B3 e
   have hdg:d≠g:=(C7 hg3 hd).symm
   have hdp:d≠p:=(C7 hp3 hd).symm
   have fin:∀(z:Addr) (ys:List Int) (v7':Option V) (k4:Nat) (H4:Hp),ys.length=m->H4 z=some (.lst (ys.map V.int))->H4 p=some (.lst (pl.map V.int))->H4 g=some (.lst (ts.map V.ref))->RowsAt H4 ts rs->L2.STF K H4 st ns k4->k4<=k + 3 + 14 * (i + 1)->But st H H4->
     (Aa5 (tBM K "list" Ho (Mw 4) (Xf (tCB (fun xs H Q=>∃p ys,xs=[.ref p]/\((SqL K H p ys/\∀l,H l=none->Q (.ref l) (upd H l (.tup ys)))\/(SqT K H p ys/\Q (.ref p) H))) (Xf (Mw 6) Adb)) Adb)))
      { nx:=fun σ H2=>(∃v5 v6 v7,σ=[some (.ref st),some (vN m),some (vN n),some (.ref p),some (.ref g),v5,v6,v7])/\∃(ts:List Addr) (rs:List (List Int)) (k2:Nat),rs.length=i + 1/\(∀r∈rs,r.length=m)/\H2 p=some (.lst (pl.map V.int))/\H2 g=some (.lst (ts.map V.ref))/\RowsAt H2 ts rs/\L2.STF K H2 st ns k2/\k2<=k + 3 + 14 * (i + 1)/\But st H H2,rt:=Q }
      [some (.ref st),some (vN m),some (vN n),some (.ref p),some (.ref g),some (vN i),some (.ref z),v7'] H4:=fun z ys v7' k4 H4 yl hz4 hp4 hg4 R4 S4 hk4 B4=>by
    refine ⟨_,rfl,.inl ⟨rfl,_,SqL.of hg4⟩,_,rfl,z,_,rfl,.inl ⟨SqL.of hz4,fun t ht=>?_⟩⟩
    have hg5:(upd H4 t (.tup (ys.map V.int))) g=some (.lst (ts.map V.ref)):=(Same.new ht) _ _ hg4
    have htH:=F1 S4 B4 ht
    refine ⟨g,_,_,rfl,rfl,hg5,?_,?_⟩
    ·rw [Θl,R4.len,hrl]; exact E2 (by omega)
    ·have R5:RowsAt (upd H4 t (.tup (ys.map V.int))) ts rs:=R4.imp fun t' zs e=>(Same.new ht) _ _ e
     refine ⟨⟨_,_,_,rfl⟩,ts++[t],rs++[ys],k4,by rw [Zv_,hrl]; rfl,fun r hr'=>?_,?_,?_,?_,(S4.new ht).put hg5 hgs,hk4,?_⟩
     ·rcases Θa hr' with z | z
      ·exact hrm r z
      ·rw [Θs z]; exact yl
     ·rw [C9 hpg]; exact (Same.new ht) _ _ hp4
     ·rw [A8,Zw_]; rfl
     ·exact RowsAt.snoc (T9 hg5 t _ A8) (R5.imp (T9 hg5))
     ·exact (B4.trans (But.new ht)).own hgH
   have S4:=S3.new (o:=.lst (xs.map V.int)) hd
   have B4:But st H (upd H' d (.lst (xs.map V.int))):=(B2.trans B3).trans (But.new hd)
   have hd4:(upd H' d (.lst (xs.map V.int))) d=some (.lst (xs.map V.int)):=A8
   have hp4:(upd H' d (.lst (xs.map V.int))) p=some (.lst (pl.map V.int)):=(Same.new hd) _ _ hp3
   have hg4:(upd H' d (.lst (xs.map V.int))) g=some (.lst (ts.map V.ref)):=(Same.new hd) _ _ hg3
   have R4:RowsAt (upd H' d (.lst (xs.map V.int))) ts rs:=R3.imp fun t zs e=>(Same.new hd) _ _ e
   generalize upd H' d (.lst (xs.map V.int))=H4 at S4 B4 hd4 hp4 hg4 R4
   refine ⟨_,rfl,i,0,rfl,rfl,_,rfl,?_⟩
   refine M9 (fun hpos=>?_) (fun _=>V1 ?_)
   ·have hi0:0 < i:=Zj_ hpos
    refine ⟨_,rfl,st,ns,k2 + m,4,rfl,S4,by omega,hl,by decide,fun r5 H5 a5 b5 S5 B5=>?_⟩
    have hd5:=B5 _ _ hd4 hd3.2
    have hp5:=B5 _ _ hp4 hps
    have hg5:=B5 _ _ hg4 hgs
    have R5:RowsAt H5 ts rs:=R4.imp fun t zs e=>K4 S4 B5 e
    have B05:=B4.trans B5
    refine ⟨_,_,rfl,rfl,_,rfl,?_⟩
    refine M9 (fun _=>?_) (fun _=>?_)
    ·
     refine ⟨_,rfl,_,rfl,_,rfl,st,ns,k2 + m + 1,(i:Int),rfl,S5,by omega,hl,by omega,fun r6 H6 a6 b6 S6 B6=>?_⟩
     obtain ⟨j6,rfl,hj6⟩:=K9 a6 b6
     have hg6:=B6 _ _ hg5 hgs
     have hp6:=B6 _ _ hp5 hps
     have R6:RowsAt H6 ts rs:=R5.imp fun t zs e=>K4 S5 B6 e
     have B06:=B05.trans B6
     obtain ⟨t6,w6,e6,f6,g6⟩:=R6.get (i:=j6) (by omega)
     refine ⟨g,_,_,_,rfl,rfl,SqL.of hg6,C4 (Xz e6),t6,_,rfl,.inr (SqT.of g6),fun z hz=>?_⟩
     have hzH:=F1 S6 B06 hz
     have S7:=S6.new (o:=.lst (w6.map V.int)) hz
     have B7:But st H (upd H6 z (.lst (w6.map V.int))):=B06.trans (But.new hz)
     have hz7:(upd H6 z (.lst (w6.map V.int))) z=some (.lst (w6.map V.int)):=A8
     have hp7:(upd H6 z (.lst (w6.map V.int))) p=some (.lst (pl.map V.int)):=(Same.new hz) _ _ hp6
     have hg7:(upd H6 z (.lst (w6.map V.int))) g=some (.lst (ts.map V.ref)):=(Same.new hz) _ _ hg6
     have R7:RowsAt (upd H6 z (.lst (w6.map V.int))) ts rs:=R6.imp fun t zs e=>(Same.new hz) _ _ e
     have hzp:z≠p:=(C7 hp6 hz).symm
     have hzg:z≠g:=(C7 hg6 hz).symm
     have wl:w6.length=m:=hrm w6 (Θe f6)
     generalize upd H6 z (.lst (w6.map V.int))=H7 at S7 B7 hz7 hp7 hg7 R7
     refine ⟨_,rfl,st,ns,k2 + m + 2,3,rfl,S7,by omega,hl,by decide,fun r8 H8 a8 b8 S8 B8=>?_⟩
     obtain ⟨n8,rfl,hn8⟩:=K9 (n:=3) a8 b8
     refine ⟨(n8:Int),rfl,by omega,by omega,U3 (n:=n8) (fun j σ H9=>(∃v7,σ=[some (.ref st),some (vN m),some (vN n),some (.ref p),some (.ref g),some (vN i),some (.ref z),v7])/\
      ∃ys:List Int,ys.length=m/\H9 z=some (.lst (ys.map V.int))/\H9 p=some (.lst (pl.map V.int))/\H9 g=some (.lst (ts.map V.ref))/\RowsAt H9 ts rs/\L2.STF K H9 st ns (k2 + m + 3 + 2 * j)/\But st H H9)
      ⟨⟨_,rfl⟩,w6,wl,B8 _ _ hz7 hzH.2,B8 _ _ hp7 hps,B8 _ _ hg7 hgs,R7.imp (fun t zs e=>K4 S7 B8 e),S8,B7.trans B8⟩ ?_ ?_⟩
     ·rintro j σ H9 hj ⟨⟨v7',rfl⟩,ys,yl,hz9,hp9,hg9,R9,S9,B9⟩
      refine ⟨_,rfl,_,rfl,_,rfl,p,_,rfl,.inl (SqL.of hp9),st,ns,_,_,rfl,S9,by omega,hl,lp,fun ra Ha aa ba Sa Ba=>?_⟩
      refine ixp (Ba _ _ hp9 hps) aa ba fun x=>?_
      refine ⟨_,rfl,_,rfl,_,rfl,st,ns,_,(m:Int),rfl,Sa,by omega,hl,by omega,fun rb Hb ab bb Sb Bb=>?_⟩
      obtain ⟨jb,rfl,hjb⟩:=K9 ab bb
      have hzb:=Bb _ _ (Ba _ _ hz9 hzH.2) hzH.2
      have hpb:=Bb _ _ (Ba _ _ hp9 hps) hps
      have hgb:=Bb _ _ (Ba _ _ hg9 hgs) hgs
      have Rb:RowsAt Hb ts rs:=(R9.imp fun t zs e=>K4 S9 Ba e).imp fun t zs e=>K4 Sa Bb e
      refine ⟨z,_,(jb:Int),jb,rfl,rfl,hzb,?_,?_⟩
      ·rw [Θl,yl]; unfold ixN; rw [if_pos (by omega),if_pos (by omega)]; rfl
      refine ⟨⟨_,rfl⟩,ys.set jb x,by rw [List.length_set]; exact yl,?_,?_,?_,Rb.imp (T9 hzb),Sb.put hzb hzH.2,((B9.trans Ba).trans Bb).own hzH.1⟩
      ·rw [A8,List.map_set]
      ·rw [C9 (Ne.symm hzp)]; exact hpb
      ·rw [C9 (Ne.symm hzg)]; exact hgb
     ·rintro σ H9 ⟨⟨v7',rfl⟩,ys,yl,hz9,hp9,hg9,R9,S9,B9⟩
      exact fin z ys v7' _ H9 yl hz9 hp9 hg9 R9 S9 (by omega) B9
    ·exact fin d xs _ _ H5 exl hd5 hp5 hg5 R5 S5 (by omega) B05
   ·exact fin d xs _ _ H4 exl hd4 hp4 hg4 R4 S4 (by omega) B4
  ·rintro σ H2 ⟨⟨v5,v6,v7,rfl⟩,ts,rs,k2,hrl,hrm,hp2,hg2,R2,S2,hk2,B2⟩
   exact ⟨_,rfl,q ts rs g k2 _ hrl hrm (by omega) hgH hg2 R2 S2 B2⟩
end
end Own
namespace Own
open PySem L2
section
variable {P:Program} {w:World} {K:Θf} {mg:Str->Option Value} {base:Heap}
seal PySem.wpAny
noncomputable abbrev Fd:Stmt:=top 46
noncomputable abbrev Zg:Scope:={ kind:=.function,names:=[(".0",.local),("_law_row",.cell),("range",.globalImplicit),("_law_block",.cell),("_law_many",.cell)],isGenerator:=false,isCoroutine:=false }
theorem scCho:FnScope ["_law_state","_law_many","_law_blocks","_law_bits","_law_block","_law_names","_law_rows","_law_row","_law_turn"] ["_law_state","_law_many","_law_blocks"] (C3 Fd):=⟨rfl,rfl,rfl,by decide +kernel,rfl,by decide +kernel,by decide +kernel⟩
theorem Yo:¬Vis (C3 Fd) "":=by rintro (h | h | h) <;> exact absurd h (by decide +kernel)
theorem Ab4 {f fT fG:Addr} {fd fdT fdG:FuncData} (F:Fun K "_law_choices" "_law_choices" Fd f fd) (GT:FnOk P w K mg base CX0 1 fT fdT ["_law_state","_law_most"] (U9 K)) (mT:mg "_law_take" = some (.ref fT)) (kT:Θk K fT) (bT:Binds K fdT ["_law_state","_law_most"] []) (GG:FnOk P w K mg base CX0 1 fG fdG ["_law_some","_law_k"] Ij) (mG:mg "_law_has" = some (.ref fG)) (kG:Θk K fG) (bG:Binds K fdG ["_law_some","_law_k"] []) (zrange:mg "range" = none) (zlen:mg "len" = none) (zint:mg "int" = none) (ztuple:mg "tuple" = none):FnOk P w K mg base CX0 2 f fd ["_law_state","_law_many","_law_blocks"] (Cf K):=by
 refine F.ok scCho (fun vs H Q E h=>?_) (fun cdv A outer s H vs Q E hr h=>?_)
 ·obtain ⟨st,bl,ns,k,m,os,rfl,_⟩:=h
  rfl
 ·obtain ⟨st,bl,ns,k,m,os,rfl,S,hk,hl,m1,m7,hbl,qq⟩:=h
  have nd:=scCho.nd
  have hr1:Room 1 _:=hr.mono (by decide)
  have lb:(os.take 4).length<=4:=List.length_take_le _ _
  obtain ⟨bs,hbs⟩:∃bs,bs=os.take 4:=⟨_,rfl⟩
  rw [<-hbs] at lb qq
  have lbm:(bs.map vN).length=bs.length:=Θl ..
  refine ⟨_,(A9 (D1 (i:=3) nd rfl (Or.inl rfl) (G8 (A0 (M1 (xs:=["_law_k"]) (cs ["_law_state","_law_many","_law_blocks","_law_bits","_law_block","_law_names","_law_rows","_law_row","_law_turn"] (C3 Fd) rfl rfl (by decide +kernel)) rfl (G9 rfl zrange (A0 (pv 1) A6)) (fun _ _ _=>D5 (i:=0) (show (["_law_k","_law_state","_law_many","_law_blocks","_law_bits","_law_block","_law_names","_law_rows","_law_row","_law_turn"]:List Str).Nodup by decide +kernel) rfl (Or.inl rfl)) (fun _ _ _=>N3) (fun _ _ _=>B0)) A6))) (A9 (I8 PassesOwn.never rfl (E7 (K:=K) rfl (O1 Q5 (pv 2) Q2 (Q3 B0))) (D5 (i:=4) nd rfl (Or.inr rfl)) (C1 (D1 (i:=3) nd rfl (Or.inl rfl) (D6 X4 (pv 3) (Zi 7 (show ¬Vis (C3 Fd) "" from Yo) (Vi (x0:="_law_row") (cs1 ["_law_state","_law_many","_law_blocks","_law_bits","_law_block","_law_names","_law_rows","","_law_turn"] (C3 Fd) rfl rfl (by decide +kernel) (fun _ _=>rfl) (fun _=>rfl)) rfl (E7 (K:=K) rfl (pv 3)) (fun _ _ _=>D5 (i:=0) (show (["_law_row","_law_state","_law_many","_law_blocks","_law_bits","_law_block","_law_names","_law_rows","","_law_turn"]:List Str).Nodup by decide +kernel) rfl (Or.inr rfl)) (fun _ _ _=>N3) (fun _ _ _=>(M1 (xs:=["_law_k"]) (cs ["_law_row","_law_state","_law_many","_law_blocks","_law_bits","_law_block","_law_names","_law_rows","","_law_turn"] Zg rfl rfl (by decide +kernel)) rfl (G9 rfl zrange (A0 (pv 2) A6)) (fun _ _ _=>D5 (i:=0) (show (["_law_k","_law_row","_law_state","_law_many","_law_blocks","_law_bits","_law_block","_law_names","_law_rows","","_law_turn"]:List Str).Nodup by decide +kernel) rfl (Or.inl rfl)) (fun _ _ _=>N3) (fun _ _ _=>(D6 Bw (D7 (E4 (K:=K) rfl) (pv 1) (pv 0) (fun _ _=>rfl)) (E5 Z9 (by rfl) zint PyProof.Rows.boot_int (A0 (C2 GG hr1 rfl mG kG bG .nil C8 (A0 (pv 6) (A0 (pv 0) A6))) A6)))))))))))) (A9 (D1 (i:=5) nd rfl (Or.inr rfl) (M1 (xs:=["_law_k"]) (cs ["_law_state","_law_many","_law_blocks","_law_bits","_law_block","_law_names","_law_rows","_law_row","_law_turn"] (C3 Fd) rfl rfl (by decide +kernel)) rfl (G9 rfl zrange (A0 (pv 1) A6)) (fun _ _ _=>D5 (i:=0) (show (["_law_k","_law_state","_law_many","_law_blocks","_law_bits","_law_block","_law_names","_law_rows","_law_row","_law_turn"]:List Str).Nodup by decide +kernel) rfl (Or.inl rfl)) (fun _ _ _=>N3) (fun _ _ _=>(M8 (A0 (C2 GT hr1 rfl mT kT bT .nil C8 (A0 (pv 1) (A0 (D6 Am B0 B0) A6))) (A0 (D6 op_add B0 (C2 GT hr1 rfl mT kT bT .nil C8 (A0 (pv 1) (A0 (D6 Am B0 B0) A6)))) A6)))))) (Cv (fun σ H'=>∃(bt nl:Addr) (as:List Addr) (ps:List NM) (k':Nat) (v4:Option V),σ=[some (.ref st),some (vN m),some (.ref bl),some (.ref bt),v4,some (.ref nl),none,none,none]/\STF K H' st ns k'/\k'<=k + 20/\But st H H'/\H' bt=some (.lst (as.map V.ref))/\BitsAt H' m as (T5 bs bs.length)/\H' nl=some (.lst (ps.map fun p=>V.ref p.1))/\ps.length=m/\NmOk H' ps) (F8 (D8 Bu (C2 GT hr1 rfl mT kT bT .nil C8 (A0 (pv 0) (A0 B0 A6))) B0 (D9 _)) (C1 (D1 (i:=5) nd rfl (Or.inr rfl) (M1 (xs:=["_law_k"]) (cs ["_law_state","_law_many","_law_blocks","_law_bits","_law_block","_law_names","_law_rows","_law_row","_law_turn"] (C3 Fd) rfl rfl (by decide +kernel)) rfl (G9 rfl zrange (A0 (pv 1) A6)) (fun _ _ _=>D5 (i:=0) (show (["_law_k","_law_state","_law_many","_law_blocks","_law_bits","_law_block","_law_names","_law_rows","_law_row","_law_turn"]:List Str).Nodup by decide +kernel) rfl (Or.inl rfl)) (fun _ _ _=>N3) (fun _ _ _=>(M8 (A0 (D6 Ei B0 (D6 Am B0 B0)) (A0 (D6 op_add (D6 Am B0 B0) B0) A6))))))) E1) (A9 (D1 (i:=6) nd rfl (Or.inl rfl) (G8 A6)) (A9 (I8 PassesOwn.never rfl (E7 (K:=K) rfl (pv 3)) (D5 (i:=7) nd rfl (Or.inr rfl)) (C1 (Q4 (Ah PySem.F.plainAttrs_list PySem.F.slot_list_append PySem.F.type_list_append N2 (pv 6) (A0 (E5 (Q6 (K:=K) rfl) (by rfl) ztuple PyProof.Rows.boot_tuple (A0 (M1 (xs:=["_law_k"]) (cs ["_law_state","_law_many","_law_blocks","_law_bits","_law_block","_law_names","_law_rows","_law_row","_law_turn"] (C3 Fd) rfl rfl (by decide +kernel)) rfl (G9 rfl zrange (A0 (pv 1) A6)) (fun _ _ _=>D5 (i:=0) (show (["_law_k","_law_state","_law_many","_law_blocks","_law_bits","_law_block","_law_names","_law_rows","_law_row","_law_turn"]:List Str).Nodup by decide +kernel) rfl (Or.inl rfl)) (fun _ _ _=>N3) (fun _ _ _=>(D6 op_add (D7 (D2 (K:=K) rfl) (D7 (E4 (K:=K) rfl) (pv 6) (pv 0) (fun _ _=>rfl)) B0 (fun _ _=>rfl)) (D6 op_mul (D7 (D2 (K:=K) rfl) (D7 (E4 (K:=K) rfl) (pv 6) (pv 0) (fun _ _=>rfl)) B0 (fun _ _=>rfl)) (D7 (E4 (K:=K) rfl) (pv 8) (pv 0) (fun _ _=>rfl)))))) A6)) A6))))) (A9 (D1 (i:=8) nd rfl (Or.inl rfl) (C2 GT hr1 rfl mT kT bT .nil C8 (A0 (pv 0) (A0 (F2 (G0 (K:=K) rfl) (by rfl) zlen PySem.boot_len (A0 (pv 6) A6)) A6)))) (C1 (D0 (D6 X4 (O1 Q5 (pv 6) (Q3 (pv 8)) Q2) (O1 Q5 (pv 6) Q2 (Q3 (pv 8))))))))))))),?_⟩
  refine ⟨_,rfl,(m:Int),rfl,by omega,by omega,O7 (k:=m) (n:=1) (fun i acc H'=>H' = H/\acc=((List.range i).map fun c=>if E3 0 c=true then 1 else 0).map vN) (by omega) ⟨rfl,rfl⟩ (fun i acc H' hi h=>?_) (fun i acc H' hi h=>?_) (fun acc H' h=>?_)⟩
  ·rw [h.2,Θl,Θl,List.length_range]; exact Zd_ _
  ·obtain ⟨rfl,rfl⟩:=h
   refine ⟨rfl,rfl,?_⟩
   have e:E3 0 i=false:=by rw [O3,Nat.zero_testBit]
   rw [List.range_succ,Zw_,Zw_,List.map_singleton,e]
   rfl
  obtain ⟨rfl,rfl⟩:=h
  intro z0 hz0
  have sz:=Same.new (o:=.lst ((U8 m 0).map vN)) hz0
  have hz1:(upd H' z0 (.lst ((U8 m 0).map vN))) z0=some (.lst ((U8 m 0).map vN)):=A8
  refine ⟨(by show 1<=sizeLine; decide),fun bt hbt=>?_⟩
  have zne:z0≠st:=(F1 S (But.refl _ _) hz0).2
  have nb0:bt≠st:=(F1 (S.same sz) (But.refl _ _) hbt).2
  have s1:=sz.trans (Same.new (o:=.lst [V.ref z0]) hbt)
  have hbt1:(upd (upd H' z0 (.lst ((U8 m 0).map vN))) bt (.lst [V.ref z0])) bt=some (.lst ([z0].map V.ref)):=A8
  have hz2:=(Same.new (o:=.lst [V.ref z0]) hbt) _ _ hz1
  have S1:=S.same s1
  dsimp only
  unfold U8 at s1 hbt1 hz2 S1
  generalize upd (upd H' z0 (.lst (((List.range m).map fun c=>if E3 0 c=true then 1 else 0).map vN))) bt (.lst [V.ref z0])=H1 at s1 hbt1 hz2 S1
  clear sz hz1 hbt
  refine ⟨_,rfl,((4:Nat):Int),rfl,bl,_,rfl,s1.seq hbl,fun sp hsp=>?_⟩
  rw [Y5,<-List.map_take]
  rw [<-hbs]
  have s2:=Same.new (o:=.lst (bs.map vN)) hsp
  have hsp2:(upd H1 sp (.lst (bs.map vN))) sp=some (.lst (bs.map vN)):=A8
  have hbt2:=s2 _ _ hbt1
  have S2:=S1.same s2
  have s02:=s1.trans s2
  have B2:BitsAt (upd H1 sp (.lst (bs.map vN))) m [z0] (T5 bs 0):=⟨rfl,fun i a t h1 h2=>by
   cases i with
   | zero=>
    obtain rfl:z0=a:=Θo h1
    obtain rfl:0=t:=Θo h2
    exact s2 _ _ hz2
   | succ i=>simp at h1⟩
  generalize upd H1 sp (.lst (bs.map vN))=H2 at s2 hsp2 hbt2 S2 s02 B2
  refine ⟨sp,rfl,⟨_,SqL.of hsp2⟩,I9 (xs:=bs.map vN) (fun j σ H3=>∃(bt:Addr) (as:List Addr) (v4:Option V),σ=[some (.ref st),some (vN m),some (.ref bl),some (.ref bt),v4,none,none,none,none]/\Same H2 H3/\H3 bt=some (.lst (as.map V.ref))/\BitsAt H3 m as (T5 bs j)/\bt≠st/\∀a∈as,a≠st) ⟨bt,[z0],_,rfl,Same.refl _,hbt2,B2,nb0,fun a ha=>by rw [Θs ha]; exact zne⟩ (fun j σ H3 _ h=>by obtain ⟨_,_,_,_,s',_⟩:=h; exact SqL.of (s' _ _ hsp2)) ?_ ?_⟩
  ·rintro j v σ H3 hv ⟨bt,as,v4,rfl,s3,hbt3,B3,nbt,nas⟩
   rw [Θg] at hv
   cases eb:bs[j]? with
   | none=>rw [eb] at hv; cases hv
   | some b=>
    rw [eb] at hv
    obtain rfl:=(Θo hv).symm
    have hj:=(Ze_.mp eb).1
    have gb:bs.getD j 0=b:=by rw [Zu_,eb]; rfl
    have las:as.length=2 ^ j:=B3.1.trans (Ay bs j)
    have p4:2 ^ j<=2 ^ 4:=Nat.pow_le_pow_right (by decide) (by omega)
    have S3:=S2.same s3
    refine ⟨_,rfl,(fun v h=>by cases h),_,rfl,bt,rfl,⟨_,SqL.of hbt3⟩,W9 (xs:=as.map V.ref) (fun i acc H4=>∃cs:List Addr,acc=cs.map V.ref/\cs.length=i/\Same H3 H4/\BitsAt H4 m cs (((T5 bs j).take i).map (·|||b))/\∀a∈cs,a≠st) (by rw [Θl]; omega) ⟨[],rfl,rfl,Same.refl _,⟨rfl,fun i a t h1=>by simp at h1⟩,fun a h=>absurd h List.not_mem_nil⟩ (fun i acc H4 hi h=>?_) (fun i v acc H4 hv4 h=>?_) (fun acc H4 h=>?_)⟩
    ·obtain ⟨cs,rfl,lc,s4,_⟩:=h
     exact ⟨SqL.of (s4 _ _ hbt3),by rw [Θl,lc]; exact Zd_ _⟩
    ·obtain ⟨cs,rfl,lc,s4,B4,ncs⟩:=h
     rw [Θg] at hv4
     cases ea:as[i]? with
     | none=>rw [ea] at hv4; cases hv4
     | some a=>
      rw [ea] at hv4
      obtain rfl:=(Θo hv4).symm
      have hia:i < (T5 bs j).length:=by rw [<-B3.1]; exact (Ze_.mp ea).1
      have es:(T5 bs j)[i]? = some (T5 bs j)[i]:=Θh hia
      obtain ⟨x,hx⟩:∃x,x=(T5 bs j)[i]:=⟨_,rfl⟩
      rw [<-hx] at es
      have ha4:=s4 _ _ (B3.2 i a x ea es)
      refine ⟨rfl,_,rfl,(m:Int),rfl,by omega,by omega,O7 (k:=m) (n:=1) (fun c acc2 H5=>H5=H4/\acc2=((List.range c).map fun c=>if E3 (x|||b) c=true then 1 else 0).map vN) (by omega) ⟨rfl,rfl⟩ (fun c acc2 H5 hc h=>?_) (fun c acc2 H5 hc h=>?_) (fun acc2 H5 h=>?_)⟩
      ·rw [h.2,Θl,Θl,List.length_range]; exact Zd_ _
      ·obtain ⟨rfl,rfl⟩:=h
       have lr:c < (U8 m x).length:=by rw [Ja]; exact hc
       refine ⟨rfl,_,rfl,_,rfl,a,_,_,_,rfl,rfl,SqL.of ha4,C4 (j:=c) (v:=vN ((U8 m x).getD c 0)) (by rw [Θg,Zu_,Θh lr]; rfl),_,rfl,_,rfl,b,c,rfl,by omega,.inr ⟨_,rfl,?_⟩⟩
       have fin:∀z:Nat,z=(if E3 b c=true then 1 else 0)->((List.range c).map fun c=>if E3 (x|||b) c=true then 1 else 0).map vN++[vN ((U8 m x).getD c 0|||z)]=((List.range (c + 1)).map fun c=>if E3 (x|||b) c=true then 1 else 0).map vN:=fun z ez=>by
        rw [List.range_succ,Zw_,Zw_,List.map_singleton,Iz hc,ez,Aci]
        rfl
       cases hb':E3 b c with
       | true=>exact ⟨_,1,rfl,rfl,rfl,fin 1 (by rw [hb']; rfl)⟩
       | false=>exact ⟨_,0,rfl,rfl,rfl,fin 0 (by rw [hb']; rfl)⟩
      ·obtain ⟨rfl,rfl⟩:=h
       intro ca hca
       have sc:=Same.new (o:=.lst ((U8 m (x|||b)).map vN)) hca
       refine ⟨cs++[ca],by rw [Zw_]; rfl,by rw [Zv_,lc]; rfl,s4.trans sc,?_,fun a' ha'=>?_⟩
       ·have eT:((T5 bs j).take (i + 1)).map (·|||b)=((T5 bs j).take i).map (·|||b)++[x|||b]:=by
         rw [List.take_succ,es,Zw_]
         rfl
        rw [eT]
        exact (B4.same sc).snoc A8
       ·rcases Θa ha' with h | h
        ·exact ncs a' h
        ·rw [Θs h]
         exact (F1 (S3.same s4) (But.refl _ _) hca).2
    ·obtain ⟨cs,rfl,lc,s4,B4,ncs⟩:=h
     intro d hd
     have sd:=s4.trans (Same.new (o:=.lst (cs.map V.ref)) hd)
     rw [Θl] at lc
     refine ⟨bt,d,_,_,rfl,rfl,sd _ _ hbt3,A8,Nat.le_of_lt (E2 (by rw [Θl,Θl]; omega)),fun np hnp=>?_⟩
     have sn:=sd.trans (Same.new (o:=.lst (as.map V.ref++cs.map V.ref)) hnp)
     refine ⟨np,as++cs,_,rfl,s3.trans sn,by rw [A8,Zw_],?_,(F1 (S3.same sd) (But.refl _ _) hnp).2,fun a ha=>?_⟩
     ·rw [T5,gb]
      rw [Θl,las,<-Ay bs j,List.take_length] at B4
      exact (B3.same sn).app (B4.same ((Same.new (o:=.lst (cs.map V.ref)) hd).trans (Same.new (o:=.lst (as.map V.ref++cs.map V.ref)) hnp)))
     ·rcases Θa ha with h | h
      ·exact nas a h
      ·exact ncs a h
  clear B2 hbt2 hbt1 hz2 zne
  rintro σ H3 ⟨bt,as,v4,rfl,s3,hbt3,B3,nbt,nas⟩
  rw [lbm] at B3
  have S3:=S2.same s3
  have b03:But st H' H3:=(s02.trans s3).but
  refine ⟨_,rfl,(m:Int),rfl,by omega,by omega,O7 (k:=m) (n:=1) (fun i acc H4=>∃ps:List NM,acc=(ps.map fun p=>V.ref p.1)/\ps.length=i/\NmOk H4 ps/\STF K H4 st ns (k + 2 * i)/\But st H3 H4) (by omega) ⟨[],rfl,rfl,⟨(fun p h=>absurd h Zi_),(fun p h=>absurd h Zi_)⟩,S3,But.refl _ _⟩ (fun i acc H4 hi h=>?_) (fun i acc H4 hi h=>?_) (fun acc H4 h=>?_)⟩
  ·obtain ⟨ps,rfl,e,_⟩:=h
   rw [Θl,e]; exact Zd_ _
  ·obtain ⟨ps,rfl,e,N4,S4,B4⟩:=h
   refine ⟨rfl,_,rfl,10,9,rfl,rfl,⟨by decide,by decide,by decide⟩,st,ns,k + 2 * i,10 ^ (9:Int).toNat,rfl,S4,by omega,hl,by decide,fun r5 H5 a5 b5 S5 B5=>?_⟩
   refine ⟨_,rfl,10,9,rfl,rfl,⟨by decide,by decide,by decide⟩,st,ns,k + 2 * i + 1,10 ^ (9:Int).toNat,rfl,S5,by omega,hl,by decide,fun r6 H6 a6 b6 S6 B6=>?_⟩
   refine ⟨1,r6,rfl,rfl,(by show 2<=sizeLine; decide),fun t ht=>?_⟩
   have sT:=Same.new (o:=.tup [V.int r5,V.int (1 + r6)]) ht
   refine ⟨ps++[(t,r5,r5 + (1 + r6))],by rw [Zw_]; rfl,by rw [Zv_,e]; rfl,N4.snoc (fun t' xs h'=>sT _ _ (K4 S4 (B5.trans B6) h')) A8 (by omega),?_,((B4.trans B5).trans B6).trans sT.but⟩
   rw [show k + 2 * (i + 1)=k + 2 * i + 1 + 1 by omega]
   exact S6.same sT
  obtain ⟨ps,rfl,lps,N4,S4,B4⟩:=h
  intro nl hnl
  have sn:=Same.new (o:=.lst (ps.map fun p=>V.ref p.1)) hnl
  have hnl5:(upd H4 nl (.lst (ps.map fun p=>V.ref p.1))) nl=some (.lst (ps.map fun p=>V.ref p.1)):=A8
  have S5:=S4.same sn
  have N5:=N4.tup fun t xs h=>sn _ _ h
  have b35:=B4.trans sn.but
  have nns:nl≠st:=(F1 S4 (But.refl _ _) hnl).2
  dsimp only
  generalize upd H4 nl (.lst (ps.map fun p=>V.ref p.1))=H5 at sn hnl5 S5 N5 b35
  refine ⟨⟨_,rfl,st,ns,k + 2 * m,3,rfl,S5,by omega,hl,by decide,fun r7 H7 a7 b7 S7 B7=>?_⟩,?_⟩
  ·obtain ⟨n7,rfl,hn7⟩:=K9 (n:=3) a7 b7
   have b37:=b35.trans B7
   have hbt7:=b37 _ _ hbt3 nbt
   have B37:=B3.but b37 nas
   refine ⟨n7,0,rfl,rfl,_,rfl,M9 (fun _=>?_) (fun _=>?_)⟩
   ·refine ⟨_,rfl,(m:Int),rfl,by omega,by omega,O7 (k:=m) (n:=1) (fun i acc H8=>∃ps:List NM,acc=(ps.map fun p=>V.ref p.1)/\ps.length=i/\NmOk H8 ps/\Same H7 H8) (by omega) ⟨[],rfl,rfl,⟨(fun p h=>absurd h Zi_),(fun p h=>absurd h Zi_)⟩,Same.refl _⟩ (fun i acc H8 hi h=>?_) (fun i acc H8 hi h=>?_) (fun acc H8 h=>?_)⟩
    ·obtain ⟨ps,rfl,e,_⟩:=h
     rw [Θl,e]; exact Zd_ _
    ·obtain ⟨ps,rfl,e,N8,s8⟩:=h
     refine ⟨rfl,10,59,rfl,rfl,⟨by decide,by decide,by decide⟩,0,10 ^ (59:Int).toNat,rfl,rfl,10,59,rfl,rfl,⟨by decide,by decide,by decide⟩,10 ^ (59:Int).toNat,7,rfl,rfl,(by show 2<=sizeLine; decide),fun t ht=>?_⟩
     have sT:=Same.new (o:=.tup [V.int (0 - 10 ^ (59:Int).toNat),V.int (10 ^ (59:Int).toNat + 7)]) ht
     exact ⟨ps++[(t,0 - 10 ^ (59:Int).toNat,(0 - 10 ^ (59:Int).toNat) + (10 ^ (59:Int).toNat + 7))],by rw [Zw_]; rfl,by rw [Zv_,e]; rfl,N8.snoc (fun t' xs h'=>sT _ _ h') A8 (by decide),s8.trans sT⟩
    ·obtain ⟨ps',rfl,lps',N8,s8⟩:=h
     intro nl' hnl'
     have s9:=Same.new (o:=.lst (ps'.map fun p=>V.ref p.1)) hnl'
     have s79:=s8.trans s9
     exact ⟨bt,nl',as,ps',k + 2 * m + 1,v4,rfl,S7.same s79,by omega,((b03.trans b37).trans s79.but),s79 _ _ hbt7,B37.same s79,A8,lps',N8.tup fun t xs h=>s9 _ _ h⟩
   ·exact ⟨bt,nl,as,ps,k + 2 * m + 1,v4,rfl,S7,by omega,b03.trans b37,hbt7,B37,B7 _ _ hnl5 nns,lps,N5.tup fun t xs h=>K4 S5 B7 h⟩
  clear S5 N5 b35 hnl5 sn hnl S4 B4 N4 lps nns S3 b03 B3 hbt3 s3 nas nbt hsp2 s02 S2 s2 hsp
  rintro _ H9 ⟨bt,nl,as,ps,k9,v4,rfl,S9,hk9,B9,hbt9,BA9,hnl9,lps,N9⟩
  have p16:as.length=2 ^ bs.length:=BA9.1.trans (Ay _ _)
  have p4:2 ^ bs.length<=2 ^ 4:=Nat.pow_le_pow_right (by decide) lb
  have p0:0 < 2 ^ bs.length:=Nat.two_pow_pos _
  refine ⟨(by show 0<=sizeLine; exact Zp_ _),fun rp hrp=>?_⟩
  obtain ⟨hrpH,nrs⟩:=F1 S9 B9 hrp
  have sr:=Same.new (o:=.lst []) hrp
  have nbr:bt≠rp:=C7 hbt9 hrp
  have nnr:nl≠rp:=C7 hnl9 hrp
  have nar:∀a∈as,a≠rp:=fun a ha=>by
   obtain ⟨i,hi,e⟩:=List.getElem_of_mem ha
   have hi2:i < (T5 bs bs.length).length:=by rw [<-BA9.1]; exact hi
   exact C7 (BA9.2 i a _ (by rw [Θh hi,e]) (Θh hi2)) hrp
  have hbtA:=sr _ _ hbt9
  have hnlA:=sr _ _ hnl9
  have SA:=S9.same sr
  have NA:=N9.tup fun t xs h=>sr _ _ h
  have BAA:=BA9.same sr
  have BA:=B9.trans sr.but
  have hrpA:(upd H9 rp (.lst [])) rp=some (.lst []):=A8
  dsimp only
  generalize upd H9 rp (.lst [])=HA at sr hbtA hnlA SA NA BAA hrpA BA
  clear hbt9 hnl9 S9 N9 BA9 B9 hrp
  refine ⟨_,rfl,bt,rfl,⟨_,SqL.of hbtA⟩,I9 (xs:=as.map V.ref) (fun i σ HB=>(∃v7,σ=[some (.ref st),some (vN m),some (.ref bl),some (.ref bt),v4,some (.ref nl),some (.ref rp),v7,none])/\But rp HA HB/\STF K HB st ns k9/\∃T:List RW,HB rp=some (.lst (C0 T))/\RowsOk HB m T/\T.map (·.2)=((T5 bs bs.length).take i).map fun x=>(List.range m).map fun c=>if E3 x c=true then hiP ps c else loP ps c) ⟨⟨_,rfl⟩,But.refl _ _,SA,[],hrpA,(fun r h=>absurd h Zi_),rfl⟩ (fun i σ HB _ h=>SqL.of (h.2.1 _ _ hbtA nbr)) ?_ ?_⟩
  ·rintro i v σ HB hv ⟨⟨v7,rfl⟩,BB,SB,T,hrpB,RB,eT⟩
   rw [Θg] at hv
   cases ea:as[i]? with
   | none=>rw [ea] at hv; cases hv
   | some a=>
    rw [ea] at hv
    obtain rfl:=(Θo hv).symm
    have hia:i < (T5 bs bs.length).length:=by rw [<-BAA.1]; exact (Ze_.mp ea).1
    have es:(T5 bs bs.length)[i]? = some (T5 bs bs.length)[i]:=Θh hia
    obtain ⟨x,hx⟩:∃x,x=(T5 bs bs.length)[i]:=⟨_,rfl⟩
    rw [<-hx] at es
    have haB:=BB _ _ (BAA.2 i a x ea es) (nar a (Θe ea))
    have hnlB:=BB _ _ hnlA nnr
    have NB:=NA.tup fun t xs h=>BB t _ h fun z=>by rw [z,hrpA] at h; cases h
    have lT:T.length<=16:=by
     have h1:=congrArg List.length eT
     have h2:=List.length_take_le i (T5 bs bs.length)
     have h3:=List.length_take_le' i (T5 bs bs.length)
     rw [Ay] at h3
     rw [Θl,Θl] at h1
     omega
    refine ⟨_,rfl,.inl ⟨rfl,_,SqL.of hrpB⟩,_,rfl,(m:Int),rfl,by omega,by omega,O7 (k:=m) (n:=1) (fun c acc HC=>HC=HB/\acc=((List.range c).map fun c=>if E3 x c=true then hiP ps c else loP ps c).map V.int) (by omega) ⟨rfl,rfl⟩ (fun c acc HC hc h=>?_) (fun c acc HC hc h=>?_) (fun acc HC h=>?_)⟩
    ·rw [h.2,Θl,Θl,List.length_range]; exact Zd_ _
    ·obtain ⟨rfl,rfl⟩:=h
     have hps:c < ps.length:=by omega
     have ep:ps[c]? = some ps[c]:=Θh hps
     have enl:(ps.map fun p=>V.ref p.1)[c]? = some (V.ref ps[c].1):=by rw [Θg,ep]; rfl
     have tp:=NB.1 _ (List.getElem_mem hps)
     have elo:loP ps c=ps[c].2.1:=by unfold loP; rw [ep]
     have ehi:hiP ps c=ps[c].2.2:=by unfold hiP; rw [ep]
     have lr:c < (U8 m x).length:=by rw [Ja]; exact hc
     have eb:((U8 m x).map vN)[c]? = some (vN ((U8 m x).getD c 0)):=by rw [Θg,Zu_,Θh lr]; rfl
     have gb:(U8 m x).getD c 0=if E3 x c=true then 1 else 0:=Iz hc
     have b1:(U8 m x).getD c 0<=1:=by rw [gb]; split <;> omega
     have ev:ps[c].2.1 + (ps[c].2.2 - ps[c].2.1) * (((U8 m x).getD c 0:Nat):Int)=if E3 x c=true then hiP ps c else loP ps c:=by
      rw [gb,elo,ehi]
      by_cases z:E3 x c=true
      ·rw [if_pos z,if_pos z]
       show ps[c].2.1 + (ps[c].2.2 - ps[c].2.1) * 1=ps[c].2.2
       omega
      ·rw [if_neg z,if_neg z]
       show ps[c].2.1 + (ps[c].2.2 - ps[c].2.1) * 0=ps[c].2.1
       omega
     refine ⟨rfl,_,rfl,_,rfl,nl,_,_,_,rfl,rfl,SqL.of hnlB,C4 (j:=c) enl,ps[c].1,_,_,_,rfl,rfl,SqT.of tp,C4 (j:=0) rfl,_,rfl,_,rfl,nl,_,_,_,rfl,rfl,SqL.of hnlB,C4 (j:=c) enl,ps[c].1,_,_,_,rfl,rfl,SqT.of tp,C4 (j:=1) rfl,_,rfl,_,rfl,a,_,_,_,rfl,rfl,SqL.of haB,C4 (j:=c) eb,ps[c].2.2 - ps[c].2.1,(((U8 m x).getD c 0:Nat):Int),rfl,rfl,.inr ⟨by omega,by omega⟩,ps[c].2.1,_,rfl,rfl,rfl,?_⟩
     rw [List.range_succ,Zw_,Zw_,List.map_singleton,<-ev]
     rfl
    ·obtain ⟨rfl,rfl⟩:=h
     obtain ⟨row,hrow⟩:∃row,row=(List.range m).map fun c=>if E3 x c=true then hiP ps c else loP ps c:=⟨_,rfl⟩
     have lrow:row.length=m:=by rw [hrow,Θl,List.length_range]
     rw [<-hrow]
     intro d hd
     refine ⟨d,_,rfl,.inl ⟨SqL.of A8,fun t ht=>?_⟩⟩
     have sS:=(Same.new (o:=.lst (row.map V.int)) hd).trans (Same.new (o:=.tup (row.map V.int)) ht)
     have htC:(upd (upd HC d (.lst (row.map V.int))) t (.tup (row.map V.int))) t=some (.tup (row.map V.int)):=A8
     have hrpC:=sS _ _ hrpB
     have SC:=SB.same sS
     have RC:=RB.same sS
     have BC:But rp HA (upd (upd HC d (.lst (row.map V.int))) t (.tup (row.map V.int))):=BB.trans sS.but
     generalize upd (upd HC d (.lst (row.map V.int))) t (.tup (row.map V.int))=HD at sS htC hrpC SC RC BC
     refine ⟨rp,_,_,rfl,rfl,hrpC,by unfold C0; rw [Θl]; exact E2 (by omega),⟨_,rfl⟩,BC.trans (But.put _ _ _),SC.put hrpC nrs,T++[(t,row)],?_,fun r hr0=>?_,?_⟩
     ·rw [A8]; unfold C0; rw [List.map_append]; rfl
     ·rcases Θa hr0 with hr0 | hr0
      ·exact ⟨T9 hrpC _ _ (RC r hr0).1,(RC r hr0).2⟩
      ·rw [Θs hr0]
       exact ⟨T9 hrpC _ _ htC,lrow⟩
     ·rw [Zw_,eT,List.take_succ,es,Zw_,hrow]
      rfl
  ·rintro σ HB ⟨⟨v7,rfl⟩,BB,SB,T,hrpB,RB,eT⟩
   rw [Θl,p16,<-Ay bs bs.length,List.take_length,Lj,List.map_map] at eT
   have eT':T.map (·.2)=(List.range (2 ^ bs.length)).map (P8 m (loP ps) (hiP ps) bs):=by
    rw [eT]
    exact List.map_congr_left fun n _=>Ki _ _ _ _ _
   have lT:T.length=2 ^ bs.length:=by
    have:=congrArg List.length eT'
    rwa [Θl,Θl,List.length_range] at this
   have lrf:(C0 T).length=T.length:=Θl ..
   have bHB:But st H' HB:=fun c o e n=>by
    have h1:=BA c o e n
    exact BB c o h1 fun z=>by rw [z,hrpH] at e; cases e
   refine ⟨_,rfl,_,rfl,rp,_,rfl,.inl (SqL.of hrpB),st,ns,k9,(((C0 T).length:Nat):Int),rfl,SB,by omega,hl,by omega,fun r HC aC bC SC BC=>?_⟩
   obtain ⟨j,rfl,hj⟩:=K9 aC bC
   have hrpC:=BC _ _ hrpB nrs
   have RC:RowsOk HC m T:=fun r hr0=>⟨K4 SB BC (RB r hr0).1,(RB r hr0).2⟩
   refine ⟨_,rfl,_,rfl,(j:Int),rfl,rp,_,rfl,SqL.of hrpC,fun p1 hp1=>?_⟩
   rw [Ds]
   have s1':=Same.new (o:=.lst ((C0 T).drop j)) hp1
   refine ⟨_,rfl,_,rfl,(j:Int),rfl,rp,_,rfl,SqL.of (s1' _ _ hrpC),fun p2 hp2=>?_⟩
   rw [Y5]
   have s2':=Same.new (o:=.lst ((C0 T).take j)) hp2
   refine ⟨p1,p2,_,_,rfl,rfl,s2' _ _ A8,A8,Nat.le_of_lt (E2 (by rw [List.length_drop,ZB]; omega)),fun p3 hp3=>?_⟩
   have s3':=Same.new (o:=.lst ((C0 T).drop j++(C0 T).take j)) hp3
   have sx:=(s1'.trans s2').trans s3'
   have hfr:=F1 (SC.same (s1'.trans s2')) ((bHB.trans BC).trans (s1'.trans s2').but) hp3
   refine qq p3 (T.drop j++T.take j) (loP ps) (hiP ps) (k9 + 1) _ (Abz NA.2) ?_ hfr.1 (by rw [A8]; unfold C0; rw [List.map_append,List.map_drop,List.map_take]) ?_ (by omega) (SC.same sx) ((bHB.trans BC).trans sx.but) hfr.2
   ·rw [<-eT',Zw_]
    refine List.Perm.trans List.perm_append_comm ?_
    rw [<-Zw_,List.take_append_drop]
   ·intro r hr0
    have:r∈T:=by
     rcases Θa hr0 with h | h
     ·exact List.mem_of_mem_drop h
     ·exact List.mem_of_mem_take h
    exact (RC.same sx) r this
noncomputable abbrev Hw:Stmt:=top 50
theorem Zw:FnScope ["_law_one","_law_other","_law_some"] ["_law_one","_law_other","_law_some"] (C3 Hw):=⟨rfl,rfl,rfl,by decide +kernel,rfl,by decide +kernel,by decide +kernel⟩
theorem Us {f fG:Addr} {fd fdG:FuncData} (F:Fun K "_law_agree" "_law_agree" Hw f fd) (GG:FnOk P w K mg base CX0 1 fG fdG ["_law_some","_law_k"] Ij) (mG:mg "_law_has" = some (.ref fG)) (kG:Θk K fG) (bG:Binds K fdG ["_law_some","_law_k"] []) (zrange:mg "range" = none) (zlen:mg "len" = none):FnOk P w K mg base CX0 2 f fd ["_law_one","_law_other","_law_some"] (Pc K):=by
 refine F.ok Zw (fun vs H Q E h=>?_) (fun cdv A outer s H vs Q E hr h=>?_)
 ·obtain ⟨a,b,r1,r2,x,rfl,_⟩:=h
  rfl
 ·obtain ⟨a,b,r1,r2,x,rfl,ha,hb,hl,hl2,q⟩:=h
  refine ⟨_,(C1 (D0 (P1 (Zc (K:=K) rfl hr.units) (M1 (xs:=["_law_k"]) (cs ["_law_one","_law_other","_law_some"] (C3 Hw) rfl rfl (by decide +kernel)) rfl (G9 rfl zrange (A0 (F2 (G0 (K:=K) rfl) (by rfl) zlen PySem.boot_len (A0 (pv 0) A6)) A6)) (fun _ _ _=>D5 (i:=0) (show (["_law_k","_law_one","_law_other","_law_some"]:List Str).Nodup by decide +kernel) rfl (Or.inl rfl)) (fun _ _ _=>(Bl (PW.pt (Vs (V2 (C2 GG hr rfl mG kG bG .nil C8 (A0 (pv 3) (A0 (pv 0) A6)))) (Ot (D8 Ace (D7 (D2 (K:=K) rfl) (pv 1) (pv 0) (fun _ _=>rfl)) (D7 (D2 (K:=K) rfl) (pv 2) (pv 0) (fun _ _=>rfl)) (D9 _))))))) (fun _ _ _=>(pv 0))) (G8 A6) (D9 _)))),?_⟩
  have lm:(r1.map V.int).length=r1.length:=Θl ..
  refine ⟨_,rfl,a,_,rfl,.inr ha,_,rfl,(by omega),(by omega),O7 (k:=(r1.map V.int).length) (n:=1) (fun i acc H'=>H' = H/\acc=((List.range i).filter fun k=>E3 x k && !decide (r1.getD k 0=r2.getD k 0)).map vN) (by omega) ⟨rfl,rfl⟩ (fun i acc H' hi h=>?_) (fun i acc H' hi h=>?_) (fun acc H' h=>?_)⟩
  ·rw [h.2,Θl]
   exact Nat.le_trans (List.length_filter_le _ _) (by simp)
  ·obtain ⟨rfl,rfl⟩:=h
   rw [lm] at hi
   refine ⟨rfl,_,rfl,_,rfl,x,i,rfl,by omega,_,rfl,?_⟩
   refine M9 (fun hc=>?_) (fun hc=>?_)
   ·refine ⟨_,rfl,_,rfl,a,_,_,_,rfl,rfl,ha,C4 (j:=i) (O8 hi),_,rfl,_,rfl,b,_,_,_,rfl,rfl,hb,C4 (j:=i) (O8 (by omega)),_,_,rfl,rfl,_,rfl,?_⟩
    refine M9 (fun hd=>?_) (fun hd=>?_)
    ·refine ⟨_,rfl,rfl,?_⟩
     rw [V5,if_pos (by rw [hc,Bool.true_and]; exact hd),Zw_]
     rfl
    ·refine ⟨rfl,?_⟩
     rw [V5,if_neg (by rw [hc,Bool.true_and]; exact hd),List.append_nil]
   ·refine V1 ⟨rfl,?_⟩
    rw [V5,if_neg (by intro z; rw [Bool.and_eq_true] at z; exact hc z.1),List.append_nil]
  ·obtain ⟨rfl,rfl⟩:=h
   intro d hd
   refine ⟨(by show 0<=sizeLine; exact Zp_ _),fun e he=>?_⟩
   refine ⟨d,e,(Yq r1 r2 x).map fun (k:Nat)=>(k:Int),[],rfl,rfl,SqL.of ?_,SqL.of A8,?_⟩
   ·rw [C9 (C7 A8 he),A8,Ct,lm]
    rfl
   ·have e1:decide ((Yq r1 r2 x).map (fun (k:Nat)=>(k:Int))=[])=P5 r1 r2 x:=by
     unfold P5
     rw [decide_eq_decide,List.map_eq_nil_iff]
    show Q (V.bl (decide _)) _
    rw [e1]
    exact q _ ((Same.new hd).trans (Same.new he))
noncomputable abbrev Ac0:Stmt:=top 51
theorem scMix:FnScope ["_law_one","_law_other","_law_some","_law_row","_law_k"] ["_law_one","_law_other","_law_some"] (C3 Ac0):=⟨rfl,rfl,rfl,by decide +kernel,rfl,by decide +kernel,by decide +kernel⟩
theorem Ab7 {f fG:Addr} {fd fdG:FuncData} (F:Fun K "_law_mix" "_law_mix" Ac0 f fd) (GG:FnOk P w K mg base CX0 1 fG fdG ["_law_some","_law_k"] Ij) (mG:mg "_law_has" = some (.ref fG)) (kG:Θk K fG) (bG:Binds K fdG ["_law_some","_law_k"] []) (zrange:mg "range" = none) (zlen:mg "len" = none) (zint:mg "int" = none) (ztuple:mg "tuple" = none):FnOk P w K mg base CX0 2 f fd ["_law_one","_law_other","_law_some"] (X6 K):=by
 refine F.ok scMix (fun vs H Q E h=>?_) (fun cdv A outer s H vs Q E hr h=>?_)
 ·obtain ⟨a,b,r1,r2,x,rfl,_⟩:=h
  rfl
 ·obtain ⟨a,b,r1,r2,x,rfl,ha,hb,hl,hl2,q⟩:=h
  have nd:=scMix.nd
  refine ⟨_,(A9 (D1 (i:=3) nd rfl (Or.inl rfl) (G8 A6))
   (A9 (I8 PassesOwn.never rfl (G9 rfl zrange (A0 (F2 (G0 (K:=K) rfl) (by rfl) zlen PySem.boot_len (A0 (pv 0) A6)) A6)) (D5 (i:=4) nd rfl (Or.inl rfl)) (C1 (Q4 (Ah PySem.F.plainAttrs_list PySem.F.slot_list_append PySem.F.type_list_append N2 (pv 3) (A0 (D7 (E4 (K:=K) rfl) (G8 (A0 (D7 (D2 (K:=K) rfl) (pv 1) (pv 4) (fun _ _=>rfl)) (A0 (D7 (D2 (K:=K) rfl) (pv 0) (pv 4) (fun _ _=>rfl)) A6))) (E5 Z9 (by rfl) zint PyProof.Rows.boot_int (A0 (C2 GG hr rfl mG kG bG .nil C8 (A0 (pv 2) (A0 (pv 4) A6))) A6)) (fun _ _=>rfl)) A6)))))
   (C1 (D0 (E5 (Q6 (K:=K) rfl) (by rfl) ztuple PyProof.Rows.boot_tuple (A0 (pv 3) A6)))))),?_⟩
  have lm:(r1.map V.int).length=r1.length:=Θl ..
  refine ⟨(by show 0<=sizeLine; exact Zp_ _),fun p hp=>?_⟩
  refine ⟨_,rfl,a,_,rfl,.inr ((Same.new hp).tupS ha),_,rfl,(by omega),(by omega),U3 (n:=(r1.map V.int).length) (fun i σ H2=>(∃v,σ=[some (.ref a),some (.ref b),some (vN x),some (.ref p),v])/\Same H H2/\H2 p=some (.lst (((List.range i).map fun k=>if E3 x k=true then r1.getD k 0 else r2.getD k 0).map V.int))) ⟨⟨none,rfl⟩,Same.new hp,A8⟩ ?_ ?_⟩
  ·rintro i σ H2 hi ⟨⟨v,rfl⟩,s2,hp2⟩
   rw [lm] at hi
   refine ⟨_,rfl,.inl ⟨rfl,_,SqL.of hp2⟩,?_⟩
   refine ⟨_,rfl,_,rfl,b,_,_,_,rfl,rfl,s2.tupS hb,C4 (j:=i) (O8 (by omega)),_,rfl,_,rfl,a,_,_,_,rfl,rfl,s2.tupS ha,C4 (j:=i) (O8 hi),(by show 2<=sizeLine; decide),fun l hl=>?_⟩
   refine ⟨_,rfl,_,rfl,x,i,rfl,by omega,.inr ⟨_,rfl,?_⟩⟩
   have hp3:(upd H2 l (.lst [V.int (r2.getD i 0),V.int (r1.getD i 0)])) p=some (.lst (((List.range i).map fun k=>if E3 x k=true then r1.getD k 0 else r2.getD k 0).map V.int)):=(Same.new hl) _ _ hp2
   have s3:Same H (upd H2 l (.lst [V.int (r2.getD i 0),V.int (r1.getD i 0)])):=s2.trans (Same.new hl)
   have fin:∀(j:Nat) (z:Int),([V.int (r2.getD i 0),V.int (r1.getD i 0)]:List V)[j]? = some (V.int z)->z=(if E3 x i=true then r1.getD i 0 else r2.getD i 0)->∀n:Int,n=(j:Int)->
     Zp K (.ref l) (.int n) (upd H2 l (.lst [V.int (r2.getD i 0),V.int (r1.getD i 0)])) fun y H4=>Ho (.ref p) [y] H4 fun _ H5=>(∃v,([some (.ref a),some (.ref b),some (vN x),some (.ref p),some (vN i)]:St)=[some (.ref a),some (.ref b),some (vN x),some (.ref p),v])/\Same H H5/\H5 p=some (.lst (((List.range (i + 1)).map fun k=>if E3 x k=true then r1.getD k 0 else r2.getD k 0).map V.int)):=fun j z e1 e2 n e3=>by
    refine ⟨l,_,_,_,rfl,rfl,SqL.of A8,(by rw [e3]; exact C4 e1),p,_,_,rfl,rfl,hp3,?_,⟨_,rfl⟩,?_,?_⟩
    ·rw [Θl,Θl,List.length_range]; exact E2 (by omega)
    ·exact fun c o e=>by rw [C9 (C7 e hp)]; exact s3 c o e
    ·rw [A8,List.range_succ,Zw_,Zw_,e2]
     rfl
   cases hb':E3 x i with
   | true=>exact fin 1 (r1.getD i 0) rfl (by rw [if_pos hb']) _ rfl
   | false=>exact fin 0 (r2.getD i 0) rfl (by rw [if_neg (by rw [hb']; exact Zf_)]) _ rfl
  ·rintro σ H2 ⟨⟨v,rfl⟩,s2,hp2⟩
   refine ⟨_,rfl,p,_,rfl,.inl ⟨SqL.of hp2,fun t ht=>?_⟩⟩
   refine q t _ (s2.trans (Same.new ht)) (s2.free ht) ?_
   rw [A8,lm]
   rfl
end
end Own
namespace Own
open PySem L2
structure Df (K:Θf) (mg:Str->Option Value) (x:Str) (st:Stmt) (f:Addr) (ps:List Str) (fd:FuncData):Prop where
 F:Fun K x x st f fd
 m:mg x=some (.ref f)
 k:Θk K f
 b:Binds K fd ps []
theorem df_mk {K:Θf} {h:Heap} {mg:Str->Option Value} {x:Str} {st:Stmt} {f:Addr} {ps:List Str} {oc:Value} {od an:Option Addr} {osl:Array (Option Value)} {kV doc pm cdv ct:Value} (X:K.In h) (G:h.Ns mainGlobals mg)
  (a:PySem.W.nsIn K mainGlobals x=some (some (.ref f))) (l:K.lookup f=some ⟨oc,od,.func (PySem.W.fnOf x x (W5 st) (T6 st) (C3 st) .none kV doc pm an cdv ct),osl⟩) (c:PySem.W.codeIn K cdv x=true) (k:PySem.W.keepIn K (.ref f)=true)
  (b:∀kV doc pm an cdv ct (us:List Value),us.length=ps.length->bindArgs (PySem.W.fnOf x x (W5 st) (T6 st) (C3 st) .none kV doc pm an cdv ct) ⟨us,[]⟩=pure (ps.zip us)):∃fd,Df K mg x st f ps fd:=
 ⟨_,Tp l c k,PySem.W.mg_of X G a,k,(Tp (st:=st) l c k).binds b⟩
theorem v1 {us:List Value}:us.length=1->∃a,us=[a]:=fun h=>match us,h with | [a],_=>⟨a,rfl⟩
theorem v2 {us:List Value}:us.length=2->∃a b,us=[a,b]:=fun h=>match us,h with | [a,b],_=>⟨a,b,rfl⟩
theorem v3 {us:List Value}:us.length=3->∃a b c,us=[a,b,c]:=fun h=>match us,h with | [a,b,c],_=>⟨a,b,c,rfl⟩
theorem v4 {us:List Value}:us.length=4->∃a b c d,us=[a,b,c,d]:=fun h=>match us,h with | [a,b,c,d],_=>⟨a,b,c,d,rfl⟩

theorem all_mk {l:PySem.W.OpenLaw} {w:World} {K:PySem.W.Frag} {h:Heap} {mg:Str→Option Value} {fa:Addr} (X:K.In h) (G:h.Ns mainGlobals mg) (hfa:mg "law" = some (.ref fa))
  (dH:∃fd,Df K mg "has_column" Acz fH ["some","column"] fd)
  (dC:∃fd,Df K mg "columns_of" Oy fC ["some"] fd)
  (dAL:∃fd,Df K mg "all_of" Acy fAL ["many"] fd)
  (dIW:∃fd,Df K mg "is_within" Ig fIW ["one","other"] fd)
  (dMO:∃fd,Df K mg "with_one_more" Pa fMO ["sets","some"] fd)
  (dL:∃fd,Df K mg "alike" Hx fL ["one","other","some"] fd)
  (dM:∃fd,Df K mg "mixed" Id fM ["one","other","some"] fd)
  (dN:∃fd,Df K mg "noughts" Eo fN ["many"] fd)
  (dE:∃fd,Df K mg "seen_row" Wl fE ["row","part"] fd)
  (dU:∃fd,Df K mg "groups_on" Ia fU ["book","some"] fd)
  (dF:∃fd,Df K mg "firsts_on" Cy fF ["book","some"] fd)
  (dS2:∃fd,Df K mg "settle_breach" Ie fS2 ["book","left","right"] fd)
  (dX:∃fd,Df K mg "lacking_mix" Oz fX ["rows","held"] fd)
  (dD2:∃fd,Df K mg "deal_breach" Wi fD2 ["book","left","right"] fd)
  (dB:∃fd,Df K mg "breach" Hy fB ["book","rule"] fd)
  (dKP:∃fd,Df K mg "keeps" Ml fKP ["book","rules"] fd)
  (dO:∃fd,Df K mg "seen_on" Cz fO ["book","part"] fd)
  (dPT:∃fd,Df K mg "put_together" Ac1 fPT ["one","part","other","beside"] fd)
  (dCU:∃fd,Df K mg "can_use" Hz fCU ["rule","block"] fd)
  (dI:∃fd,Df K mg "listed" Ic fI ["block"] fd)
  (dUD:∃fd,Df K mg "used" Wo fUD ["rule","fixed","blocks","at"] fd)
  (dBG:∃fd,Df K mg "begun" Mh fBG ["many","some"] fd)
  (dFU:∃fd,Df K mg "first_use" Mj fFU ["rules","blocks"] fd)
  (dUN:∃fd,Df K mg "unfolded" Ac3 fUN ["many","rules","some"] fd)
  (dTA:∃fd,Df K mg "told_again" Hv fTA ["many","rules","part","some"] fd)
  (dTW:∃fd,Df K mg "twice" Mr fTW ["many","rules","part"] fd)
  (dTO:∃fd,Df K mg "tree_of" Wn fTO ["many","rules","part"] fd)
  (dCO:∃fd,Df K mg "count_parts" Mi fCO ["tree"] fd)
  (dCT:∃fd,Df K mg "cut_tree" En fCT ["many","rules"] fd)
  (dGR:∃fd,Df K mg "grown" Mk fGR ["book","tree"] fd)
  (dT:∃fd,Df K mg "_law_take" Wm fT ["_law_state","_law_most"] fd)
  (dS:∃fd,Df K mg "_law_set" Ac2 fS ["_law_state","_law_many"] fd)
  (dG:∃fd,Df K mg "_law_has" Wj fG ["_law_some","_law_k"] fd)
  (dRU:∃fd,Df K mg "_law_rules" Mo fRU ["_law_state","_law_many","_law_count"] fd)
  (dTB:∃fd,Df K mg "_law_table" Mp fTB ["_law_state"] fd)
  (dP:∃fd,Df K mg "_law_pool" Wk fP ["_law_state"] fd)
  (dBK:∃fd,Df K mg "_law_book" Ox fBK ["_law_state","_law_many","_law_size"] fd)
  (dCH:∃fd,Df K mg "_law_choices" Fd fCH ["_law_state","_law_many","_law_blocks"] fd)
  (dTR:∃fd,Df K mg "_law_tree" Mq fTR ["_law_many","_law_rules_here"] fd)
  (dND:∃fd,Df K mg "_law_nodes" Mn fND ["_law_tree_here"] fd)
  (dKE:∃fd,Df K mg "_law_kept" Mm fKE ["_law_rows","_law_some"] fd)
  (dAG:∃fd,Df K mg "_law_agree" Hw fAG ["_law_one","_law_other","_law_some"] fd)
  (dMX:∃fd,Df K mg "_law_mix" Ac0 fMX ["_law_one","_law_other","_law_some"] fd)
  (dJN:∃fd,Df K mg "_law_joined" Ib fJN ["_law_one","_law_part","_law_other","_law_both"] fd)
  (dUP:∃fd,Df K mg "_law_up" sUp fUP ["_law_rows","_law_node"] fd)
  (dDR:∃fd,Df K mg "_law_drawn_right" Cw fDR ["_law_rows","_law_some"] fd)
  (dQ:∃fd,Df K mg "law" Ry fQ ["_law_script"] fd)
  {tkMT:Tok} (aMT:PySem.W.nsIn K mainGlobals "MOST_TREE_PARTS" = some (some (.int 60 tkMT)))
  {CTM:Addr} (aTM:PySem.W.nsIn K mainGlobals "TooMany" = some (some (.ref CTM))) (eTM:PySem.W.excIn K CTM [.type "ValueError",.type "Exception",.type "BaseException",.type "object"] "ValueError.__new__" = true) (xTM:PySem.W.exmOne K (.ref CTM) (.ref CTM)=some true)
  (zlen:mg "len" = none) (zrange:mg "range" = none) (zenumerate:mg "enumerate" = none) (zall:mg "all" = none) (ztuple:mg "tuple" = none) (zdict:mg "dict" = none) (zsorted:mg "sorted" = none) (zset:mg "set" = none) (zlist:mg "list" = none) (zint:mg "int" = none) (zisinstance:mg "isinstance" = none) :
  ∃fd:FuncData,(∀(s:Shared) (v:Value),BindsTo s fd ⟨[v],[]⟩ [("_law_script",v)])∧∀base:Heap,K.In base→base.Ns mainGlobals mg→FnOk l.prog w K mg base CX0 137 fa fd ["_law_script"] (Ph K):=by
 obtain ⟨fdH,FH,mH,kH,bH⟩:=dH
 obtain ⟨fdC,FC,mC,kC,bC⟩:=dC
 obtain ⟨fdAL,FAL,mAL,kAL,bAL⟩:=dAL
 obtain ⟨fdIW,FIW,mIW,kIW,bIW⟩:=dIW
 obtain ⟨fdMO,FMO,mMO,kMO,bMO⟩:=dMO
 obtain ⟨fdL,FL,mL,kL,bL⟩:=dL
 obtain ⟨fdM,FM,mM,kM,bM⟩:=dM
 obtain ⟨fdN,FN,mN,kN,bN⟩:=dN
 obtain ⟨fdE,FE,mE,kE,bE⟩:=dE
 obtain ⟨fdU,FU,mU,kU,bU⟩:=dU
 obtain ⟨fdF,FF,mF,kF,bF⟩:=dF
 obtain ⟨fdS2,FS2,mS2,kS2,bS2⟩:=dS2
 obtain ⟨fdX,FX,mX,kX,bX⟩:=dX
 obtain ⟨fdD2,FD2,mD2,kD2,bD2⟩:=dD2
 obtain ⟨fdB,FB,mB,kB,bB⟩:=dB
 obtain ⟨fdKP,FKP,mKP,kKP,bKP⟩:=dKP
 obtain ⟨fdO,FO,mO,kO,bO⟩:=dO
 obtain ⟨fdPT,FPT,mPT,kPT,bPT⟩:=dPT
 obtain ⟨fdCU,FCU,mCU,kCU,bCU⟩:=dCU
 obtain ⟨fdI,FI,mI,kI,bI⟩:=dI
 obtain ⟨fdUD,FUD,mUD,kUD,bUD⟩:=dUD
 obtain ⟨fdBG,FBG,mBG,kBG,bBG⟩:=dBG
 obtain ⟨fdFU,FFU,mFU,kFU,bFU⟩:=dFU
 obtain ⟨fdUN,FUN,mUN,kUN,bUN⟩:=dUN
 obtain ⟨fdTA,FTA,mTA,kTA,bTA⟩:=dTA
 obtain ⟨fdTW,FTW,mTW,kTW,bTW⟩:=dTW
 obtain ⟨fdTO,FTO,mTO,kTO,bTO⟩:=dTO
 obtain ⟨fdCO,FCO,mCO,kCO,bCO⟩:=dCO
 obtain ⟨fdCT,FCT,mCT,kCT,bCT⟩:=dCT
 obtain ⟨fdGR,FGR,mGR,kGR,bGR⟩:=dGR
 obtain ⟨fdT,FT,mT,kT,bT⟩:=dT
 obtain ⟨fdS,FS,mS,kS,bS⟩:=dS
 obtain ⟨fdG,FG,mG,kG,bG⟩:=dG
 obtain ⟨fdRU,FRU,mRU,kRU,bRU⟩:=dRU
 obtain ⟨fdTB,FTB,mTB,kTB,bTB⟩:=dTB
 obtain ⟨fdP,FP,mP,kP,bP⟩:=dP
 obtain ⟨fdBK,FBK,mBK,kBK,bBK⟩:=dBK
 obtain ⟨fdCH,FCH,mCH,kCH,bCH⟩:=dCH
 obtain ⟨fdTR,FTR,mTR,kTR,bTR⟩:=dTR
 obtain ⟨fdND,FND,mND,kND,bND⟩:=dND
 obtain ⟨fdKE,FKE,mKE,kKE,bKE⟩:=dKE
 obtain ⟨fdAG,FAG,mAG,kAG,bAG⟩:=dAG
 obtain ⟨fdMX,FMX,mMX,kMX,bMX⟩:=dMX
 obtain ⟨fdJN,FJN,mJN,kJN,bJN⟩:=dJN
 obtain ⟨fdUP,FUP,mUP,kUP,bUP⟩:=dUP
 obtain ⟨fdDR,FDR,mDR,kDR,bDR⟩:=dDR
 obtain ⟨fdQ,FQ,mQ,kQ,bQ⟩:=dQ
 have e:=hfa.symm.trans mQ
 cases e
 have mMT:=PySem.W.mg_of X G aMT
 obtain ⟨_,_,kV,doc,pm,an,cdv,ct,_,rfl,_,_⟩:=id FQ.ex
 refine ⟨PySem.W.fnOf "law" "law" (W5 Ry) (T6 Ry) (C3 Ry) .none kV doc pm an cdv ct,fun s v=>.of_eq rfl,fun base _ _=>?_⟩
 have mTM:=PySem.W.mg_of X G aTM
 have GH:=Ab5 (P:=l.prog) (w:=w) (mg:=mg) (base:=base) FH
 have GC:=Ys FC GH mH kH bH zrange
 have GAL:=Ab3 (P:=l.prog) (w:=w) (mg:=mg) (base:=base) FAL
 have GIW:=Ro (P:=l.prog) (w:=w) (mg:=mg) (base:=base) FIW
 have GMO:=Yw FMO GC mC kC bC zsorted
 have GL:=Ut FL GC mC kC bC zall
 have GM:=Ux FM GH mH kH bH zrange zlen ztuple
 have GN:=Mb (P:=l.prog) (w:=w) (mg:=mg) (base:=base) FN
 have GE:=Yy FE GM mM kM bM GN mN kN bN zlen
 have GU:=Rg FU GE mE kE bE
 have GF:=Rf FF GU mU kU bU
 have GS2:=Rm FS2 GU mU kU bU GL mL kL bL
 have GX:=Yv FX GAL mAL kAL bAL GF mF kF bF GM mM kM bM zdict zlen
 have GD2:=Yt FD2 GU mU kU bU GX mX kX bX
 have GB:=Rc FB GS2 mS2 kS2 bS2 GD2 mD2 kD2 bD2
 have GKP:=Uw FKP GB mB kB bB
 have GO:=Rk FO GE mE kE bE zset zsorted
 have GPT:=Ab8 FPT GO mO kO bO GU mU kU bU GE mE kE bE GM mM kM bM zsorted
 have GCU:=Re (P:=l.prog) (w:=w) (mg:=mg) (base:=base) FCU
 have GI:=Rj (P:=l.prog) (w:=w) (mg:=mg) (base:=base) FI
 have GUD:=Za FUD GI mI kI bI
 have GBG:=Uu FBG GI mI kI bI GAL mAL kAL bAL
 have GFU:=Uv FFU GCU mCU kCU bCU zenumerate
 have GUN:=Aca FUN GBG mBG kBG bBG GFU mFU kFU bFU GUD mUD kUD bUD
 have GTA:=Ur FTA GUN mUN kUN bUN GIW mIW kIW bIW zlen
 have GTW:=Vb FTW GTA mTA kTA bTA GMO mMO kMO bMO
 have GTO:=Oi FTO GTW mTW kTW bTW mTO kTO bTO 128
 have GCO:=Ka (P:=l.prog) (w:=w) (mg:=mg) (base:=base) FCO mCO kCO bCO 128
 have OTM:Exc K "TooMany" CTM:=⟨aTM,eTM⟩
 have GCT:=Lz FCT GTO mTO kTO bTO GAL mAL kAL bAL GCO mCO kCO bCO OTM mMT
 have GGR:=Kb FGR GO mO kO bO GPT mPT kPT bPT mGR kGR bGR 128
 have GT:=Yz (P:=l.prog) (w:=w) (base:=base) FT zlen
 have GS:=Ab9 FS GT mT kT bT
 have GG:=Yu (P:=l.prog) (w:=w) (mg:=mg) (base:=base) FG
 have GRU:=Uz FRU GT mT kT bT GS mS kS bS zrange
 have GTB:=Va FTB GT mT kT bT GRU mRU kRU bRU
 have GP:=Yx FP GT mT kT bT
 have GBK:=Yr FBK GT mT kT bT GP mP kP bP zrange zlen zlist ztuple
 have GCH:=Ab4 FCH GT mT kT bT GG mG kG bG zrange zlen zint ztuple
 have GTR:=Rn FTR mTM xTM GCT mCT kCT bCT zlist
 have GND:=Uy (P:=l.prog) (w:=w) (base:=base) FND zlen
 have GKE:=Ri FKE GO mO kO bO GGR mGR kGR bGR zlist zisinstance
 have GAG:=Us FAG GG mG kG bG zrange zlen
 have GMX:=Ab7 FMX GG mG kG bG zrange zlen zint ztuple
 have GJN:=Rh FJN GAG mAG kAG bAG GMX mMX kMX bMX zsorted
 have GUP:=Aa1 FUP GMX mMX kMX bMX GJN mJN kJN bJN mUP kUP bUP ztuple zsorted 128
 have GDR:=Ma FDR GO mO kO bO GGR mGR kGR bGR GUP mUP kUP bUP zlist
 exact Ab6 FQ GT mT kT bT GTB mTB kTB bTB GTR mTR kTR bTR GND mND kND bND GUN mUN kUN bUN GS mS kS bS GCH mCH kCH bCH GKP mKP kKP bKP GKE mKE kKE bKE GBK mBK kBK bBK GRU mRU kRU bRU GDR mDR kDR bDR zlist zrange zlen zint
theorem walk {l:PySem.W.OpenLaw} {q:Program} {loose:List Str} {XP:(Str→Option Value)→Heap→Prop} {YP:World→Heap→Prop} {d:DefRec} {K:Params→PySem.W.Frag} (hn:l.most=some 63) (hdf:d.params.defaults=[])
  (hY:∀(w:World) (h:Heap),YP w h→(K w.params).In h)
  (F:∀(w:World) (mg:Str→Option Value) (fa:Addr) (h:Heap),(K w.params).In h→h.Ns mainGlobals mg→mg d.name=some (.ref fa)→
   ∃fd:FuncData,(∀(s:Shared) (u:Value),BindsTo s fd ⟨[u],[]⟩ [("_law_script",u)])∧∀base:Heap,(K w.params).In base→base.Ns mainGlobals mg→FnOk l.prog w (K w.params) mg base CX0 137 fa fd ["_law_script"] (Ph (K w.params))) :
  PySem.W.WalkO q loose XP YP l.row.toRowW d [] (fun f vs=>PySem.call f vs):=
 L2.walk_of (n:=63) (k:=137) (x:="_law_script") (CX:=fun _=>CX0) (sp:=fun w=>Ph (K w.params)) hn (by decide) hdf ⟨rfl,by decide,by decide⟩ hY F (fun _ _ a ns hl hO hS=>⟨a,ns,rfl,SqF.of hO hS,hl,fun _=>rfl⟩) fun _ _ _ _ _ z=>z
end Own
namespace PySem.W.Fast
def tw12783928895575455858:=True
def tw14525591192985064328:=True
def tw592436229805511320:=True
def tw15906627317262821360:=True
def tw8661191579487313798:=True
def tw6093444940794492235:=True
def tw916050288628862781:=True
def tw10623667751509945911:=True
def tw10530875524352570932:=True
def tw2236885632324629377:=True
def tw16134495725445369800:=True
def tw2279567313452922777:=True
def tw16052148245647872982:=True
def tw16421184865626149437:=True
def tw2734614487678746005:=True
def tw16700620843621506016:=True
def tw6285901048699520927:=True
def tw17663204432739125116:=True
def tw11014849263708762917:=True
def tw13293303024123608825:=True
def tw4262886534987005209:=True
def tw4945443671522728664:=True
def tw2482713810721536845:=True
def tw2424700064074403689:=True
def tw4587146481571812492:=True
def tw2694363359900095821:=True
def tw11829913217055615180:=True
def tw14051451191504427411:=True
def tw10365758426132981634:=True
def tw15460650342341675252:=True
def tw6027234295980695070:=True
def tw5556515676984012951:=True
def tw14869302357524052431:=True
def tw12724452736224419035:=True
def tw2695266501998110479:=True
def tw1927276208644686553:=True
def tw2514755428789564806:=True
def tw13074432757510100994:=True
def tw375018203092836237:=True
def tw2883005332770293959:=True
def tw17713336658068912685:=True
def tw6851449849646426724:=True
def tw6679756526191366566:=True
def tw4065403624082511796:=True
def tw1238375666201966495:=True
def tw1708991359172524719:=True
def tw15735219226824087969:=True
def tw13764653090032542983:=True
def tw15574257111462072168:=True
def tw13560310094187521751:=True
def tw7919603482286677024:=True
def tw9318011413442079036:=True
def tw4839623399809757118:=True
def tw16817049613915663168:=True
def tw10640142840539549567:=True
def tw16371078621246733631:=True
def tw8962125191912352430:=True
def tw12483295747813046956:=True
def tw11886046645791991745:=True
def tw6635811186506750698:=True
def tw7724365428591377204:=True
def tw150449468635794474:=True
def tw13457580445007739201:=True
def tw9190280836672385097:=True
def tw16876967873170567670:=True
def tw6632523832618018886:=True
def tw7551632248696209069:=True
def tw15479056324901174747:=True
def tw3313818142798169860:=True
def tw1623611730842727250:=True
def tw1290494552140955901:=True
def tw6905100193585187611:=True
def tw12811695356853302059:=True
def tw16304508933391239761:=True
def tw12480604848750098119:=True
def tw4449785043105643178:=True
def tw18280024613960456241:=True
def tw4447318454203369997:=True
def tw2682270929579934439:=True
def tw3780600762103723461:=True
def tw13573253897390814293:=True
def tw8933263399628532644:=True
def tw7387703397350938324:=True
def tw8853208228643595158:=True
def tw9400654259758546666:=True
def tw12144073765893510330:=True
def tw17784227965758353648:=True
def tw6735692142527542779:=True
def tw18429762052918022574:=True
def tw5568234361756732034:=True
def tw6191186857576254665:=True
def tw9980893607355519664:=True
def tw12883124103373592971:=True
def tw5034954753086535237:=True
def tw17984791422046445590:=True
def tw8858364429788045681:=True
def tw7269369087404816786:=True
def tw13168591520194255795:=True
def tw5381757399218614300:=True
def tw11604633607726508393:=True
def tw1453812507297164155:=True
def tw17602656642635557398:=True
def tw4386816729701251490:=True
def tw700679174642412456:=True
def tw10473878097103736366:=True
def tw4483280996612917480:=True
def tw9134196290410433659:=True
def tw9760148828019683789:=True
def tw17933994595141750815:=True
def tw6299536587780130676:=True
def tw12191712632837102273:=True
def tw3432865911298080653:=True
def tw15369566050514230226:=True
def tw16005414234322631463:=True
def tw8164464591717942044:=True
def tw11193062469557620520:=True
def tw13330887612273556269:=True
def tw1345379654704496086:=True
def tw3906240025861959504:=True
def tw7696745434560184139:=True
def tw5527091111089941747:=True
def tw12466494865730777198:=True
def tw2307706764169052977:=True
def tw889503129307161568:=True
def tw5386738930472480460:=True
def tw4153583495022640127:=True
def tw1188407692493875052:=True
def tw1268651821810803740:=True
def tw4255740686237710148:=True
def tw15430270870087326476:=True
def tw8509801013033158370:=True
def tw9370286243091355478:=True
def tw15193056415843375873:=True
def tw17341525085120656854:=True
def tw16850618791326166209:=True
def tw11706590012992143565:=True
def tw12931901551486816526:=True
def tw14130406014337022707:=True
def tw6417909627575713680:=True
def tw15118132724024525119:=True
def tw14422773671843398409:=True
def tw9474158649292961843:=True
def tw15420100674936839002:=True
def tw9970264627014412885:=True
def tw16114732148144385229:=True
def tw5300042929088384778:=True
def tw17420332982455752771:=True
def tw13467621510278805185:=True
def tw12321426322940284225:=True
def tw16755613148244937477:=True
def tw11770073208881826572:=True
def tw3548575146338079798:=True
def tw15946590287943047504:=True
def tw632712598692015263:=True
def tw13777326138761908701:=True
def tw10003152989797620203:=True
def tw10621607439958877196:=True
def tw3178625359184817709:=True
def tw12455198416982536980:=True
def tw1133313473320158834:=True
def tw2710097086347793944:=True
def tw6686610534455226685:=True
def tw12201889425106687997:=True
def tw10200662698250464498:=True
def tw9566406050543713208:=True
def tw6390938017873959428:=True
def tw17126448889499099413:=True
def tw6236011232102133045:=True
def tw13671571497129370030:=True
def tw14929235979739730548:=True
def tw7740017170744185974:=True
def tw2123140790174219500:=True
def tw8156240187827357148:=True
def tw8849579524795364271:=True
def tw7400830744816473322:=True
def tw13840619824787331928:=True
def tw7493421868669754515:=True
def tw12604974815477377755:=True
def tw6935754053950151693:=True
def tw14502464864132547678:=True
def tw10663811330554504459:=True
def tw470132440578241358:=True
def tw6045821578866228775:=True
def tw13592593450083611155:=True
def tw2317127881782709711:=True
def tw13351231733768006817:=True
def tw17928687052425420277:=True
def tw1756146532065149687:=True
def tw10957727608669294313:=True
def tw13533646701281502774:=True
def tw17683093424874358580:=True
def tw4349403713003839861:=True
def tw13014544578569540317:=True
def tw9507788687596407295:=True
def tw5750667567772882894:=True
def tw5837349930703743893:=True
def tw15234067178291136560:=True
def tw3099260409274038608:=True
def tw4277635842060654130:=True
def tw17425337461558873793:=True
def tw18174621281210559361:=True
def tw24643175035196851:=True
def tw5356580147550022406:=True
def tw11646793180287552804:=True
def tw11137257183208639418:=True
def tw16824040891126983938:=True
def tw12433785037913630925:=True
def tw4431005393134604090:=True
def tw11392673455329691785:=True
def tw16663826695920667739:=True
def tw5532773944932370527:=True
def tw8135674354948148387:=True
def tw6479413317397066386:=True
def tw11625648092747924632:=True
def tw16637547732650343973:=True
def tw11245783112432272680:=True
def tw13724082803904462634:=True
def tw10949919126287052159:=True
def tw17645641693115069140:=True
def tw4986974207016239300:=True
def tw3702597717093878508:=True
def tw14708378423133561775:=True
def tw14391335961857517261:=True
def tw15027575582885713435:=True
def tw8311903616700287121:=True
def tw9273210160246245672:=True
def tw241530220939246934:=True
def tw8804971270308008534:=True
def tw3727586174647189520:=True
def tw8462555745457890827:=True
def tw11712954399648743323:=True
def tw3524879292700116823:=True
def tw7255718099416151811:=True
def tw7159974417732786523:=True
def tw14729575321064148228:=True
def tw18420357026064997228:=True
def tw8717563147692130904:=True
def tw16123079255996981600:=True
def tw16200851204555651395:=True
def tw2841196940191406732:=True
def tw371220218314179620:=True
def tw7778666678160874336:=True
def tw349635487952548484:=True
def tw2648244339921930596:=True
def tw9326991189490277660:=True
def tw8231570055619464122:=True
def tw532552992759529136:=True
def tw15622500546845662001:=True
def tw2209143307690202971:=True
def tw7651937442203737940:=True
def tw9859524213180524126:=True
def tw3769703740362947627:=True
def tw376302606840814235:=True
def tw10473614755383320916:=True
def tw17133100459798981437:=True
def tw13512961752328417863:=True
def tw11975472134390695772:=True
def tw14945388275749259086:=True
def tw1607509419327130547:=True
def tw8862124890745665488:=True
def tw5152112238382840235:=True
def tw5329714850587243816:=True
def tw9581150780468467916:=True
def tw17556782892341320064:=True
def tw10354586939091996086:=True
def tw7902374951588859908:=True
def tw12326041212126184615:=True
def tw10015241287095705521:=True
def tw11753284024582584718:=True
def tw11065760841853586632:=True
def tw9716298402324593194:=True
def tw14073525144070806669:=True
def tw945149139480131528:=True
def tw15503504519163055043:=True
def tw5993064280364648161:=True
def tw14201925139885424389:=True
def tw9540494964067342409:=True
def tw4244027506175096302:=True
def tw18018548318257019500:=True
def tw115168282754370974:=True
def tw17487466744299380303:=True
def tw1478521537912486562:=True
def tw6674384631740038035:=True
def tw4879665006855245468:=True
def tw11896414420317699161:=True
def tw15388144993067693508:=True
def tw12233689783130180741:=True
def tw16189039103518078438:=True
def tw2921349306495932573:=True
def tw8443293879457195477:=True
def tw14640996766724234527:=True
def tw10120257062064612912:=True
def tw132687418829949656:=True
def tw1108390748888377482:=True
def tw2198964575259239250:=True
def tw8476599920524016712:=True
def tw6049651183341428292:=True
def tw2579354516070888716:=True
def tw10926365704355064331:=True
def tw15737689048922391115:=True
def tw11913691972577844525:=True
def tw18137613125052084172:=True
def tw6675484572208429302:=True
def tw10320752149964863700:=True
def tw5625573529119826936:=True
def tw13755314224606045895:=True
end PySem.W.Fast
open PySem PySem.W PyProof.Rows
set_option maxRecDepth 100000 in
set_option maxHeartbeats 0 in
theorem PySem.Challenge.cw_splithouse_k63_whole_put_together_up_the_holds : PySem.Challenge.rw_splithouse_k63_whole_put_together_up_the.Holds := by
  w_on; o_law; k_head; (case hw=>w_witness2)
  k_fill
  refine Own.walk (l:=PySem.Challenge.rw_splithouse_k63_whole_put_together_up_the) rfl rfl (fun w h Y=>PySem.W.kIn_of Y) ?F
  case F=>
    intro w mg fa h KX G hmg
    refine' Own.all_mk KX G hmg ?dH ?dC ?dAL ?dIW ?dMO ?dL ?dM ?dN ?dE ?dU ?dF ?dS2 ?dX ?dD2 ?dB ?dKP ?dO ?dPT ?dCU ?dI ?dUD ?dBG ?dFU ?dUN ?dTA ?dTW ?dTO ?dCO ?dCT ?dGR ?dT ?dS ?dG ?dRU ?dTB ?dP ?dBK ?dCH ?dTR ?dND ?dKE ?dAG ?dMX ?dJN ?dUP ?dDR ?dQ ?aMT ?aTM ?eTM ?xTM ?zlen ?zrange ?zenumerate ?zall ?ztuple ?zdict ?zsorted ?zset ?zlist ?zint ?zisinstance
    (case dC | dAL | dN | dI | dCO | dTB | dP | dND | dQ=>refine' Own.df_mk KX G ?a ?l ?c ?k (fun _ _ _ _ _ _ us hl=>by obtain ⟨_,rfl⟩:=Own.v1 hl; rfl); (case a=>k_is); (case l=>k_is); (case c=>k_is); (case k=>k_is))
    (case dH | dIW | dMO | dE | dU | dF | dX | dB | dKP | dO | dCU | dBG | dFU | dCT | dGR | dT | dS | dG | dTR | dKE | dUP | dDR=>refine' Own.df_mk KX G ?a ?l ?c ?k (fun _ _ _ _ _ _ us hl=>by obtain ⟨_,_,rfl⟩:=Own.v2 hl; rfl); (case a=>k_is); (case l=>k_is); (case c=>k_is); (case k=>k_is))
    (case dL | dM | dS2 | dD2 | dUN | dTW | dTO | dRU | dBK | dCH | dAG | dMX=>refine' Own.df_mk KX G ?a ?l ?c ?k (fun _ _ _ _ _ _ us hl=>by obtain ⟨_,_,_,rfl⟩:=Own.v3 hl; rfl); (case a=>k_is); (case l=>k_is); (case c=>k_is); (case k=>k_is))
    (case dPT | dUD | dTA | dJN=>refine' Own.df_mk KX G ?a ?l ?c ?k (fun _ _ _ _ _ _ us hl=>by obtain ⟨_,_,_,_,rfl⟩:=Own.v4 hl; rfl); (case a=>k_is); (case l=>k_is); (case c=>k_is); (case k=>k_is))
    (case aMT|aTM=>k_is)
    (case eTM=>k_exc)
    (case xTM=>kts_exm)
    (case zlen | zrange | zenumerate | zall | ztuple | zdict | zsorted | zset | zlist | zint | zisinstance=>refine PySem.W.mg_none_of KX G ?y; (case y=>k_is))


import PyProof.Rows.All
import Wide.All
import OpenK.AllK
import Wide.FinOn
import Lean
import PyProof.EqAt
import PyProof.EqKinds
import PyProof.TupleCall
import KE.KSortTup
import PySem.SetTable
import PyProof.SetScanFacts
import PyProof.Rows.SetFrom
import PyProof.TupleKey
import KE.KDictList
import PyProof.SetRoads
import PySem.Challenge.RW_splithouse_k91_whole_cuts_of_books
set_option Elab.async false
set_option linter.all false
set_option maxRecDepth 100000
noncomputable section
namespace L2
open PySem PySem.Spec PyProof.Rows
abbrev Key:=Sum Int Str
def keyIs:Key→Value→Bool
  | .inl k,v=>Value.isInt k v
  | .inr x,v=>Value.isStrOf x v
def keyH (w:World):Key→Int
  | .inl k=>hashInt k
  | .inr x=>hashStr w x
theorem keyIs_shape:∀{k:Key} {v:Value},keyIs k v=true→(∃i t,k=Sum.inl i∧v=Value.int i t)∨(∃x t,k=Sum.inr x∧v=Value.str x t)
  | .inl i,v,h=>by
    obtain ⟨t,e⟩:=Value.isInt_shape (k:=i) (v:=v) h
    exact .inl ⟨i,t,rfl,e⟩
  | .inr x,v,h=>by
    obtain ⟨t,e⟩:=Value.isStrOf_shape (x:=x) (v:=v) h
    exact .inr ⟨x,t,rfl,e⟩
theorem keyIs_int (i:Int) (t:Tok):keyIs (.inl i) (.int i t)=true:=by simp [keyIs,Value.isInt]
theorem keyIs_str (x:Str) (t:Tok):keyIs (.inr x) (.str x t)=true:=by simp [keyIs,Value.isStrOf]
theorem key_ll (a b:Int):decide ((Sum.inl a:Key)=Sum.inl b)=(a == b):=by
  by_cases e:a=b
  · subst e; simp
  · have h:¬(Sum.inl a:Key)=Sum.inl b:=fun q=>e (Sum.inl.inj q)
    rw [decide_eq_false h]
    exact (beq_eq_false_iff_ne.mpr e).symm
theorem key_rr (a b:Str):decide ((Sum.inr a:Key)=Sum.inr b)=decide (a=b):=by
  by_cases e:a=b
  · subst e; simp
  · have h:¬(Sum.inr a:Key)=Sum.inr b:=fun q=>e (Sum.inr.inj q)
    rw [decide_eq_false h,decide_eq_false e]
theorem key_lr (a:Int) (b:Str):decide ((Sum.inl a:Key)=Sum.inr b)=false:=decide_eq_false (fun q=>nomatch q)
theorem key_rl (a:Str) (b:Int):decide ((Sum.inr a:Key)=Sum.inl b)=false:=decide_eq_false (fun q=>nomatch q)
def mixKind (prog:Program) (w:World):PySem.KeyKind prog w Key where
  is:=keyIs
  hash:=keyH w
  inj:=fun v a b ha hb=>by
    rcases keyIs_shape ha with ⟨i,t,rfl,rfl⟩ | ⟨x,t,rfl,rfl⟩
    · rcases keyIs_shape hb with ⟨j,u,rfl,e⟩ | ⟨y,u,rfl,e⟩
      · injection e with e1 _; rw [e1]
      · exact nomatch e
    · rcases keyIs_shape hb with ⟨j,u,rfl,e⟩ | ⟨y,u,rfl,e⟩
      · exact nomatch e
      · injection e with e1 _; rw [e1]
  byValue:=fun k v h=>by
    rcases keyIs_shape h with ⟨i,t,rfl,rfl⟩ | ⟨x,t,rfl,rfl⟩ <;> rfl
  pyHash:=fun hv h=>by
    rcases keyIs_shape hv with ⟨i,t,rfl,rfl⟩ | ⟨x,t,rfl,rfl⟩
    · exact wpAny_pyHash_int h
    · exact wpAny_pyHash_str h
  eqBool:=fun hu hv h=>by
    rcases keyIs_shape hu with ⟨i,t,rfl,rfl⟩ | ⟨x,t,rfl,rfl⟩
    · rcases keyIs_shape hv with ⟨j,u,rfl,rfl⟩ | ⟨y,u,rfl,rfl⟩
      · rw [key_ll] at h; exact wpAny_eqBool_int h
      · rw [key_lr] at h; exact SeqAt.EqAt.int_str i t y u _ _ _ _ h
    · rcases keyIs_shape hv with ⟨j,u,rfl,rfl⟩ | ⟨y,u,rfl,rfl⟩
      · rw [key_rl] at h; exact SeqAt.EqAt.str_int x t j u _ _ _ _ h
      · rw [key_rr] at h; exact wpAny_eqBool_str h
  «strs»:=fun k x t v h=>by
    rcases keyIs_shape h with ⟨i,u,rfl,e⟩ | ⟨y,u,rfl,e⟩
    · exact nomatch e
    · injection e with e1 _
      subst e1
      cases v <;> rfl
theorem mixKind_int (prog:Program) (w:World) (i:Int) (t:Tok):(mixKind prog w).is (.inl i) (.int i t)=true:=keyIs_int i t
theorem mixKind_str (prog:Program) (w:World) (x:Str) (t:Tok):(mixKind prog w).is (.inr x) (.str x t)=true:=keyIs_str x t
end L2
namespace L2
open PySem PySem.Spec PyProof.Rows
inductive V where
  | non | bl (b:Bool) | int (i:Int) | str (x:Str) | byt (b:Array UInt8) | flt (b:UInt64) | ref (a:Addr) | ty (n:String)
  deriving DecidableEq
def RelV:V→Value→Prop
  | .non,u=>u=Value.none
  | .bl b,u=>u=Value.bool b
  | .int i,u=>∃t,u=Value.int i t
  | .str x,u=>∃t,u=Value.str x t
  | .byt b,u=>∃t,u=Value.bytes b t
  | .flt b,u=>∃t,u=Value.float b t
  | .ref a,u=>u=Value.ref a
  | .ty n,u=>u=Value.type n
abbrev Vals:List V→List Value→Prop:=Paired RelV
theorem Vals.length {xs:List V} {us:List Value} (r:Vals xs us):xs.length=us.length:=Paired.length r
theorem Vals.get:∀{xs:List V} {us:List Value} {i:Nat} {x:V},Vals xs us→xs[i]? = some x→∃u,us[i]? = some u∧RelV x u
  | _,_,_,_,.nil,e=>by simp at e
  | _,_,0,_,.cons r _,e=>by simp at e; subst e; exact ⟨_,rfl,r⟩
  | _,_,i + 1,x,.cons _ t,e=>by
    obtain ⟨u,h1,h2⟩:=Vals.get (i:=i) (x:=x) t (by simpa using e)
    exact ⟨u,by simpa using h1,h2⟩
theorem Vals.set {x:V} {u:Value} (r:RelV x u):∀{xs:List V} {us:List Value} (i:Nat),Vals xs us→Vals (xs.set i x) (us.set i u)
  | _,_,_,.nil=>.nil
  | _,_,0,.cons _ t=>.cons r t
  | _,_,i + 1,.cons q t=>.cons q (Vals.set r i t)
theorem Vals.append:∀{xs ys:List V} {us ws:List Value},Vals xs us→Vals ys ws→Vals (xs++ys) (us++ws)
  | _,_,_,_,.nil,s=>s
  | _,_,_,_,.cons r t,s=>.cons r (Vals.append t s)
theorem Vals.take:∀{xs:List V} {us:List Value} (n:Nat),Vals xs us→Vals (xs.take n) (us.take n)
  | _,_,0,_=>.nil
  | _,_,_ + 1,.nil=>.nil
  | _,_,n + 1,.cons r t=>.cons r (Vals.take n t)
theorem Vals.drop:∀{xs:List V} {us:List Value} (n:Nat),Vals xs us→Vals (xs.drop n) (us.drop n)
  | _,_,0,r=>r
  | _,_,_ + 1,.nil=>.nil
  | _,_,n + 1,.cons _ t=>Vals.drop n t
def RelO:Option V→Option Value→Prop
  | some v,some u=>RelV v u
  | none,none=>True
  | _,_=>False
def KV {κ:Type}:List (κ × V)→List (κ × Value)→Prop:=Paired fun (p:κ × V) (q:κ × Value)=>p.1=q.1∧RelV p.2 q.2
def kV:Key→V
  | .inl i=>.int i
  | .inr x=>.str x
inductive HO where
  | lst (xs:List V)
  | tup (xs:List V)
  | dK (kvs:List (Key × V)) | dT (kvs:List (List Key × V))
  | set (S:Int→Bool) (n:Nat)
  | ins (C dx:Addr) (fs:List (Str × V))
  | own (x:Addr)
  | xd (fs:List (Str × V))
  | met (f x:Addr)
  | rng (lo hi:Int)
  | frz (o:Obj) (u:HO)
  | tbl (ps:Array Value)
  | ext (φ:Heap→Prop)
abbrev Hp:=Addr→Option HO
def upd (H:Hp) (a:Addr) (o:HO):Hp:=fun b=>if b=a then some o else H b
theorem upd_same {H:Hp} {a:Addr} {o:HO}:upd H a o a=some o:=by unfold upd; rw [if_pos rfl]
theorem upd_ne {H:Hp} {a b:Addr} {o:HO} (h:b≠a):upd H a o b=H b:=by unfold upd; rw [if_neg h]
theorem ne_of {H:Hp} {a b:Addr} {o u:HO} (h:H a=some o) (h':H b=some u) (d:o≠u):a≠b:=by
  intro e; subst e; rw [h] at h'; exact d (Option.some.inj h')
theorem ne_of_none {H:Hp} {a b:Addr} {o:HO} (h:H a=some o) (h':H b=none):a≠b:=by
  intro e; subst e; rw [h] at h'; cases h'
section
variable (P:Program) (w:World)
def ObjOk (H:Hp) (h:Heap) (a:Addr):HO→Prop
  | .lst xs=>xs.length≤sizeLine∧∃(its:List Value) (n:Nat),Vals xs its∧h.get? a=some { cls:=.type "list",data:=.seq its.toArray n }
  | .tup xs=>xs.length≤sizeLine∧∃its:List Value,Vals xs its∧IsTup h a its.toArray
  | .dK kvs=>kvs.length≤sizeLine∧(a == sysModules)=false∧∃vs,KV kvs vs∧h.DictOf (mixKind P w) a vs
  | .dT kvs=>kvs.length≤sizeLine∧(a == sysModules)=false∧∃xs:List (List Key × Addr × Value),
      Paired (fun (p:List Key × V) (q:List Key × Addr × Value)=>p.1=q.1∧H q.2.1=some (.tup (p.1.map kV))∧RelV p.2 q.2.2) kvs xs∧
      ∃o es ep,h.get? a=some o∧o.ExactDict∧o.data = .dict es ep∧es.toList=xs.map (entryOfKey (tupleKind (mixKind P w)))∧(xs.map (·.1)).Nodup
  | .set S n=>h.SetOf (intKind P w) a S n
  | .ins C dx fs=>H dx=some (.own a)∧fs.length≤1000∧dx≠a∧h.get? a=some (PySem.W.instObj C dx)∧
      ∃mA,h.Ns1 dx mA∧(∀f,RelO (fs.lookup f) (mA f))∧PySem.Within mA (fs.map (·.1))
  | .own _=>∃o,h.get? a=some o
  | .xd fs=>∃mA,h.Ns1 a mA∧∀f,RelO (fs.lookup f) (mA f)
  | .rng lo hi=>∃t u v,h.get? a=some { cls:=.type "range",data:=.fields #[.int lo t,.int hi u,.int 1 v] }
  | .frz o u=>h.get? a=some o∧ObjOk H h a u
  | .tbl ps=>h.get? a=some { cls:=.none,data:=.fields ps }
  | .met f x=>h.get? a=some (PySem.W.methodObj (.ref f) (.ref x))
  | .ext φ=>φ h∧(∃o,h.get? a=some o)∧∀h1 h2:Heap,φ h1→(∀o,h1.get? a=some o→h2.get? a=some o)→φ h2
def HOk (H:Hp) (h:Heap):Prop:=∀a o,H a=some o→ObjOk P w H h a o
end
section
variable {P:Program} {w:World} {H H':Hp} {h h':Heap} {a:Addr} {o:HO}
theorem ObjOk.lt (x:ObjOk P w H h a o):a < h.objs.size:=by
  cases o with
  | lst xs=>obtain ⟨_,_,_,_,e⟩:=x; exact Heap.lt_size e
  | tup xs=>obtain ⟨_,_,_,p⟩:=x; exact p.lt
  | dK kvs=>obtain ⟨_,_,_,_,o,_,_,e,_⟩:=x; exact Heap.lt_size e
  | dT kvs=>obtain ⟨_,_,_,_,o,_,_,e,_⟩:=x; exact Heap.lt_size e
  | set S n=>obtain ⟨o,_,_,_,e,_⟩:=x; exact Heap.lt_size e
  | ins C dx fs=>obtain ⟨_,_,_,e,_⟩:=x; exact Heap.lt_size e
  | own y=>obtain ⟨_,e⟩:=x; exact Heap.lt_size e
  | xd fs=>obtain ⟨_,⟨_,_,_,e,_⟩,_⟩:=x; exact Heap.lt_size e
  | rng lo hi=>obtain ⟨_,_,_,e⟩:=x; exact Heap.lt_size e
  | frz ob u=>obtain ⟨e,_⟩:=x; exact Heap.lt_size e
  | tbl ps=>exact Heap.lt_size (show h.get? a=some _ from x)
  | met f y=>exact Heap.lt_size (show h.get? a=some _ from x)
  | ext φ=>obtain ⟨_,⟨_,e⟩,_⟩:=x; exact Heap.lt_size e
theorem Paired.mapP {α β:Type} {F G:α→β→Prop}:∀{l₁:List α} {l₂:List β},Paired F l₁ l₂→(∀a b,F a b→G a b)→Paired G l₁ l₂
  | _,_,.nil,_=>.nil
  | _,_,.cons r t,f=>.cons (f _ _ r) (Paired.mapP t f)
theorem ObjOk.stay (x:ObjOk P w H h a o) (k:∀b u,(b=a∨H b=some (.own a))→h.get? b=some u→h'.get? b=some u)
    (ho:∀b,H b=some (.own a)→H' b=some (.own a)) (ht:∀b xs,H b=some (.tup xs)→H' b=some (.tup xs)):ObjOk P w H' h' a o:=by
  induction o with
  | lst xs=>obtain ⟨z,its,n,r,e⟩:=x; exact ⟨z,its,n,r,k _ _ (.inl rfl) e⟩
  | tup xs=>obtain ⟨z,its,r,ob,e,c⟩:=x; exact ⟨z,its,r,ob,k _ _ (.inl rfl) e,c⟩
  | dK kvs=>obtain ⟨z,y,vs,r,ob,es,ep,e,c⟩:=x; exact ⟨z,y,vs,r,ob,es,ep,k _ _ (.inl rfl) e,c⟩
  | dT kvs=>
    obtain ⟨z,y,xs,r,ob,es,ep,e,c⟩:=x
    exact ⟨z,y,xs,Paired.mapP r fun p q z=>⟨z.1,ht _ _ z.2.1,z.2.2⟩,ob,es,ep,k _ _ (.inl rfl) e,c⟩
  | set S n=>obtain ⟨ob,es,ep,t,e,c⟩:=x; exact ⟨ob,es,ep,t,k _ _ (.inl rfl) e,c⟩
  | ins C dx fs=>
    obtain ⟨d,z,ne,e,mA,⟨od,es,ep,e2,c⟩,r⟩:=x
    exact ⟨ho _ d,z,ne,k _ _ (.inl rfl) e,mA,⟨od,es,ep,k _ _ (.inr d) e2,c⟩,r⟩
  | own y=>obtain ⟨ob,e⟩:=x; exact ⟨ob,k _ _ (.inl rfl) e⟩
  | xd fs=>obtain ⟨mA,⟨od,es,ep,e,c⟩,r⟩:=x; exact ⟨mA,⟨od,es,ep,k _ _ (.inl rfl) e,c⟩,r⟩
  | rng lo hi=>obtain ⟨t,u,v,e⟩:=x; exact ⟨t,u,v,k _ _ (.inl rfl) e⟩
  | frz ob u ih=>obtain ⟨e,q⟩:=x; exact ⟨k _ _ (.inl rfl) e,ih q⟩
  | tbl ps=>
    have e:h.get? a=some { cls:=.none,data:=.fields ps }:=x
    show h'.get? a=some { cls:=.none,data:=.fields ps }
    exact k a _ (.inl rfl) e
  | met f y=>
    have e:h.get? a=some (PySem.W.methodObj (.ref f) (.ref y)):=x
    show h'.get? a=some (PySem.W.methodObj (.ref f) (.ref y))
    exact k a _ (.inl rfl) e
  | ext φ=>obtain ⟨p,⟨o,e⟩,st⟩:=x; exact ⟨st _ _ p fun o q=>k _ _ (.inl rfl) q,⟨o,k _ _ (.inl rfl) e⟩,st⟩
theorem HOk.lt (x:HOk P w H h) (e:H a=some o):a < h.objs.size:=(x a o e).lt
theorem HOk.fresh (x:HOk P w H h) (e:h.objs.size≤a):H a=none:=by
  cases q:H a with
  | none=>rfl
  | some u=>exact absurd (Nat.lt_of_lt_of_le (x.lt q) e) (Nat.lt_irrefl _)
theorem HOk.kept (x:HOk P w H h) (k:∀b u,h.get? b=some u→h'.get? b=some u):HOk P w H h':=fun a o e=>
  (x a o e).stay (fun b u _ q=>k b u q) (fun _ q=>q) fun _ _ q=>q
theorem HOk.laid (x:HOk P w H h) (k:∀b u,h.get? b=some u→h'.get? b=some u) (hp:h.objs.size≤a) (new:ObjOk P w (upd H a o) h' a o):HOk P w (upd H a o) h':=fun b u e=>by
  have hn:=x.fresh hp
  by_cases hb:b=a
  · subst hb; rw [upd_same] at e; cases e; exact new
  · rw [upd_ne hb] at e
    exact (x b u e).stay (fun c v _ q=>k c v q) (fun c q=>by rw [upd_ne (ne_of_none q hn)]; exact q) fun c xs q=>by rw [upd_ne (ne_of_none q hn)]; exact q
end
def Rd (H:Hp) (a:Addr) (u:HO):Prop:=H a=some u∨∃o,H a=some (.frz o u)
theorem Rd.ok {P:Program} {w:World} {H:Hp} {h:Heap} {a:Addr} {u:HO} (r:Rd H a u) (x:HOk P w H h):ObjOk P w H h a u:=by
  rcases r with r | ⟨o,r⟩
  · exact x a u r
  · obtain ⟨_,q⟩:=x a _ r
    exact q
def Mut:Option HO→Prop
  | some (.lst _)=>True
  | some (.dK _)=>True
  | some (.dT _)=>True
  | some (.set _ _)=>True
  | some (.ins _ _ _)=>True
  | some (.ext _)=>True
  | _=>False
section
variable {P:Program} {w:World} {H:Hp} {h h':Heap} {x e:Addr} {o':HO}
theorem HOk.write (ok:HOk P w H h) (mu:Mut (H x)) (he:e=x∨H e=some (.own x)) (k:∀b u,b≠e→h.get? b=some u→h'.get? b=some u) (heo:∃u,h'.get? e=some u)
    (new:ObjOk P w (upd H x o') h' x o'):HOk P w (upd H x o') h':=fun b u q=>by
  have nown:∀c y,H c=some (.own y)→c≠x:=fun c y r z=>by subst z; rw [r] at mu; exact mu
  have ntup:∀c xs,H c=some (.tup xs)→c≠x:=fun c xs r z=>by subst z; rw [r] at mu; exact mu
  by_cases hb:b=x
  · subst hb; rw [upd_same] at q; cases q; exact new
  · rw [upd_ne hb] at q
    by_cases hbe:b=e
    · have q':H b=some (.own x):=by
        rcases he with z | z
        · exact absurd (hbe.trans z) hb
        · rw [hbe]; exact z
      rw [q] at q'; cases q'
      obtain ⟨v,hv⟩:=heo
      exact ⟨v,by rw [hbe]; exact hv⟩
    · refine (ok b u q).stay (fun c v hc r=>k c v ?_ r) (fun c r=>by rw [upd_ne (nown c b r)]; exact r) fun c xs r=>by rw [upd_ne (ntup c xs r)]; exact r
      rcases hc with rfl | hc
      · exact hbe
      · rintro rfl
        rcases he with z | z
        · exact nown c b hc z
        · rw [hc] at z; cases z; exact hb rfl
end
structure Un (fs ex:List Addr) (H H':Hp) (h h':Heap):Prop where
  keep:∀b o,h.get? b=some o→H b=none→b∉fs→b∉ex→h'.get? b=some o
  slot:∀b o,h.get? b=some o→H b=none→b∈fs→b∉ex→∃sl,h'.get? b=some { o with slots:=sl }
  free:∀b o,h.get? b=some o→H b=none→b∉ex→H' b=none
  there:∀b o,h.get? b=some o→b∉ex→∃o',h'.get? b=some o'
  tups:∀b xs,H b=some (.tup xs)→H' b=some (.tup xs)
  frzs:∀b o u,H b=some (.frz o u)→H' b=some (.frz o u)
  tbls:∀b ps,H b=some (.tbl ps)→∃more,H' b=some (.tbl (ps++more))
section
variable {fs fs' ex ex':List Addr} {H H1 H2:Hp} {h h1 h2 h':Heap} {a x e:Addr} {o:HO}
theorem Un.any (u:Un fs ex H H1 h h1) {b:Addr} {ob:Obj} (q:h.get? b=some ob) (n:H b=none) (hx:b∉ex):∃sl,h1.get? b=some { ob with slots:=sl }:=by
  by_cases hb:b∈fs
  · exact u.slot b ob q n hb hx
  · exact ⟨ob.slots,u.keep b ob q n hb hx⟩
theorem Un.kept (k:∀b u,h.get? b=some u→h'.get? b=some u):Un fs ex H H h h':=
  ⟨fun b ob q _ _ _=>k b ob q,fun b ob q _ _ _=>⟨ob.slots,k b ob q⟩,fun _ _ _ n _=>n,fun b ob q _=>⟨ob,k b ob q⟩,fun _ _ q=>q,fun _ _ _ q=>q,fun _ ps q=>⟨#[],by rw [q]; simp⟩⟩
theorem Un.refl:Un fs ex H H h h:=Un.kept fun _ _ q=>q
theorem Un.laid (k:∀b u,h.get? b=some u→h'.get? b=some u) (hp:h.objs.size≤a) (hn:H a=none):Un fs ex H (upd H a o) h h' where
  keep:=fun b u q _ _ _=>k b u q
  slot:=fun b u q _ _ _=>⟨u.slots,k b u q⟩
  free:=fun b u q n _=>by rw [upd_ne (Nat.ne_of_lt (Nat.lt_of_lt_of_le (Heap.lt_size q) hp))]; exact n
  there:=fun b u q _=>⟨u,k b u q⟩
  tups:=fun b xs q=>by rw [upd_ne (ne_of_none q hn)]; exact q
  frzs:=fun b u xs q=>by rw [upd_ne (ne_of_none q hn)]; exact q
  tbls:=fun b ps q=>⟨#[],by rw [upd_ne (ne_of_none q hn),q]; simp⟩
theorem Un.write (mu:Mut (H x)) (he:e=x∨H e=some (.own x)) (k:∀b u,b≠e→h.get? b=some u→h'.get? b=some u) (heo:∃u,h'.get? e=some u):Un fs ex H (upd H x o) h h':=by
  have hx:∀b,H b=none→b≠x:=fun b n z=>by subst z; rw [n] at mu; exact mu
  have hb:∀b,H b=none→b≠e:=fun b n z=>by
    subst z
    rcases he with r | r
    · exact hx b n r
    · rw [n] at r; cases r
  have hm:∀b u,H b=some u→¬Mut (some u)→b≠x:=fun b u q nm z=>by subst z; rw [q] at mu; exact nm mu
  refine ⟨fun b u q n _ _=>k b u (hb b n) q,fun b u q n _ _=>⟨u.slots,k b u (hb b n) q⟩,fun b u q n _=>by rw [upd_ne (hx b n)]; exact n,fun b u q _=>?_,
    fun b xs q=>by rw [upd_ne (hm b _ q fun z=>z)]; exact q,fun b u xs q=>by rw [upd_ne (hm b _ q fun z=>z)]; exact q,fun b ps q=>⟨#[],by rw [upd_ne (hm b _ q fun z=>z),q]; simp⟩⟩
  by_cases hbe:b=e
  · subst hbe; exact heo
  · exact ⟨u,k b u hbe q⟩
end
def trk (h:Heap) (H:Hp):List Addr:=(List.range h.objs.size).filter fun a=>(H a).isSome
def hidT (h:Heap) (H:Hp):Heap:=PySem.W.hideAll h (trk h H)
theorem hidT_size (h:Heap) (H:Hp):(hidT h H).objs.size=h.objs.size:=PySem.W.hideAll_size _ _
theorem hidT_get {h:Heap} {H:Hp} {b:Addr} {o:Obj} (e:h.get? b=some o) (n:H b=none):(hidT h H).get? b=some o:=
  PySem.W.hideAll_get _ e fun hm=>by
    have q:(H b).isSome=true:=(List.mem_filter.mp hm).2
    rw [n] at q; simp at q
theorem of_hidT {h:Heap} {H:Hp} {b:Addr} {o:Obj} (e:(hidT h H).get? b=some o):h.get? b=some o∧H b=none:=by
  have e':h.get? b=some o:=PySem.W.of_hideAll (trk h H) e
  refine ⟨e',?_⟩
  cases q:H b with
  | none=>rfl
  | some x=>
    have hm:b∈trk h H:=List.mem_filter.mpr ⟨List.mem_range.mpr (Heap.lt_size e'),by simp [q]⟩
    have z:(hidT h H).get? b=none:=PySem.W.hideAll_none (trk h H) hm
    rw [z] at e; cases e
end L2
namespace L2
open PySem PySem.Spec PyProof.Rows
structure Mod (K:PySem.W.Frag) (mg:Str→Option Value) (base:Heap):Prop where
  kin:K.In base
  glob:base.Ns mainGlobals mg
  blt:∃mb,base.Ns builtinsNs mb∧∀x:Str,x≠"__name__"→mb x=bootBuiltins x
  nolimit:base.NoLimit
structure Cx where
  prog:Program
  w:World
  K:PySem.W.Frag
  mg:Str→Option Value
  base:Heap
  A:Around
  N:List Str
  s₀:Shared
  H₀:Hp
  env:Env
  outer:List Env
  stack:List Env
  ex:List Addr
  fn:Str→Bool
  calm:Bool
  pn:List (Addr × Obj)
  xe:Value→Shared→Prop
def frs (l:List Env):List Addr:=l.filterMap (·.frame)
abbrev Cx.fs (X:Cx):List Addr:=frs X.outer
def Vis (sc:Scope) (x:Str):Prop:=sc.names.lookup x=some .local∨sc.names.lookup x=some .cell∨sc.names.lookup x=some .free
def Loc (sc:Scope) (x:Str):Prop:=sc.names.lookup x=some .local∨sc.names.lookup x=some .cell
def Look (env:Env) (h:Heap) (m:Str→Option Value) (x:Str) (u:Value):Prop:=
  (env.kindOf x=some .local∧m x=some u)∨((env.kindOf x=some .cell∨env.kindOf x=some .free)∧∃c,env.cells.lookup x=some c∧h.IsCell c (some u))
structure Cx.Ok (X:Cx):Prop where
  mod:Mod X.K X.mg X.base
  kind:X.env.scope.kind = .function
  glob:X.env.globals=mainGlobals
  blt:X.env.builtins=builtinsNs
  above:X.s₀.heap.objs.size≤X.env.locals
  inj:∀x y c,X.env.cells.lookup x=some c→X.env.cells.lookup y=some c→x=y
  has:∀x,(X.env.kindOf x=some .cell∨X.env.kindOf x=some .free)→∃c,X.env.cells.lookup x=some c
  cab:∀x c,X.fn x=true→X.env.cells.lookup x=some c→X.s₀.heap.objs.size≤c
  hd:X.calm=true→X.A.handled=none
  frames:X.A.frames=some X.stack
  stk:X.stack=X.outer∨(X.stack=X.env :: X.outer∧X.env.frame=some X.env.locals)
  exf:∀b∈X.ex,b≠X.env.locals∧∀x c,X.env.cells.lookup x=some c→c≠b
  bs:∀b o,X.base.get? b=some o→X.s₀.heap.get? b=some o∧X.H₀ b=none
  bsz:X.base.objs.size≤X.s₀.heap.objs.size
  noex:∀b o,X.base.get? b=some o→b∉X.ex
  exfs:∀b∈X.ex,b∉X.fs
  funs:X.s₀.heap.FunFrames X.base X.outer
  frf:∀b∈X.fs,X.H₀ b=none
structure Inv (X:Cx) (pins:List (Addr × Obj)) (σ:List (Option V)) (H:Hp) (s:Shared):Prop where
  ok:X.Ok
  os:s.os=X.s₀.os
  bare:AllBare s.gens
  base:Un X.fs X.ex X.H₀ H X.s₀.heap s.heap
  loc:∃m,s.heap.Ns X.env.locals m∧∀(i:Nat) (x:Str) (v:V),X.N[i]? = some x→σ[i]? = some (some v)→Vis X.env.scope x→∃u,RelV v u∧Look X.env s.heap m x u
  cell:∀x c,X.env.cells.lookup x=some c→∃v,s.heap.IsCell c v
  free:H X.env.locals=none
  freeC:∀x c,X.env.cells.lookup x=some c→H c=none
  pin:∀p∈X.pn++pins,s.heap.get? p.1=some p.2∧H p.1=none∧p.1≠X.env.locals∧p.1∉X.fs∧∀v,p.2.data≠.cell v
  hok:HOk X.prog X.w H s.heap
  len:σ.length=X.N.length
section
variable {X:Cx} {pins:List (Addr × Obj)} {σ:List (Option V)} {H H':Hp} {s:Shared} {h':Heap}
theorem Cx.Ok.nofr (ok:X.Ok) {b:Addr} {o:Obj} (e:X.base.get? b=some o):b∉X.fs:=fun hb=>by
  have:=(ok.funs.mem hb).1
  rw [e] at this; cases this
theorem Inv.bs (I:Inv X pins σ H s):∀b o,X.base.get? b=some o→s.heap.get? b=some o∧H b=none:=fun b o e=>
  ⟨I.base.keep b o (I.ok.bs b o e).1 (I.ok.bs b o e).2 (I.ok.nofr e) (I.ok.noex b o e),I.base.free b o (I.ok.bs b o e).1 (I.ok.bs b o e).2 (I.ok.noex b o e)⟩
theorem Inv.bk (I:Inv X pins σ H s):∀b o,X.base.get? b=some o→s.heap.get? b=some o:=fun b o e=>(I.bs b o e).1
theorem Inv.mod (I:Inv X pins σ H s):Mod X.K X.mg X.base:=I.ok.mod
theorem Inv.kIn (I:Inv X pins σ H s):X.K.In s.heap:=I.ok.mod.kin.keeps I.bk
theorem Inv.lt (I:Inv X pins σ H s):X.env.locals < s.heap.objs.size:=let ⟨_,hn,_⟩:=I.loc; hn.lt
theorem Inv.sz (I:Inv X pins σ H s):X.s₀.heap.objs.size≤s.heap.objs.size:=Nat.le_trans I.ok.above (Nat.le_of_lt I.lt)
theorem Inv.nofs (I:Inv X pins σ H s) {a:Addr} (h:s.heap.objs.size≤a):a∉X.fs:=fun hb=>by
  obtain ⟨_,o,ho,_⟩:=I.ok.funs.mem hb
  exact absurd (Nat.lt_of_lt_of_le (Heap.lt_size ho) (Nat.le_trans I.sz h)) (Nat.lt_irrefl _)
theorem Inv.cne (I:Inv X pins σ H s):∀x c,X.env.cells.lookup x=some c→c≠X.env.locals:=fun x c e z=>by
  obtain ⟨v,o,ho,hd⟩:=I.cell x c e
  obtain ⟨m,⟨o',es,ep,ho',hd',_⟩,_⟩:=I.loc
  rw [z,ho'] at ho; cases ho; rw [hd'] at hd; cases hd
theorem Inv.funs (I:Inv X pins σ H s):s.heap.FunFrames X.base X.outer:=by
  have all:∀(l:List Env),(∀b∈frs l,b∈X.fs)→X.s₀.heap.FunFrames X.base l→s.heap.FunFrames X.base l:=by
    intro l
    induction l with
    | nil=>intro _ _; trivial
    | cons env r ih=>
      intro hs hl
      obtain ⟨hk,⟨L,o,hf,hn,ho,hd⟩,hr⟩:=hl
      have hL:L∈X.fs:=hs L (by unfold frs; rw [List.filterMap_cons,hf]; exact List.mem_cons_self)
      obtain ⟨sl,e⟩:=I.base.slot L o ho (I.ok.frf L hL) hL fun z=>I.ok.exfs L z hL
      exact ⟨hk,⟨L,_,hf,hn,e,hd⟩,ih (fun b hb=>hs b (by unfold frs; rw [List.filterMap_cons,hf]; exact List.mem_cons_of_mem _ hb)) hr⟩
  exact all X.outer (fun _ hb=>hb) I.ok.funs
theorem Inv.stack (I:Inv X pins σ H s):s.heap.FunFrames X.base X.stack:=by
  rcases I.ok.stk with e | ⟨e,hf⟩
  · rw [e]; exact I.funs
  · rw [e]
    obtain ⟨m,hn,_⟩:=I.loc
    refine .cons (by rw [I.ok.kind]; decide) hf hn ?_ I.funs
    exact Heap.get?_none_of_le (Nat.le_trans I.ok.bsz I.ok.above)
theorem Inv.stkSub (I:Inv X pins σ H s):∀b∈frs X.stack,b∈X.env.locals :: X.fs:=fun b hb=>by
  rcases I.ok.stk with e | ⟨e,hf⟩
  · rw [e] at hb; exact List.mem_cons_of_mem _ hb
  · rw [e] at hb
    unfold frs at hb
    rw [List.filterMap_cons,hf] at hb
    exact hb
theorem Inv.stkFree (I:Inv X pins σ H s):∀b∈frs X.stack,H b=none:=fun b hb=>by
  rcases List.mem_cons.mp (I.stkSub b hb) with e | hb
  · rw [e]; exact I.free
  · obtain ⟨_,o,ho,_⟩:=I.ok.funs.mem hb
    exact I.base.free b o ho (I.ok.frf b hb) fun z=>I.ok.exfs b z hb
theorem Inv.step {g':Array GenState} {t':Nat} {d':Drawn} {ch:List Addr} (I:Inv X pins σ H s)
    (hch:∀b∈ch,(b∈X.ex∨X.s₀.heap.objs.size≤b)∧b≠X.env.locals∧(∀x c,X.env.cells.lookup x=some c→c≠b)∧∀p∈X.pn++pins,p.1≠b)
    (keep:∀b o,b≠X.env.locals→b∉X.fs→b∉ch→s.heap.get? b=some o→H b=none→h'.get? b=some o)
    (slot:∀b o,b≠X.env.locals→b∈X.fs→b∉ch→s.heap.get? b=some o→H b=none→∃sl,h'.get? b=some { o with slots:=sl }) (free:∀b o,b∉ch→s.heap.get? b=some o→H b=none→H' b=none)
    (there:∀b o,b∉ch→s.heap.get? b=some o→∃o',h'.get? b=some o')
    (tups:∀b xs,H b=some (.tup xs)→H' b=some (.tup xs)) (frzs:∀b o u,H b=some (.frz o u)→H' b=some (.frz o u)) (tbls:∀b ps,H b=some (.tbl ps)→∃more,H' b=some (.tbl (ps++more)))
    (ns:∀m,s.heap.Ns X.env.locals m→h'.Ns X.env.locals m) (hok:HOk X.prog X.w H' h') (hg:AllBare g') :
    Inv X pins σ H' { s with heap:=h',gens:=g',drawn:=d',toks:=t' }:=by
  have neL:∀b o,X.s₀.heap.get? b=some o→b≠X.env.locals:=fun b o e=>Nat.ne_of_lt (Nat.lt_of_lt_of_le (Heap.lt_size e) I.ok.above)
  have neC:∀b o,X.s₀.heap.get? b=some o→b∉X.ex→b∉ch:=fun b o e hx hb=>by
    rcases (hch b hb).1 with z | z
    · exact hx z
    · exact absurd (Nat.lt_of_lt_of_le (Heap.lt_size e) z) (Nat.lt_irrefl _)
  have cellK:∀x c,X.env.cells.lookup x=some c→∀v,s.heap.IsCell c v→h'.IsCell c v:=fun x c e v ⟨o,ho,hd⟩=>by
    have nch:c∉ch:=fun z=>(hch c z).2.2.1 x c e rfl
    by_cases hc:c∈X.fs
    · obtain ⟨sl,q⟩:=slot c o (I.cne x c e) hc nch ho (I.freeC x c e)
      exact ⟨_,q,hd⟩
    · exact ⟨o,keep c o (I.cne x c e) hc nch ho (I.freeC x c e),hd⟩
  refine ⟨I.ok,I.os,hg,⟨fun b o e n hb hx=>?_,fun b o e n hb hx=>?_,fun b o e n hx=>?_,fun b o e hx=>?_,fun b xs e=>tups b xs (I.base.tups b xs e),fun b o xs e=>frzs b o xs (I.base.frzs b o xs e),fun b ps e=>?_⟩,?_,fun x c e=>?_,?_,fun x c e=>?_,fun p hp=>?_,hok,I.len⟩
  · exact keep b o (neL b o e) hb (neC b o e hx) (I.base.keep b o e n hb hx) (I.base.free b o e n hx)
  · obtain ⟨sl,e1⟩:=I.base.slot b o e n hb hx
    obtain ⟨sl',e2⟩:=slot b _ (neL b o e) hb (neC b o e hx) e1 (I.base.free b o e n hx)
    exact ⟨sl',e2⟩
  · obtain ⟨o',e1⟩:=I.base.there b o e hx
    exact free b o' (neC b o e hx) e1 (I.base.free b o e n hx)
  · obtain ⟨o',e1⟩:=I.base.there b o e hx
    exact there b o' (neC b o e hx) e1
  · obtain ⟨m1,e1⟩:=I.base.tbls b ps e
    obtain ⟨m2,e2⟩:=tbls b _ e1
    exact ⟨m1++m2,by rw [e2,Array.append_assoc]⟩
  · obtain ⟨m,hn,hl⟩:=I.loc
    refine ⟨m,ns m hn,fun i x v e1 e2 e3=>?_⟩
    obtain ⟨u,r,l⟩:=hl i x v e1 e2 e3
    refine ⟨u,r,?_⟩
    rcases l with l | ⟨k,c,e,z⟩
    · exact .inl l
    · exact .inr ⟨k,c,e,cellK x c e _ z⟩
  · obtain ⟨v,z⟩:=I.cell x c e
    exact ⟨v,cellK x c e v z⟩
  · obtain ⟨m,⟨o,_,_,ho,_⟩,_⟩:=I.loc
    exact free _ o (fun z=>(hch _ z).2.1 rfl) ho I.free
  · obtain ⟨v,o,ho,hd⟩:=I.cell x c e
    exact free c o (fun z=>(hch c z).2.2.1 x c e rfl) ho (I.freeC x c e)
  · obtain ⟨e,n,ne,nf,d⟩:=I.pin p hp
    have nch:p.1∉ch:=fun z=>(hch p.1 z).2.2.2 p hp rfl
    exact ⟨keep p.1 p.2 ne nf nch e n,free p.1 p.2 nch e n,ne,nf,d⟩
theorem Inv.un {t':Nat} (I:Inv X pins σ H s) (u:Un X.fs [] H H' s.heap h') (hok:HOk X.prog X.w H' h'):Inv X pins σ H' { s with heap:=h',toks:=t' }:=by
  obtain ⟨m,⟨o,es,ep,ho,r⟩,_⟩:=id I.loc
  obtain ⟨sl,hL⟩:=u.any ho I.free (by simp)
  exact I.step (g':=s.gens) (d':=s.drawn) (ch:=[]) (fun _ z=>nomatch z) (fun b o _ hb _ e n=>u.keep b o e n hb (by simp)) (fun b o _ hb _ e n=>u.slot b o e n hb (by simp)) (fun b o _ e n=>u.free b o e n (by simp)) (fun b o _ e=>u.there b o e (by simp)) u.tups u.frzs u.tbls (fun m' hm=>by
    obtain ⟨o',es',ep',ho',r'⟩:=hm
    rw [ho] at ho'; cases ho'
    exact ⟨_,es',ep',hL,r'⟩) hok I.bare
theorem Inv.call {g':Array GenState} {t':Nat} {d':Drawn} {ch:List Addr} (I:Inv X pins σ H s) (u:Un (frs X.stack) ch H H' s.heap h') (hok:HOk X.prog X.w H' h') (hg:AllBare g')
    (hch:∀b∈ch,(b∈X.ex∨X.s₀.heap.objs.size≤b)∧b≠X.env.locals∧(∀x c,X.env.cells.lookup x=some c→c≠b)∧∀p∈X.pn++pins,p.1≠b) :
    Inv X pins σ H' { s with heap:=h',gens:=g',drawn:=d',toks:=t' }:=by
  obtain ⟨m,⟨o,es,ep,ho,r⟩,_⟩:=id I.loc
  obtain ⟨sl,hL⟩:=u.any ho I.free fun z=>(hch _ z).2.1 rfl
  exact I.step (ch:=ch) hch (fun b o hL hb hc e n=>u.keep b o e n (fun z=>(List.mem_cons.mp (I.stkSub b z)).elim hL hb) hc) (fun b o _ _ hc e n=>u.any e n hc) (fun b o hc e n=>u.free b o e n hc) (fun b o hc e=>u.there b o e hc) u.tups u.frzs u.tbls (fun m' hm=>by
    obtain ⟨o',es',ep',ho',r'⟩:=hm
    rw [ho] at ho'; cases ho'
    exact ⟨_,es',ep',hL,r'⟩) hok hg
theorem Inv.turned {t':Nat} {it:Addr} (I:Inv X pins σ H s) (k:∀b o,b≠it→s.heap.get? b=some o→h'.get? b=some o) (hn:H it=none) (hL:it≠X.env.locals)
    (h1:it∈X.ex∨X.s₀.heap.objs.size≤it) (h2:∀x c,X.env.cells.lookup x=some c→c≠it) (h3:∀p∈X.pn++pins,p.1≠it):Inv X pins σ H { s with heap:=h',toks:=t' }:=by
  have nit:∀b u,H b=some u→b≠it:=fun b u e z=>by rw [z,hn] at e; cases e
  refine I.step (g':=s.gens) (d':=s.drawn) (ch:=[it]) (fun b hb=>?_) (fun b o _ _ hc e _=>k b o (fun z=>hc (by simp [z])) e) (fun b o _ _ hc e _=>⟨o.slots,k b o (fun z=>hc (by simp [z])) e⟩) (fun _ _ _ _ n=>n)
    (fun b o hc e=>⟨o,k b o (fun z=>hc (by simp [z])) e⟩) (fun _ _ e=>e) (fun _ _ _ e=>e) (fun b ps e=>⟨#[],by rw [e]; simp⟩) (fun m hm=>?_) (fun b u e=>?_) I.bare
  · have e:b=it:=by simpa using hb
    subst e
    exact ⟨h1,hL,h2,h3⟩
  · obtain ⟨o,es,ep,ho,r⟩:=hm
    exact ⟨o,es,ep,k _ o (Ne.symm hL) ho,r⟩
  · refine (I.hok b u e).stay (fun c v hc q=>k c v ?_ q) (fun _ q=>q) fun _ _ q=>q
    rcases hc with z | z
    · rw [z]; exact nit b u e
    · exact nit c _ z
theorem Inv.tok (I:Inv X pins σ H s) (t:Nat):Inv X pins σ H { s with toks:=t }:=I.un (h':=s.heap) (t':=t) Un.refl I.hok
theorem Inv.kept {t':Nat} (I:Inv X pins σ H s) (k:∀b u,s.heap.get? b=some u→h'.get? b=some u):Inv X pins σ H { s with heap:=h',toks:=t' }:=I.un (Un.kept k) (I.hok.kept k)
theorem Inv.laid {a:Addr} {o:HO} {t':Nat} (I:Inv X pins σ H s) (k:∀b u,s.heap.get? b=some u→h'.get? b=some u) (hp:s.heap.objs.size≤a) (new:ObjOk X.prog X.w (upd H a o) h' a o) :
    Inv X pins σ (upd H a o) { s with heap:=h',toks:=t' }:=I.un (Un.laid k hp (I.hok.fresh hp)) (I.hok.laid k hp new)
theorem Inv.write {x e:Addr} {o:HO} {t':Nat} (I:Inv X pins σ H s) (mu:Mut (H x)) (he:e=x∨H e=some (.own x)) (k:∀b u,b≠e→s.heap.get? b=some u→h'.get? b=some u) (heo:∃u,h'.get? e=some u)
    (new:ObjOk X.prog X.w (upd H x o) h' x o):Inv X pins σ (upd H x o) { s with heap:=h',toks:=t' }:=I.un (Un.write mu he k heo) (I.hok.write mu he k heo new)
theorem Inv.weak {σ':List (Option V)} (I:Inv X pins σ H s) (hl:σ'.length=σ.length) (w:∀(i:Nat) v,σ'[i]? = some (some v)→σ[i]? = some (some v)):Inv X pins σ' H s:=
  ⟨I.ok,I.os,I.bare,I.base,let ⟨m,hn,hl'⟩:=I.loc; ⟨m,hn,fun i x v e1 e2 e3=>hl' i x v e1 (w i v e2) e3⟩,I.cell,I.free,I.freeC,I.pin,I.hok,hl.trans I.len⟩
theorem Inv.pins_of {pins':List (Addr × Obj)} (I:Inv X pins σ H s) (h:∀p∈pins',s.heap.get? p.1=some p.2∧H p.1=none∧p.1≠X.env.locals∧p.1∉X.fs∧∀v,p.2.data≠.cell v):Inv X pins' σ H s:=
  ⟨I.ok,I.os,I.bare,I.base,I.loc,I.cell,I.free,I.freeC,fun p hp=>(List.mem_append.mp hp).elim (fun z=>I.pin p (List.mem_append_left _ z)) (h p),I.hok,I.len⟩
theorem nodup_ix {N:List Str} (hN:N.Nodup) {i j:Nat} {x:Str} (a:N[i]? = some x) (b:N[j]? = some x):i=j:=by
  obtain ⟨h1,e1⟩:=List.getElem?_eq_some_iff.mp a
  obtain ⟨h2,e2⟩:=List.getElem?_eq_some_iff.mp b
  exact (List.getElem_inj hN).mp (e1.trans e2.symm)
theorem store_ok2 {M:Model} {A:Around} {E:Value→Shared→Prop} {i:Nat} {x:Str} {v:V} {u:Value} {Q:Unit→Shared→Prop} (I:Inv X pins σ H s) (hN:X.N.Nodup) (hi:X.N[i]? = some x) (hx:Loc X.env.scope x) (r:RelV v u)
    (h:∀s',Inv X pins (σ.set i (some v)) H s'→(∃a,Heap.SameBut a s.heap s'.heap∧(a=X.env.locals∨X.env.cells.lookup x=some a))→Q () s') (hf:X.fn x=true∨X.env.scope.names.lookup x=some .local:=by first | exact .inl rfl | exact .inr rfl | assumption):wpAny M A (storeName X.env x u) Q E s:=by
  obtain ⟨m,hn,hl⟩:=id I.loc
  have hcls:(X.env.scope.kind == .class || (X.env.scope.kind == .module && X.env.locals != X.env.globals))=false:=by rw [I.ok.kind]; rfl
  have hiσ:i < σ.length:=by rw [I.len]; exact (List.getElem?_eq_some_iff.mp hi).1
  have cne:=I.cne
  have tracked:∀{a:Addr} {h':Heap},(∃o,s.heap.get? a=some o∧H a=none)→Heap.SameBut a s.heap h'→HOk X.prog X.w H h':=fun {a h'} ha hs b ob e=>by
    obtain ⟨_,_,hfree⟩:=ha
    refine (I.hok b ob e).stay (fun c w' hc q=>(hs.2 c ?_).trans q) (fun _ q=>q) fun _ _ q=>q
    rintro rfl
    rcases hc with rfl | hc
    · rw [hfree] at e; cases e
    · rw [hfree] at hc; cases hc
  rcases hx with hk | hk
  · refine wpAny_storeName_local hk hn (fun h' hn' hs=>?_) hcls
    obtain ⟨oL,_,_,hoL,_⟩:=id hn
    refine h _ ⟨I.ok,I.os,I.bare,⟨fun b o e n hb hx=>?_,fun b o e n hb hx=>?_,I.base.free,fun b o e hx=>?_,I.base.tups,I.base.frzs,I.base.tbls⟩,⟨_,hn',fun j y v' e1 e2 e3=>?_⟩,fun y c e=>?_,I.free,I.freeC,fun p hp=>?_,tracked ⟨oL,hoL,I.free⟩ hs,by simpa using I.len⟩ ⟨_,hs,.inl rfl⟩
    · exact (hs.2 b (Nat.ne_of_lt (Nat.lt_of_lt_of_le (Heap.lt_size e) I.ok.above))).trans (I.base.keep b o e n hb hx)
    · obtain ⟨sl,e1⟩:=I.base.slot b o e n hb hx
      exact ⟨sl,(hs.2 b (Nat.ne_of_lt (Nat.lt_of_lt_of_le (Heap.lt_size e) I.ok.above))).trans e1⟩
    · obtain ⟨o',e1⟩:=I.base.there b o e hx
      exact ⟨o',(hs.2 b (Nat.ne_of_lt (Nat.lt_of_lt_of_le (Heap.lt_size e) I.ok.above))).trans e1⟩
    · by_cases hj:j=i
      · subst hj
        rw [hi] at e1; cases e1
        rw [List.getElem?_set_self hiσ] at e2
        cases e2
        exact ⟨u,r,.inl ⟨hk,by simp⟩⟩
      · rw [List.getElem?_set_ne (Ne.symm hj)] at e2
        obtain ⟨u',r',q⟩:=hl j y v' e1 e2 e3
        refine ⟨u',r',?_⟩
        rcases q with ⟨k,e⟩ | ⟨k,c,e,z⟩
        · refine .inl ⟨k,?_⟩
          have:y≠x:=fun e=>hj (nodup_ix hN e1 (e ▸ hi))
          simp [this,e]
        · exact .inr ⟨k,c,e,z.sameBut hs (cne y c e)⟩
    · obtain ⟨w',z⟩:=I.cell y c e
      exact ⟨w',z.sameBut hs (cne y c e)⟩
    · obtain ⟨e,n,ne,nf,d⟩:=I.pin p hp
      exact ⟨(hs.2 p.1 ne).trans e,n,ne,nf,d⟩
  · have hfn:X.fn x=true:=by
      rcases hf with z | z
      · exact z
      · rw [z] at hk; cases hk
    obtain ⟨c,hc⟩:=I.ok.has x (.inl hk)
    obtain ⟨w',z⟩:=I.cell x c hc
    refine wpAny_storeName_cell I.ok.kind hk hc z (fun h' hc' hs=>?_)
    obtain ⟨oc,hoc,hocd⟩:=id z
    refine h { s with heap:=h' } ⟨I.ok,I.os,I.bare,⟨fun b o e n hb hx=>?_,fun b o e n hb hx=>?_,I.base.free,fun b o e hx=>?_,I.base.tups,I.base.frzs,I.base.tbls⟩,⟨m,hn.sameBut hs (Ne.symm (cne x c hc)),fun j y v' e1 e2 e3=>?_⟩,fun y c' e=>?_,I.free,I.freeC,fun p hp=>?_,tracked ⟨oc,hoc,I.freeC x c hc⟩ hs,by simpa using I.len⟩ ⟨c,hs,.inr hc⟩
    · exact (hs.2 b (Nat.ne_of_lt (Nat.lt_of_lt_of_le (Heap.lt_size e) (I.ok.cab x c hfn hc)))).trans (I.base.keep b o e n hb hx)
    · obtain ⟨sl,e1⟩:=I.base.slot b o e n hb hx
      exact ⟨sl,(hs.2 b (Nat.ne_of_lt (Nat.lt_of_lt_of_le (Heap.lt_size e) (I.ok.cab x c hfn hc)))).trans e1⟩
    · obtain ⟨o',e1⟩:=I.base.there b o e hx
      exact ⟨o',(hs.2 b (Nat.ne_of_lt (Nat.lt_of_lt_of_le (Heap.lt_size e) (I.ok.cab x c hfn hc)))).trans e1⟩
    · by_cases hj:j=i
      · subst hj
        rw [hi] at e1; cases e1
        rw [List.getElem?_set_self hiσ] at e2
        cases e2
        exact ⟨u,r,.inr ⟨.inl hk,c,hc,hc'⟩⟩
      · rw [List.getElem?_set_ne (Ne.symm hj)] at e2
        obtain ⟨u',r',q⟩:=hl j y v' e1 e2 e3
        refine ⟨u',r',?_⟩
        rcases q with q | ⟨k,c',e,z'⟩
        · exact .inl q
        · refine .inr ⟨k,c',e,z'.sameBut hs ?_⟩
          rintro rfl
          exact hj (nodup_ix hN e1 (I.ok.inj _ _ _ e hc ▸ hi))
    · by_cases hcc:c' = c
      · subst hcc; exact ⟨_,hc'⟩
      · obtain ⟨w2,z2⟩:=I.cell y c' e
        exact ⟨w2,z2.sameBut hs hcc⟩
    · obtain ⟨e,n,ne,nf,d⟩:=I.pin p hp
      refine ⟨(hs.2 p.1 ?_).trans e,n,ne,nf,d⟩
      intro q
      rw [q,hoc] at e
      have q':oc=p.2:=Option.some.inj e
      exact d w' (by rw [←q']; exact hocd)
theorem store_ok {M:Model} {A:Around} {E:Value→Shared→Prop} {i:Nat} {x:Str} {v:V} {u:Value} {Q:Unit→Shared→Prop} (I:Inv X pins σ H s) (hN:X.N.Nodup) (hi:X.N[i]? = some x) (hx:Loc X.env.scope x) (r:RelV v u)
    (h:∀s',Inv X pins (σ.set i (some v)) H s'→Q () s') (hf:X.fn x=true∨X.env.scope.names.lookup x=some .local:=by first | exact .inl rfl | exact .inr rfl | assumption):wpAny M A (storeName X.env x u) Q E s:=
  store_ok2 I hN hi hx r (fun s' I' _=>h s' I') hf
theorem Inv.call' {s':Shared} {ch:List Addr} (I:Inv X pins σ H s) (ho:s'.os=s.os) (u:Un (frs X.stack) ch H H' s.heap s'.heap) (hok:HOk X.prog X.w H' s'.heap) (hg:AllBare s'.gens)
    (hch:∀b∈ch,(b∈X.ex∨X.s₀.heap.objs.size≤b)∧b≠X.env.locals∧(∀x c,X.env.cells.lookup x=some c→c≠b)∧∀p∈X.pn++pins,p.1≠b):Inv X pins σ H' s':=by
  obtain ⟨h',g',d',t',o'⟩:=s'
  have e:o' = s.os:=ho
  subst e
  exact I.call (g':=g') (t':=t') (d':=d') u hok hg hch
end
abbrev XK:=Value→Option Addr→Hp→Prop
abbrev St:=List (Option V)
abbrev VK:=V→Hp→Prop
abbrev TE:=St→Hp→VK→Prop
abbrev TT:=St→Hp→(Bool→Hp→Prop)→Prop
abbrev TA:=St→Hp→(List V→Hp→Prop)→Prop
structure Ends where
  nx:St→Hp→Prop
  rt:VK
  bk:St→Hp→Prop:=fun _ _=>False
  ct:St→Hp→Prop:=fun _ _=>False
abbrev TS:=Ends→St→Hp→Prop
def EP (X:Cx) (pins:List (Addr × Obj)) (σ:St) (Q:VK) (u:Value) (s':Shared):Prop:=∃v H',Inv X pins σ H' s'∧RelV v u∧Q v H'
def TP (X:Cx) (pins:List (Addr × Obj)) (σ:St) (Q:Bool→Hp→Prop) (b:Bool) (s':Shared):Prop:=∃H',Inv X pins σ H' s'∧Q b H'
def AP (X:Cx) (pins:List (Addr × Obj)) (σ:St) (Q:List V→Hp→Prop) (us:List Value) (s':Shared):Prop:=∃vs H',Inv X pins σ H' s'∧Vals vs us∧Q vs H'
def SP (X:Cx) (pins:List (Addr × Obj)) (D:Ends) (f:Flow) (s':Shared):Prop:=
  match f with
  | .next=>∃σ' H',Inv X pins σ' H' s'∧D.nx σ' H'
  | .brk=>∃σ' H',Inv X pins σ' H' s'∧D.bk σ' H'
  | .cont=>∃σ' H',Inv X pins σ' H' s'∧D.ct σ' H'
  | .ret u=>∃v σ' H',Inv X pins σ' H' s'∧RelV v u∧D.rt v H'
def PE (X:Cx) (e:Expr) (t:TE):Prop:=
  ∀(pins:List (Addr × Obj)) (s:Shared) (σ:St) (H:Hp) (Q:VK),Inv X pins σ H s→t σ H Q→wpAny (model X.prog X.w) X.A (eval e X.env) (EP X pins σ Q) X.xe s
def PT (X:Cx) (e:Expr) (t:TT):Prop:=
  ∀(pins:List (Addr × Obj)) (s:Shared) (σ:St) (H:Hp) (Q:Bool→Hp→Prop),Inv X pins σ H s→t σ H Q→wpAny (model X.prog X.w) X.A (isTrue e X.env (eval e X.env)) (TP X pins σ Q) X.xe s
def PW (X:Cx) (e:Expr) (t:TT):Prop:=
  ∀(whole:Sem Value) (pins:List (Addr × Obj)) (s:Shared) (σ:St) (H:Hp) (Q:Bool→Hp→Prop),Inv X pins σ H s→t σ H Q→wpAny (model X.prog X.w) X.A (isTrue e X.env whole) (TP X pins σ Q) X.xe s
theorem PW.pt {X:Cx} {e:Expr} {t:TT} (h:PW X e t):PT X e t:=h _
def PA (X:Cx) (es:List Expr) (t:TA):Prop:=
  ∀(pos:Pos) (pins:List (Addr × Obj)) (s:Shared) (σ:St) (H:Hp) (Q:List V→Hp→Prop),Inv X pins σ H s→t σ H Q→wpAny (model X.prog X.w) X.A (spliced (backTo pos (starEach es X.env))) (AP X pins σ Q) X.xe s
def PS (X:Cx) (st:Stmt) (t:TS):Prop:=
  ∀(pins:List (Addr × Obj)) (s:Shared) (σ:St) (H:Hp) (D:Ends),Inv X pins σ H s→t D σ H→wpAny (model X.prog X.w) X.A (exec st X.env) (SP X pins D) X.xe s
def PSs (X:Cx) (st:List Stmt) (t:TS):Prop:=
  ∀(pins:List (Addr × Obj)) (s:Shared) (σ:St) (H:Hp) (D:Ends),Inv X pins σ H s→t D σ H→wpAny (model X.prog X.w) X.A (execs st X.env) (SP X pins D) X.xe s
theorem thn {α:Type} {t:Sem α} {Q Q':α→Shared→Prop} {M:Model} {A:Around} {E:Value→Shared→Prop} {s:Shared} (h:wpAny M A t Q E s) (hQ:∀a s,Q a s→Q' a s):wpAny M A t Q' E s:=wpAny_mono h hQ fun _ _ x=>x
end L2
namespace L2
open PySem PySem.Spec PyProof.Rows
section
variable {X:Cx}
def tVar (i:Nat):TE:=fun σ H Q=>∃v,σ[i]? = some (some v)∧Q v H
def tC (v:V):TE:=fun _ H Q=>Q v H
theorem pe_var {i:Nat} {x:Str} {pos:Pos} (hN:X.N[i]? = some x) (hv:Vis X.env.scope x) (hd:(x == ("__debug__":Str))=false:=by decide) (hcd:(x == ("__classdict__":Str))=false:=by decide):PE X (.Name x pos) (tVar i):=by
  intro pins s σ H Q I h
  obtain ⟨v,e,h⟩:=h
  obtain ⟨m,hn,hl⟩:=I.loc
  obtain ⟨u,r,l⟩:=hl i x v hN e hv
  have fin:EP X pins σ Q u s:=⟨v,H,I,r,h⟩
  rcases l with ⟨hk,hm⟩ | ⟨hk,c,hc,hcell⟩
  · exact wpAny_Name (wpAny_loadName_local I.ok.kind hk hn hm fin) hd
  · rcases hk with hk | hk
    · exact wpAny_Name (wpAny_loadName_cell I.ok.kind hk hc hcell fin) hd
    · exact wpAny_Name (wpAny_loadName_free I.ok.kind hk hc hcell fin hcd) hd
theorem pe_int {i j pos}:PE X (.Constant (.int i) j pos) (tC (.int i)):=fun _ _ _ H _ I h=>wpAny_Constant_int ⟨.int i,H,I.tok _,⟨_,rfl⟩,h⟩
theorem pe_bl {b j pos}:PE X (.Constant (.bool b) j pos) (tC (.bl b)):=fun _ _ _ H _ I h=>Constant_bool ⟨.bl b,H,I,rfl,h⟩
theorem pe_non {j pos}:PE X (.Constant .none j pos) (tC .non):=fun _ _ _ H _ I h=>Constant_none ⟨.non,H,I,rfl,h⟩
theorem pe_str {x j pos}:PE X (.Constant (.str x) j pos) (tC (.str x)):=fun _ _ _ H _ I h=>Calls.Constant_str ⟨.str x,H,I.tok _,⟨_,rfl⟩,h⟩
def Gl (X:Cx) (x:Str):Prop:=X.env.kindOf x=some .globalImplicit
theorem ld_glob {E:Value→Shared→Prop} {pins:List (Addr × Obj)} {s:Shared} {σ:St} {H:Hp} {x:Str} {u:Value} {pos:Pos} {Q:Value→Shared→Prop} (I:Inv X pins σ H s) (hg:Gl X x) (hm:X.mg x=some u) (h:Q u s)
    (hd:(x == ("__debug__":Str))=false:=by decide):wpAny (model X.prog X.w) X.A (eval (.Name x pos) X.env) Q E s:=
  Calls.Name_function_global I.ok.kind hg (Calls.loadGlobal_global (by rw [I.ok.glob]; exact I.mod.glob.keeps I.bk) hm h) hd
theorem ld_blt {E:Value→Shared→Prop} {pins:List (Addr × Obj)} {s:Shared} {σ:St} {H:Hp} {x:Str} {u:Value} {pos:Pos} {Q:Value→Shared→Prop} (I:Inv X pins σ H s) (hg:Gl X x) (hm:X.mg x=none) (hv:bootBuiltins x=some u) (h:Q u s)
    (hn:x≠"__name__":=by decide) (hd:(x == ("__debug__":Str))=false:=by decide):wpAny (model X.prog X.w) X.A (eval (.Name x pos) X.env) Q E s:=by
  obtain ⟨mb,h1,h2⟩:=I.mod.blt
  exact Calls.Name_function_global I.ok.kind hg (Calls.loadGlobal_builtin (by rw [I.ok.glob]; exact I.mod.glob.keeps I.bk) hm (by rw [I.ok.blt]; exact h1.keeps I.bk) ((h2 x hn).trans hv) h) hd
theorem pe_glob {x:Str} {v:V} {u:Value} {pos:Pos} (hg:Gl X x) (hm:X.mg x=some u) (r:RelV v u) (hd:(x == ("__debug__":Str))=false:=by decide):PE X (.Name x pos) (tC v):=
  fun _ _ _ H _ I h=>ld_glob I hg hm ⟨v,H,I,r,h⟩ hd
variable {a b:Expr} {ta tb:TE} {pos:Pos}
def tB (t:TE):TT:=fun σ H Q=>t σ H fun x H1=>∃c,x = .bl c∧Q c H1
theorem pt_val {e:Expr} {t:TE} (h:PE X e t) (he:∀whole,isTrue e X.env whole=(do let v ←whole; standAt e.pos; holding [v] (truthy v)):=by intro _; rfl):PT X e (tB t):=by
  intro pins s σ H Q I hw
  refine isTrue_plain (thn (h pins s σ H _ I hw) fun v s1 ⟨x,H1,I1,r1,q1⟩=>?_) (he _)
  obtain ⟨d,rfl,q⟩:=q1
  cases r1
  exact wpAny_truthy_bool ⟨H1,I1,q⟩
variable {tA tB':TT} {rest:List Expr}
def tAnd (t u:TT):TT:=fun σ H Q=>t σ H fun c H1=>if c=true then u σ H1 Q else Q false H1
def tNot (t:TT):TT:=fun σ H Q=>t σ H fun c H1=>Q (!c) H1
theorem pw_and1 (ha:PT X a tA):PW X (.BoolOp .And [a] pos) tA:=by
  intro wh pins s σ H Q I h
  refine isTrue_and (thn (ha pins s σ H Q I h) fun c s1 e=>?_)
  cases c with
  | true=>exact isTrue_and_nil e
  | false=>exact e
theorem pw_and (ha:PT X a tA) (hb:PW X (.BoolOp .And (b :: rest) pos) tB'):PW X (.BoolOp .And (a :: b :: rest) pos) (tAnd tA tB'):=by
  intro wh pins s σ H Q I h
  refine isTrue_and (thn (ha pins s σ H _ I h) fun c s1 ⟨H1,I1,q1⟩=>?_)
  cases c with
  | true=>exact hb wh pins s1 σ H1 Q I1 q1
  | false=>exact ⟨H1,I1,q1⟩
theorem pt_not (ha:PT X a tA):PT X (.UnaryOp .Not a pos) (tNot tA):=by
  intro pins s σ H Q I h
  exact isTrue_not (ha pins s σ H (fun c H1=>Q (!c) H1) I h)
def tAndV (ta tb:TE):TE:=fun σ H Q=>ta σ H fun x H1=>∃c,x = .bl c∧if c=true then tb σ H1 Q else Q (.bl false) H1
theorem pe_one {op} {t:TE} (h:PE X a t):PE X (.BoolOp op [a] pos) t:=fun pins s σ H Q I hw=>BoolOp_one (h pins s σ H Q I hw)
theorem pe_and (ha:PE X a ta) (hb:PE X (.BoolOp .And (b :: rest) pos) tb):PE X (.BoolOp .And (a :: b :: rest) pos) (tAndV ta tb):=by
  intro pins s σ H Q I h
  refine BoolOp_and (thn (ha pins s σ H _ I h) fun v s1 ⟨x,H1,I1,r1,q1⟩=>?_)
  obtain ⟨c,rfl,q1⟩:=q1
  cases r1
  refine wpAny_truthy_bool ?_
  cases c with
  | true=>exact hb pins s1 σ H1 Q I1 q1
  | false=>exact ⟨.bl false,H1,I1,rfl,q1⟩
def tIf (t:TT) (ta tb:TE):TE:=fun σ H Q=>t σ H fun c H1=>if c=true then ta σ H1 Q else tb σ H1 Q
theorem pe_ifExp {c:Expr} (hc:PT X c tA) (ha:PE X a ta) (hb:PE X b tb):PE X (.IfExp c a b pos) (tIf tA ta tb):=by
  intro pins s σ H Q I h
  refine wpAny_IfExp (thn (hc pins s σ H _ I h) fun d s1 ⟨H1,I1,q1⟩=>?_)
  cases d with
  | true=>exact ha pins s1 σ H1 Q I1 q1
  | false=>exact hb pins s1 σ H1 Q I1 q1
end
end L2
namespace L2
open PySem PySem.Spec PyProof.Rows
def SqL (K:PySem.W.Frag) (H:Hp) (a:Addr) (xs:List V):Prop:=
  Rd H a (.lst xs)∨
    ∃(o:Obj) (its:Array Value) (n:Nat),K.lookup a=some o∧o.cls = .type "list"∧o.dict=none∧o.data = .seq its n∧its.size≤sizeLine∧Vals xs its.toList
def SqT (K:PySem.W.Frag) (H:Hp) (a:Addr) (xs:List V):Prop:=
  Rd H a (.tup xs)∨
    ∃(o:Obj) (its:Array Value) (n:Nat),K.lookup a=some o∧o.cls = .type "tuple"∧o.data = .seq its n∧its.size≤sizeLine∧Vals xs its.toList
def absV:Value→Option V
  | .none=>some .non
  | .bool b=>some (.bl b)
  | .int i _=>some (.int i)
  | .str x _=>some (.str x)
  | .bytes b _=>some (.byt b)
  | .float b _=>some (.flt b)
  | .ref a=>some (.ref a)
  | .type n=>some (.ty n)
  | _=>none
theorem RelV.abs {x:V} {u:Value} (r:RelV x u):absV u=some x:=by
  cases x with
  | non=>cases r; rfl
  | bl _=>cases r; rfl
  | int _=>obtain ⟨t,rfl⟩:=r; rfl
  | str _=>obtain ⟨t,rfl⟩:=r; rfl
  | byt _=>obtain ⟨t,rfl⟩:=r; rfl
  | flt _=>obtain ⟨t,rfl⟩:=r; rfl
  | ref _=>cases r; rfl
  | ty _=>cases r; rfl
theorem RelV.inj {x y:V} {u:Value} (r:RelV x u) (q:RelV y u):x=y:=Option.some.inj (r.abs.symm.trans q.abs)
theorem Vals.inj:∀{xs ys:List V} {us:List Value},Vals xs us→Vals ys us→xs=ys
  | _,_,_,.nil,.nil=>rfl
  | _,_,_,.cons r t,.cons r' t'=>by rw [r.inj r',Vals.inj t t']
section
variable {X:Cx} {pins:List (Addr × Obj)} {σ:St} {H:Hp} {s:Shared} {a:Addr} {xs ys:List V}
theorem SqL.of {K:PySem.W.Frag} (h:H a=some (.lst xs)):SqL K H a xs:=.inl (.inl h)
theorem SqT.of {K:PySem.W.Frag} (h:H a=some (.tup xs)):SqT K H a xs:=.inl (.inl h)
theorem Inv.list (I:Inv X pins σ H s) (h:SqL X.K H a xs):∃its:List Value,Vals xs its∧PlainL s.heap a its.toArray∧xs.length≤sizeLine:=by
  rcases h with h | ⟨o,its,n,hk,hc,hd,hs,hz,r⟩
  · obtain ⟨z,its,n,r,e⟩:=h.ok I.hok
    exact ⟨its,r,⟨_,n,e,rfl,rfl,rfl⟩,z⟩
  · refine ⟨its.toList,r,⟨o,n,I.kIn a o hk,hc,hd,by simpa using hs⟩,?_⟩
    have e:=r.length
    simp only [Array.length_toList] at e
    omega
theorem Inv.tuple (I:Inv X pins σ H s) (h:SqT X.K H a xs):∃its:List Value,Vals xs its∧IsTup s.heap a its.toArray∧xs.length≤sizeLine:=by
  rcases h with h | ⟨o,its,n,hk,hc,hs,hz,r⟩
  · obtain ⟨z,its,r,p⟩:=h.ok I.hok
    exact ⟨its,r,p,z⟩
  · refine ⟨its.toList,r,⟨o,I.kIn a o hk,hc,n,by simpa using hs⟩,?_⟩
    have e:=r.length
    simp only [Array.length_toList] at e
    omega
theorem Inv.list_inj (I:Inv X pins σ H s) (h:SqL X.K H a xs) (h':SqL X.K H a ys):xs=ys:=by
  obtain ⟨its,r,⟨o,n,e,_,_,d⟩,_⟩:=I.list h
  obtain ⟨its',r',⟨o',n',e',_,_,d'⟩,_⟩:=I.list h'
  rw [e] at e'; cases e'
  rw [d] at d'
  injection d' with d1 _
  have:its=its':=by simpa using congrArg Array.toList d1
  subst this
  exact r.inj r'
theorem Inv.tuple_inj (I:Inv X pins σ H s) (h:SqT X.K H a xs) (h':SqT X.K H a ys):xs=ys:=by
  obtain ⟨its,r,⟨o,e,_,n,d⟩,_⟩:=I.tuple h
  obtain ⟨its',r',⟨o',e',_,n',d'⟩,_⟩:=I.tuple h'
  rw [e] at e'; cases e'
  rw [d] at d'
  injection d' with d1 _
  have:its=its':=by simpa using congrArg Array.toList d1
  subst this
  exact r.inj r'
end
abbrev Cx.wish (X:Cx) (E:Value→Shared→Prop):Cx:={ X with xe:=E }
abbrev Cx.nox (X:Cx):Cx:=X.wish fun _ _=>False
theorem Cx.Ok.wish {X:Cx} (ok:X.Ok) (E:Value→Shared→Prop):(X.wish E).Ok:=
  ⟨ok.mod,ok.kind,ok.glob,ok.blt,ok.above,ok.inj,ok.has,ok.cab,ok.hd,ok.frames,ok.stk,ok.exf,ok.bs,ok.bsz,ok.noex,ok.exfs,ok.funs,ok.frf⟩
theorem Cx.Ok.unwish {X:Cx} {E:Value→Shared→Prop} (ok:(X.wish E).Ok):X.Ok:=
  ⟨ok.mod,ok.kind,ok.glob,ok.blt,ok.above,ok.inj,ok.has,ok.cab,ok.hd,ok.frames,ok.stk,ok.exf,ok.bs,ok.bsz,ok.noex,ok.exfs,ok.funs,ok.frf⟩
section
variable {X:Cx} {pins:List (Addr × Obj)} {σ:St} {H:Hp} {s:Shared} {E:Value→Shared→Prop}
theorem Inv.wish (I:Inv X pins σ H s) (E:Value→Shared→Prop):Inv (X.wish E) pins σ H s:=⟨I.ok.wish E,I.os,I.bare,I.base,I.loc,I.cell,I.free,I.freeC,I.pin,I.hok,I.len⟩
theorem Inv.unwish (I:Inv (X.wish E) pins σ H s):Inv X pins σ H s:=⟨I.ok.unwish,I.os,I.bare,I.base,I.loc,I.cell,I.free,I.freeC,I.pin,I.hok,I.len⟩
theorem SP.unwish {D:Ends} {f:Flow} {s':Shared} (h:SP (X.wish E) pins D f s'):SP X pins D f s':=by
  cases f with
  | next=>obtain ⟨σ',H',I,q⟩:=h; exact ⟨σ',H',I.unwish,q⟩
  | brk=>obtain ⟨σ',H',I,q⟩:=h; exact ⟨σ',H',I.unwish,q⟩
  | cont=>obtain ⟨σ',H',I,q⟩:=h; exact ⟨σ',H',I.unwish,q⟩
  | ret u=>obtain ⟨v,σ',H',I,r,q⟩:=h; exact ⟨v,σ',H',I.unwish,r,q⟩
theorem PSs.nox {st:List Stmt} {t:TS} (h:PSs X.nox st t):PSs X st t:=fun pins s σ H D I hw=>
  wpAny_mono (h pins s σ H D (I.wish _) hw) (fun _ _ q=>q.unwish) fun _ _ z=>False.elim z
end
section
variable {X:Cx} {st:Stmt} {rest:List Stmt} {t u:TS} {e:Expr} {te:TE} {pos:Pos}
def tNext:TS:=fun D σ H=>D.nx σ H
def tSeq (t u:TS):TS:=fun D σ H=>t { D with nx:=u D } σ H
theorem pss_nil:PSs X [] tNext:=fun _ _ σ H _ I h=>wpAny_execs_nil ⟨σ,H,I,h⟩
theorem pss_cons (h1:PS X st t) (h2:PSs X rest u):PSs X (st :: rest) (tSeq t u):=by
  intro pins s σ H D I h
  refine wpAny_execs_cons (thn (h1 pins s σ H { D with nx:=u D } I h) fun f s1 q=>?_)
  cases f with
  | next=>
    obtain ⟨σ',H',I',q⟩:=q
    exact h2 pins s1 σ' H' D I' q
  | ret v=>exact q
  | brk=>exact q
  | cont=>exact q
theorem pss_one (h1:PS X st t):PSs X [st] t:=by
  intro pins s σ H D I h
  refine wpAny_execs_cons (thn (h1 pins s σ H D I h) fun f s1 q=>?_)
  cases f with
  | next=>exact wpAny_execs_nil q
  | ret v=>exact q
  | brk=>exact q
  | cont=>exact q
theorem Inv.quiet {pins:List (Addr × Obj)} {σ:St} {H:Hp} {s:Shared} (I:Inv X pins σ H s):interactive X.env=false:=by simp [interactive,I.ok.kind]
def tDrop (te:TE):TS:=fun D σ H=>te σ H fun _ H1=>D.nx σ H1
theorem ps_expr (he:PE X e te) (hs:swapsWith e none pos.line X.env=pure false:=by rfl):PS X (.Expr e pos) (tDrop te):=by
  intro pins s σ H D I h
  exact wpAny_Expr_any (thn (he pins s σ H _ I h) fun v s1 ⟨x,H1,I1,r1,q1⟩=>⟨σ,H1,I1,q1⟩) I.quiet hs
def tRet (te:TE):TS:=fun D σ H=>te σ H D.rt
theorem ps_ret (he:PE X e te):PS X (.Return (some e) pos) (tRet te):=by
  intro pins s σ H D I h
  exact wpAny_Return_some (thn (he pins s σ H _ I h) fun v s1 ⟨x,H1,I1,r1,q1⟩=>⟨x,σ,H1,I1,r1,q1⟩)
def tIfS (c:TT) (t u:TS):TS:=fun D σ H=>c σ H fun b H1=>if b=true then t D σ H1 else u D σ H1
theorem ps_if {c:Expr} {a b:List Stmt} {tc:TT} (hc:PT X c tc) (ha:PSs X a t) (hb:PSs X b u):PS X (.If c a b pos) (tIfS tc t u):=by
  intro pins s σ H D I h
  refine wpAny_If (thn (hc pins s σ H _ I h) fun d s1 ⟨H1,I1,q1⟩=>?_)
  cases d with
  | true=>exact ha pins s1 σ H1 D I1 q1
  | false=>exact hb pins s1 σ H1 D I1 q1
def tNever:TS:=fun _ _ _=>False
theorem ps_never:PS X st tNever:=fun _ _ _ _ _ _ h=>h.elim
end
abbrev TG:=V→St→Hp→(St→Hp→Prop)→Prop
abbrev TGs:=List V→St→Hp→(St→Hp→Prop)→Prop
def PG (X:Cx) (target:Expr) (t:TG):Prop:=
  ∀(pins:List (Addr × Obj)) (s:Shared) (σ:St) (H:Hp) (v:V) (u:Value) (Q:St→Hp→Prop),Inv X pins σ H s→RelV v u→t v σ H Q→
    wpAny (model X.prog X.w) X.A (assign target X.env u) (fun _ s'=>∃σ' H',Inv X pins σ' H' s'∧Q σ' H') X.xe s
def PGs (X:Cx) (ts:List Expr) (t:TGs):Prop:=
  ∀(pins:List (Addr × Obj)) (s:Shared) (σ:St) (H:Hp) (vs:List V) (us:List Value) (Q:St→Hp→Prop),Inv X pins σ H s→Vals vs us→t vs σ H Q→
    wpAny (model X.prog X.w) X.A (assignInOrder ((assignEach ts X.env).map (·.2)) us) (fun _ s'=>∃σ' H',Inv X pins σ' H' s'∧Q σ' H') X.xe s
abbrev TSet:=V→V→V→Hp→(Hp→Prop)→Prop
def PSet (X:Cx) (t:TSet):Prop:=
  ∀(pins:List (Addr × Obj)) (s:Shared) (σ:St) (H:Hp) (o i v:V) (ov iv u:Value) (Q:Hp→Prop),Inv X pins σ H s→RelV o ov→RelV i iv→RelV v u→t o i v H Q→
    wpAny (model X.prog X.w) X.A (setItem ov iv u) (fun _ s'=>∃H',Inv X pins σ H' s'∧Q H') X.xe s
section
variable {X:Cx} {pos:Pos}
def gName (i:Nat):TG:=fun v σ H Q=>Q (σ.set i (some v)) H
theorem pg_name {i:Nat} {x:Str} (hN:X.N.Nodup) (hi:X.N[i]? = some x) (hx:Loc X.env.scope x) (hf:X.fn x=true∨X.env.scope.names.lookup x=some .local:=by first | exact .inl rfl | exact .inr rfl | assumption):PG X (.Name x pos) (gName i):=by
  intro pins s σ H v u Q I r h
  exact wpAny_assign_Name (store_ok I hN hi hx r (fun s' I'=>⟨_,H,I',h⟩) hf)
def gNil:TGs:=fun vs σ H Q=>vs=[]∧Q σ H
def gCons (t:TG) (u:TGs):TGs:=fun vs σ H Q=>∃v r,vs=v :: r∧t v σ H fun σ' H'=>u r σ' H' Q
theorem pgs_nil:PGs X [] gNil:=by
  intro pins s σ H vs us Q I r h
  obtain ⟨e,h⟩:=h
  subst e
  cases r
  exact assignInOrder_nil ⟨σ,H,I,h⟩
theorem pgs_cons {e:Expr} {es:List Expr} {t:TG} {u:TGs} (h1:PG X e t) (h2:PGs X es u)
    (hs:(assignEach (e :: es) X.env).map (·.2)=assign e X.env :: (assignEach es X.env).map (·.2):=by rfl):PGs X (e :: es) (gCons t u):=by
  intro pins s σ H vs us Q I r h
  obtain ⟨v,vr,e1,h⟩:=h
  subst e1
  cases r with
  | cons r rr=>
    rw [hs]
    refine assignInOrder_cons (thn (h1 pins s σ H _ _ _ I r h) fun _ s1 ⟨σ1,H1,I1,q1⟩=>?_)
    exact h2 pins s1 σ1 H1 _ _ Q I1 rr q1
def gTup (K:PySem.W.Frag) (n:Nat) (t:TGs):TG:=fun v σ H Q=>∃a xs,v = .ref a∧SqT K H a xs∧xs.length=n∧t xs σ H Q
theorem pg_tup {es:List Expr} {k:Nat} {t:TGs} {n:Nat} (hc:X.calm=true) (h:PGs X es t)
    (hn:(assignEach es X.env).length=n:=by rfl) (hst:(assignEach es X.env).findIdx? (·.1)=none:=by rfl):PG X (.Tuple es k pos) (gTup X.K n t):=by
  intro pins s σ H v u Q I r hw
  obtain ⟨a,xs,e1,hq,hl,hw⟩:=hw
  subst e1
  cases r
  obtain ⟨its,rv,ht,hz⟩:=I.tuple hq
  refine assign_Tuple_tuple (I.ok.hd hc) ht (by simp [hn,←hl,rv.length]) hst fun h' hx=>?_
  have I1:Inv X pins σ H { s with heap:=h' }:=I.kept (t':=s.toks) fun b o e=>hx b o (Nat.ne_of_lt (Heap.lt_size e)) e
  exact h pins _ σ H xs _ Q I1 (by simpa using rv) hw
def gSub (to ti:TE) (t:TSet):TG:=fun v σ H Q=>to σ H fun o H1=>ti σ H1 fun i H2=>t o i v H2 fun H3=>Q σ H3
theorem pg_sub {o i:Expr} {to ti:TE} {t:TSet} (ho:PE X o to) (hi:PE X i ti) (hs:PSet X t)
    (ha:∀v,assign (.Subscript o i pos) X.env v=(do
      let ov ←holding [v] (eval o X.env)
      let iv ←holding [v,ov] (eval i X.env)
      standAt pos
      holding [v,ov,iv] (setItem ov iv v)
      release [v,ov,iv] []):=by intro _; rfl):PG X (.Subscript o i pos) (gSub to ti t):=by
  intro pins s σ H v u Q I r h
  rw [ha]
  refine wpAny_bind (wpAny_holding (thn (ho pins s σ H _ I h) fun ov s1 ⟨x,H1,I1,r1,q1⟩=>?_))
  refine wpAny_bind (wpAny_holding (thn (hi pins s1 σ H1 _ I1 q1) fun iv s2 ⟨y,H2,I2,r2,q2⟩=>?_))
  refine wpAny_bind (wpAny_standAt (wpAny_bind (wpAny_holding (thn (hs pins s2 σ H2 x y v ov iv u _ I2 r1 r2 r q2) fun _ s3 ⟨H3,I3,q3⟩=>?_))))
  exact wpAny_release ⟨σ,H3,I3,q3⟩
def tAsg (te:TE) (g:TG):TS:=fun D σ H=>te σ H fun x H1=>g x σ H1 D.nx
theorem ps_asg {tg e:Expr} {te:TE} {g:TG} (he:PE X e te) (hg:PG X tg g) (hs:swapsWithSole [tg] e pos.line X.env=pure false:=by rfl) (hw:swappedStores [tg] e X.env=pure none:=by rfl)
    (h1:(assignEach [tg] X.env).map (·.2)=[assign tg X.env]:=by rfl):PS X (.Assign [tg] e pos) (tAsg te g):=by
  intro pins s σ H D I h
  refine wpAny_Assign_stores (thn (he pins s σ H _ I h) fun v s1 ⟨x,H1,I1,r1,q1⟩=>?_) hs hw
  rw [h1]
  exact thn (hg pins s1 σ H1 x v _ I1 r1 q1) fun _ s2 q=>q
theorem ps_set {i:Nat} {x:Str} {e:Expr} {te:TE} {pos':Pos} (hN:X.N.Nodup) (hi:X.N[i]? = some x) (hx:Loc X.env.scope x) (he:PE X e te) (hs:swapsWith e (some (.Name x pos')) pos.line X.env=pure false:=by rfl) (hf:X.fn x=true∨X.env.scope.names.lookup x=some .local:=by first | exact .inl rfl | exact .inr rfl | assumption) :
    PS X (.Assign [.Name x pos'] e pos) (tAsg te (gName i)):=by
  intro pins s σ H D I h
  refine wpAny_Assign_Name (thn (he pins s σ H _ I h) fun v s1 ⟨y,H1,I1,r1,q1⟩=>?_) hs
  exact store_ok I1 hN hi hx r1 (fun s2 I2=>⟨_,H1,I2,q1⟩) hf
end
section
variable {X:Cx} {pos:Pos}
def tWhile (c:TT) (tb:TS):TS:=fun D σ H=>∃W:Nat→St→Hp→Prop,(∃m,W m σ H)∧∀m σ H,W m σ H→
  c σ H fun b H1=>if b=true then ∃N:St→Hp→Prop,(∀σ' H',N σ' H'→∃m',m' < m∧W m' σ' H')∧tb { D with nx:=N,ct:=N,bk:=D.nx } σ H1 else D.nx σ H1
theorem ps_while {c:Expr} {body:List Stmt} {tc:TT} {tb:TS} (hp:PassesOwn (model X.prog X.w) X.A X.env X.xe) (hc:PT X c tc) (hb:PSs X body tb):PS X (.While c body [] pos) (tWhile tc tb):=by
  intro pins s σ H D I h
  obtain ⟨W,⟨m0,w0⟩,turn⟩:=h
  refine wpAny_While (codeAny_whileLoop (fun n s'=>∃σ' H',Inv X pins σ' H' s'∧W n σ' H') ?_ m0 ⟨σ,H,I,w0⟩)
  rintro n s1 ⟨σ1,H1,I1,w1⟩
  refine wpAny_passesOwn hp (thn (hc pins s1 σ1 H1 _ I1 (turn n σ1 H1 w1)) fun b s2 ⟨H2,I2,q2⟩=>?_)
  cases b with
  | true=>
    obtain ⟨N,hN,q2⟩:=q2
    rw [if_pos rfl]
    refine wpAny_passesOwn hp (thn (hb pins s2 σ1 H2 _ I2 q2) fun f s3 q3=>?_)
    cases f with
    | next=>
      obtain ⟨σ3,H3,I3,n3⟩:=q3
      obtain ⟨m',hm,w3⟩:=hN σ3 H3 n3
      exact ⟨m',hm,σ3,H3,I3,w3⟩
    | cont=>
      obtain ⟨σ3,H3,I3,n3⟩:=q3
      obtain ⟨m',hm,w3⟩:=hN σ3 H3 n3
      exact ⟨m',hm,σ3,H3,I3,w3⟩
    | brk=>exact q3
    | ret v=>exact q3
  | false=>
    rw [if_neg Bool.false_ne_true]
    exact wpAny_execs_nil ⟨σ1,H2,I2,q2⟩
end
structure It where
  go:Nat→Hp→Prop
  yld:Nat→Hp→V→Hp→Prop
  stop:Nat→Hp→Prop
def FpOk (X:Cx) (pins:List (Addr × Obj)) (H:Hp) (b:Addr):Prop:=
  H b=none∧b≠X.env.locals∧b∉X.fs∧(b∈X.ex∨X.s₀.heap.objs.size≤b)∧(∀x c,X.env.cells.lookup x=some c→c≠b)∧∀p∈X.pn++pins,p.1≠b
theorem Inv.fpOk {X:Cx} {pins:List (Addr × Obj)} {σ:St} {H H':Hp} {s:Shared} {b:Addr} (I:Inv X pins σ H s) (hb:s.heap.objs.size≤b) (hn:H' b=none):FpOk X pins H' b:=by
  refine ⟨hn,Nat.ne_of_gt (Nat.lt_of_lt_of_le I.lt hb),I.nofs hb,.inr (Nat.le_trans I.sz hb),fun x c e z=>?_,fun p hp z=>?_⟩
  · obtain ⟨v,q⟩:=I.cell x c e
    exact absurd (Nat.lt_of_lt_of_le q.lt (by rw [z]; exact hb)) (Nat.lt_irrefl _)
  · exact absurd (Nat.lt_of_lt_of_le (Heap.lt_size (I.pin p hp).1) (by rw [z]; exact hb)) (Nat.lt_irrefl _)
structure Turn (P:Program) (w:World) (K:PySem.W.Frag) (tg:Expr) (J:It) (fp:List Addr) (it:Addr) (tn:Nat→Heap→Prop):Prop where
  mem:it∈fp
  obj:∀i h,tn i h→∀b∈fp,∃o,h.get? b=some o∧∀v,o.data≠.cell v
  keep:∀i h h',tn i h→(∀b∈fp,∀o,h.get? b=some o→h'.get? b=some o)→tn i h'
  item:∀(X:Cx),X.prog=P→X.w=w→X.K=K→X.calm=true→∀(i:Nat) (pins:List (Addr × Obj)) (s:Shared) (σ:St) (H:Hp) (E:Value→Shared→Prop),Inv X pins σ H s→(∀b∈fp,FpOk X pins H b)→tn i s.heap→J.go i H→
    wpAny (model P w) X.A (pyNext (.ref it)) (fun r s1=>∃u,r=some u∧
      wpAny (model P w) X.A (letOwnedTupleGo tg (.ref it) u) (fun _ s2=>∃x H',Inv X pins σ H' s2∧RelV x u∧J.yld i H x H'∧tn (i + 1) s2.heap∧∀b∈fp,H' b=none) E s1) E s
  done:∀(X:Cx),X.prog=P→X.w=w→X.K=K→X.calm=true→∀(i:Nat) (pins:List (Addr × Obj)) (s:Shared) (σ:St) (H:Hp) (E:Value→Shared→Prop),Inv X pins σ H s→(∀b∈fp,FpOk X pins H b)→tn i s.heap→J.stop i H→
    wpAny (model P w) X.A (pyNext (.ref it)) (fun r s1=>r=none∧Inv X pins σ H s1) E s
  self:∀(A:Around) (i:Nat) (s:Shared) (Q:Value→Shared→Prop) (E:Value→Shared→Prop),tn i s.heap→Q (.ref it) s→wpAny (model P w) A (pyIter (.ref it)) Q E s
abbrev TI:=St→Hp→(It→Hp→Prop)→Prop
def PIE (X:Cx) (pins:List (Addr × Obj)) (σ:St) (tg:Expr) (R:It→Hp→Prop) (itv:Value) (s2:Shared):Prop:=
  ∃(it:Addr) (fp:List Addr) (tn:Nat→Heap→Prop) (J:It) (H':Hp),itv = .ref it∧Inv X pins σ H' s2∧Turn X.prog X.w X.K tg J fp it tn∧tn 0 s2.heap∧(∀b∈fp,FpOk X pins H' b)∧R J H'
def PI (X:Cx) (tg iter:Expr) (wi:TI):Prop:=
  ∀(pins:List (Addr × Obj)) (s:Shared) (σ:St) (H:Hp) (R:It→Hp→Prop),Inv X pins σ H s→wi σ H R→
    wpAny (model X.prog X.w) X.A (eval iter X.env) (fun v s1=>wpAny (model X.prog X.w) X.A (pyIter v) (PIE X pins σ tg R) X.xe s1) X.xe s
theorem go_of {M:Model} {A:Around} {E:Value→Shared→Prop} {s:Shared} {tg:Expr} {it:Addr} {u:Value} {o:Obj} {n:String} {vs:Array Value} {Q:Unit→Shared→Prop} (ho:s.heap.get? it=some o) (hc:o.cls = .type n) (hd:o.data = .fields vs)
    (hn:["enumerate","zip","dict_itemiterator","dict_reverseitemiterator","odict_iterator","itertools.zip_longest","itertools.pairwise"].contains n=false) (hQ:Q () s):wpAny M A (letOwnedTupleGo tg (.ref it) u) Q E s:=by
  unfold letOwnedTupleGo
  cases tg <;> first
    | exact wpAny_pure hQ
    | (cases u <;> first
        | exact wpAny_pure hQ
        | (refine wpAny_bind (wpAny_load ho ?_)
           rw [hc,hd]
           show wpAny M A (if (["enumerate","zip","dict_itemiterator","dict_reverseitemiterator","odict_iterator","itertools.zip_longest","itertools.pairwise"].contains n && vs[0]? == some (rawInt _))=true then _ else _) Q E s
           rw [if_neg (by intro h; rw [hn,Bool.false_and] at h; cases h)]
           exact wpAny_pure hQ))
def Itl (K:PySem.W.Frag) (a:Addr):It:=
  ⟨fun i H=>∃xs x,SqL K H a xs∧xs[i]? = some x,fun i H x H'=>H' = H∧∀xs,SqL K H a xs→xs[i]? = some x,fun i H=>∃xs,SqL K H a xs∧xs.length≤i⟩
def Itt (K:PySem.W.Frag) (a:Addr):It:=
  ⟨fun i H=>∃xs x,SqT K H a xs∧xs[i]? = some x,fun i H x H'=>H' = H∧∀xs,SqT K H a xs→xs[i]? = some x,fun i H=>∃xs,SqT K H a xs∧xs.length≤i⟩
def Itr (lo:Int) (n:Nat):It:=⟨fun i _=>i < n,fun i H x H'=>H' = H∧x = .int (lo + i),fun i _=>n≤i⟩
theorem turn_list {P:Program} {w:World} {K:PySem.W.Frag} {tg:Expr} (a it:Addr):Turn P w K tg (Itl K a) [it] it (fun i h=>h.IsListIter it a i) where
  mem:=by simp
  obj:=fun i h st b hb=>by
    have e:b=it:=by simpa using hb
    subst e
    obtain ⟨o,e,c,d⟩:=st
    exact ⟨o,e,fun v z=>by rw [d] at z; cases z⟩
  keep:=fun i h h' st k=>st.at fun o e=>k it (by simp) o e
  item:=by
    intro X hP hw hK hc i pins s σ H E I hf st hg
    subst hP hw hK
    obtain ⟨xs,x,hq,hx⟩:=hg
    obtain ⟨its,rv,p,hz⟩:=I.list hq
    obtain ⟨u,hu,ru⟩:=rv.get hx
    obtain ⟨f0,f1,f2,f3,f4,f5⟩:=hf it (by simp)
    refine wpAny_pyNext_list_item st p.isList (x:=u) (by simpa using hu) fun h' st' sb=>?_
    have I1:Inv X pins σ H { s with heap:=h' }:=I.turned (t':=s.toks) (fun b o hb e=>(sb.2 b hb).trans e) f0 f1 f3 f4 f5
    obtain ⟨o,e,c,d⟩:=id st'
    exact ⟨u,rfl,go_of (s:={ s with heap:=h' }) e c d (by decide) ⟨x,H,I1,ru,⟨rfl,fun ys hy=>by rw [I.list_inj hy hq]; exact hx⟩,st',fun b hb=>(hf b hb).1⟩⟩
  done:=by
    intro X hP hw hK hc i pins s σ H E I hf st hg
    subst hP hw hK
    obtain ⟨xs,hq,hx⟩:=hg
    obtain ⟨its,rv,p,hz⟩:=I.list hq
    obtain ⟨f0,f1,f2,f3,f4,f5⟩:=hf it (by simp)
    have hl:=rv.length
    exact wpAny_pyNext_list_end (I.ok.hd hc) st p.isList (by simp; omega) fun h' eb=>⟨rfl,I.turned (t':=s.toks) (fun b o hb e=>eb b o hb e) f0 f1 f3 f4 f5⟩
  self:=fun _ _ _ _ _ st h=>wpAny_pyIter_listiter st h
theorem turn_tuple {P:Program} {w:World} {K:PySem.W.Frag} {tg:Expr} (a it:Addr):Turn P w K tg (Itt K a) [it] it (fun i h=>h.IsTupleIter it a i) where
  mem:=by simp
  obj:=fun i h st b hb=>by
    have e:b=it:=by simpa using hb
    subst e
    obtain ⟨o,e,c,d⟩:=st
    exact ⟨o,e,fun v z=>by rw [d] at z; cases z⟩
  keep:=fun i h h' st k=>st.at fun o e=>k it (by simp) o e
  item:=by
    intro X hP hw hK hc i pins s σ H E I hf st hg
    subst hP hw hK
    obtain ⟨xs,x,hq,hx⟩:=hg
    obtain ⟨its,rv,p,hz⟩:=I.tuple hq
    obtain ⟨u,hu,ru⟩:=rv.get hx
    obtain ⟨f0,f1,f2,f3,f4,f5⟩:=hf it (by simp)
    refine wpAny_pyNext_tuple_item st (show s.heap.IsTuple a its.toArray from p) (x:=u) (by simpa using hu) fun h' st' sb=>?_
    have I1:Inv X pins σ H { s with heap:=h' }:=I.turned (t':=s.toks) (fun b o hb e=>(sb.2 b hb).trans e) f0 f1 f3 f4 f5
    obtain ⟨o,e,c,d⟩:=id st'
    exact ⟨u,rfl,go_of (s:={ s with heap:=h' }) e c d (by decide) ⟨x,H,I1,ru,⟨rfl,fun ys hy=>by rw [I.tuple_inj hy hq]; exact hx⟩,st',fun b hb=>(hf b hb).1⟩⟩
  done:=by
    intro X hP hw hK hc i pins s σ H E I hf st hg
    subst hP hw hK
    obtain ⟨xs,hq,hx⟩:=hg
    obtain ⟨its,rv,p,hz⟩:=I.tuple hq
    obtain ⟨f0,f1,f2,f3,f4,f5⟩:=hf it (by simp)
    have hl:=rv.length
    exact wpAny_pyNext_tuple_end (I.ok.hd hc) st (show s.heap.IsTuple a its.toArray from p) (by simp; omega) fun h' eb=>⟨rfl,I.turned (t':=s.toks) (fun b o hb e=>eb b o hb e) f0 f1 f3 f4 f5⟩
  self:=fun _ _ _ _ _ st h=>wpAny_pyIter_tupleiter st h
theorem turn_range {P:Program} {w:World} {K:PySem.W.Frag} {tg:Expr} (it:Addr) (lo:Int) (n:Nat):Turn P w K tg (Itr lo n) [it] it (fun i h=>IsRangeIter h it (lo + (i:Nat) * 1) ((n:Int) - (i:Nat)) 1) where
  mem:=by simp
  obj:=fun i h st b hb=>by
    have e:b=it:=by simpa using hb
    subst e
    exact ⟨_,st,fun v z=>by
      have z':Data.fields _=Data.cell v:=z
      cases z'⟩
  keep:=fun i h h' st k=>k it (by simp) _ st
  item:=by
    intro X hP hw hK hc i pins s σ H E I hf st hg
    subst hP hw hK
    obtain ⟨f0,f1,f2,f3,f4,f5⟩:=hf it (by simp)
    have W:=Walks.range (prog:=X.prog) (w:=X.w) (I.ok.hd hc) it lo 1 n
    refine W.item i s _ _ hg st fun v h' tk hv st' kk=>?_
    obtain ⟨t,rfl⟩:=hv
    have I1:Inv X pins σ H { s with heap:=h',toks:=tk }:=I.turned (fun b o hb e=>kk b o (by simpa using hb) e) f0 f1 f3 f4 f5
    refine ⟨_,rfl,go_of (s:={ s with heap:=h',toks:=tk }) (n:="range_iterator") st' rfl rfl (by decide) ⟨.int (lo + i),H,I1,⟨t,?_⟩,⟨rfl,rfl⟩,st',fun b hb=>(hf b hb).1⟩⟩
    rw [Int.mul_one]
  done:=by
    intro X hP hw hK hc i pins s σ H E I hf st hg
    subst hP hw hK
    obtain ⟨f0,f1,f2,f3,f4,f5⟩:=hf it (by simp)
    exact wpAny_pyNext_range_end (I.ok.hd hc) st (by have:n≤i:=hg; omega) fun h' eb=>⟨rfl,I.turned (t':=s.toks) (fun b o hb e=>eb b o hb e) f0 f1 f3 f4 f5⟩
  self:=fun _ _ _ _ _ st h=>wpAny_pyIter_rangeiter st h
end L2
namespace L2
open PySem PySem.Spec PyProof.Rows
section
variable {X:Cx} {tg:Expr}
def iList (K:PySem.W.Frag) (tl:TE):TI:=fun σ H R=>tl σ H fun x H1=>∃a,x = .ref a∧(∃xs,SqL K H1 a xs)∧R (Itl K a) H1
def iTup (K:PySem.W.Frag) (tl:TE):TI:=fun σ H R=>tl σ H fun x H1=>∃a,x = .ref a∧(∃xs,SqT K H1 a xs)∧R (Itt K a) H1
theorem pi_list {l:Expr} {tl:TE} (hl:PE X l tl):PI X tg l (iList X.K tl):=by
  intro pins s σ H R I h
  refine thn (hl pins s σ H _ I h) fun v s1 ⟨x,H1,I1,r1,q1⟩=>?_
  obtain ⟨a,e,⟨xs,hq⟩,q⟩:=q1
  subst e
  cases r1
  obtain ⟨its,rv,p,hz⟩:=I1.list hq
  refine wpAny_pyIter_list p.isList ?_
  refine ⟨s1.heap.objs.size,[s1.heap.objs.size],_,_,H1,rfl,I1.kept (t':=s1.toks) fun b o e=>Heap.get?_push_of_some _ e,turn_list a _,⟨_,Heap.get?_push_size _ rfl,rfl,rfl⟩,fun b hb=>?_,q⟩
  have e:b=s1.heap.objs.size:=by simpa using hb
  subst e
  exact I1.fpOk (Nat.le_refl _) (I1.hok.fresh (Nat.le_refl _))
theorem pi_tup {l:Expr} {tl:TE} (hl:PE X l tl):PI X tg l (iTup X.K tl):=by
  intro pins s σ H R I h
  refine thn (hl pins s σ H _ I h) fun v s1 ⟨x,H1,I1,r1,q1⟩=>?_
  obtain ⟨a,e,⟨xs,hq⟩,q⟩:=q1
  subst e
  cases r1
  obtain ⟨its,rv,p,hz⟩:=I1.tuple hq
  refine wpAny_pyIter_tuple (show s1.heap.IsTuple a its.toArray from p) ?_
  refine ⟨s1.heap.objs.size,[s1.heap.objs.size],_,_,H1,rfl,I1.kept (t':=s1.toks) fun b o e=>Heap.get?_push_of_some _ e,turn_tuple a _,⟨_,Heap.get?_push_size _ rfl,rfl,rfl⟩,fun b hb=>?_,q⟩
  have e:b=s1.heap.objs.size:=by simpa using hb
  subst e
  exact I1.fpOk (Nat.le_refl _) (I1.hok.fresh (Nat.le_refl _))
theorem range_it {pins:List (Addr × Obj)} {σ:St} {H:Hp} {s:Shared} {R:It→Hp→Prop} {E:Value→Shared→Prop} {lo hi:Int} {t u v:Tok} {tk:Nat} (I:Inv X pins σ H s) (h1:-(2 ^ 62)≤lo) (h2:lo < 2 ^ 62) (h3:-(2 ^ 62)≤hi) (h4:hi < 2 ^ 62)
    (q:R (Itr lo (hi - lo).toNat) H):wpAny (model X.prog X.w) X.A (pyIter (.ref s.heap.objs.size)) (PIE X pins σ tg R) E { s with heap:=s.heap.push { cls:=.type "range",data:=.fields #[.int lo t,.int hi u,.int 1 v] },toks:=tk }:=by
  refine wpAny_pyIter_range (IsRange.new ..) (small_one h1 h2 h3 h4) ?_
  have I1:Inv X pins σ H { s with heap:=s.heap.push { cls:=.type "range",data:=.fields #[.int lo t,.int hi u,.int 1 v] },toks:=tk }:=I.kept fun b o e=>Heap.get?_push_of_some _ e
  refine ⟨(s.heap.push { cls:=.type "range",data:=.fields #[.int lo t,.int hi u,.int 1 v] }).objs.size,[(s.heap.push { cls:=.type "range",data:=.fields #[.int lo t,.int hi u,.int 1 v] }).objs.size],_,_,H,rfl,
    I1.kept (t':=tk) fun b o e=>Heap.get?_push_of_some _ e,turn_range _ lo (hi - lo).toNat,?_,fun b hb=>?_,q⟩
  · have e1:lo + ((0:Nat):Int) * 1=lo:=by simp
    have e2:(((hi - lo).toNat:Nat):Int) - ((0:Nat):Int)=Builtin.Range.rangeSize lo hi 1:=by rw [rangeSize_one]; split <;> omega
    show IsRangeIter _ _ (lo + ((0:Nat):Int) * 1) ((((hi - lo).toNat:Nat):Int) - ((0:Nat):Int)) 1
    rw [e1,e2]
    exact Heap.get?_push_size _ rfl
  · have e:b=(s.heap.push { cls:=.type "range",data:=.fields #[.int lo t,.int hi u,.int 1 v] }).objs.size:=by simpa using hb
    subst e
    exact I1.fpOk (Nat.le_refl _) (I1.hok.fresh (Nat.le_refl _))
def iRng1 (ta:TA):TI:=fun σ H R=>ta σ H fun vs H1=>∃j:Int,vs=[.int j]∧-(2 ^ 62)≤j∧j < 2 ^ 62∧R (Itr 0 j.toNat) H1
def iRng2 (ta:TA):TI:=fun σ H R=>ta σ H fun vs H1=>∃i j:Int,vs=[.int i,.int j]∧(-(2 ^ 62)≤i∧i < 2 ^ 62∧-(2 ^ 62)≤j∧j < 2 ^ 62)∧R (Itr i (j - i).toNat) H1
theorem pi_range1 {a:Expr} {ta:TA} {p pos:Pos} (hg:Gl X "range") (hm:X.mg "range" = none) (ha:PA X [a] ta) (hs:starEach [a] X.env=[(false,eval a X.env)]:=by rfl):PI X tg (.Call (.Name "range" p) [a] [] pos) (iRng1 ta):=by
  intro pins s σ H R I h
  refine Call_ (ld_blt I hg hm boot_range (PyProof.Rows.callWith_type1 (thn (ha pos pins s σ H _ I h) fun us s1 ⟨vs,H1,I1,r1,q1⟩=>?_) hs rfl))
  obtain ⟨j,e,q1,q2,q⟩:=q1
  subst e
  cases r1 with
  | cons r rr=>
    cases rr
    obtain ⟨t,rfl⟩:=r
    exact call_range_1 (range_it I1 (by omega) (by omega) q1 q2 (by simpa using q))
theorem pi_range2 {a b:Expr} {ta:TA} {p pos:Pos} (hg:Gl X "range") (hm:X.mg "range" = none) (ha:PA X [a,b] ta) (hs:starEach [a,b] X.env=[(false,eval a X.env),(false,eval b X.env)]:=by rfl) (hs2:starEach [b] X.env=[(false,eval b X.env)]:=by rfl) :
    PI X tg (.Call (.Name "range" p) [a,b] [] pos) (iRng2 ta):=by
  intro pins s σ H R I h
  refine Call_ (ld_blt I hg hm boot_range (PyProof.Rows.callWith_type1 (thn (ha pos pins s σ H _ I h) fun us s1 ⟨vs,H1,I1,r1,q1⟩=>?_) (by rw [hs,hs2]) (by rw [hs2]; rfl)))
  obtain ⟨i,j,e,⟨q1,q2,q3,q4⟩,q⟩:=q1
  subst e
  cases r1 with
  | cons r rr=>
    cases rr with
    | cons r' rr=>
      cases rr
      obtain ⟨t,rfl⟩:=r
      obtain ⟨t',rfl⟩:=r'
      exact call_range_2 (range_it I1 q1 q2 q3 q4 q)
def tFor (wi:TI) (g:TG) (tb:TS):TS:=fun D σ H=>wi σ H fun J H1=>∃W:Nat→Nat→St→Hp→Prop,(∃m,W 0 m σ H1)∧∀i m σ H,W i m σ H→
  (J.stop i H∧D.nx σ H)∨(J.go i H∧∃N:St→Hp→Prop,(∀σ' H',N σ' H'→∃m',m' < m∧W (i + 1) m' σ' H')∧∀x H',J.yld i H x H'→g x σ H' fun σ2 H2=>tb { D with nx:=N,ct:=N,bk:=D.nx } σ2 H2)
def pinsAt (fp:List Addr) (h:Heap):List (Addr × Obj):=fp.filterMap fun b=>(h.get? b).map fun o=>(b,o)
theorem mem_pinsAt {fp:List Addr} {h:Heap} {b:Addr} {o:Obj} (hb:b∈fp) (e:h.get? b=some o):(b,o)∈pinsAt fp h:=List.mem_filterMap.mpr ⟨b,hb,by rw [e]; rfl⟩
theorem of_pinsAt {fp:List Addr} {h:Heap} {p:Addr × Obj} (hp:p∈pinsAt fp h):p.1∈fp∧h.get? p.1=some p.2:=by
  obtain ⟨b,hb,e⟩:=List.mem_filterMap.mp hp
  cases q:h.get? b with
  | none=>rw [q] at e; cases e
  | some o=>
    rw [q] at e
    have e':(b,o)=p:=Option.some.inj e
    subst e'
    exact ⟨hb,q⟩
theorem Inv.pinned {pins:List (Addr × Obj)} {σ:St} {H:Hp} {s:Shared} {fp:List Addr} (I:Inv X pins σ H s) (hf:∀b∈fp,FpOk X pins H b) (ho:∀b∈fp,∃o,s.heap.get? b=some o∧∀v,o.data≠.cell v):Inv X (pins++pinsAt fp s.heap) σ H s:=
  I.pins_of fun p hp=>(List.mem_append.mp hp).elim (fun z=>I.pin p (List.mem_append_right _ z)) fun z=>by
    obtain ⟨hb,e⟩:=of_pinsAt z
    obtain ⟨f0,f1,f2,_⟩:=hf p.1 hb
    obtain ⟨o,e',d⟩:=ho p.1 hb
    rw [e] at e'; cases e'
    exact ⟨e,f0,f1,f2,d⟩
theorem Inv.unpinned {pins pl:List (Addr × Obj)} {σ:St} {H:Hp} {s:Shared} (I:Inv X (pins++pl) σ H s):Inv X pins σ H s:=I.pins_of fun p hp=>I.pin p (List.mem_append_right _ (List.mem_append_left _ hp))
theorem ps_for {iter:Expr} {body:List Stmt} {wi:TI} {g:TG} {tb:TS} {pos:Pos} (hp:PassesOwn (model X.prog X.w) X.A X.env X.xe) (hc:X.calm=true) (hi:PI X tg iter wi) (hg:PG X tg g) (hb:PSs X body tb)
    (hs:∀x,foldedSetIterable iter X.env x=pure x:=by intro _; rfl):PS X (.For tg iter body [] pos) (tFor wi g tb):=by
  intro pins s σ H D I h
  refine wpAny_For (thn (hi pins s σ H _ I h) fun v s1 h1=>thn h1 fun itv s2 h2=>?_) hs
  obtain ⟨it,fp,tn,J,H2,e,I2,T,st2,f2,W,⟨m0,w0⟩,turn⟩:=h2
  subst e
  have stat:∀{H':Hp},(∀b∈fp,H' b=none)→∀b∈fp,FpOk X pins H' b:=fun hn b hb=>⟨hn b hb,(f2 b hb).2⟩
  refine codeAny_forLoop_any (fun n s'=>∃i σ' H',Inv X pins σ' H' s'∧tn i s'.heap∧(∀b∈fp,H' b=none)∧W i n σ' H') ?_ m0 ⟨0,σ,H2,I2,st2,fun b hb=>(f2 b hb).1,w0⟩
  rintro n s3 ⟨i,σ3,H3,I3,st3,fr3,w3⟩
  rcases turn i n σ3 H3 w3 with ⟨stop,qn⟩ | ⟨go,N,hN,step⟩
  · refine wpAny_passesOwn hp (thn (T.done X rfl rfl rfl hc i pins s3 σ3 H3 X.xe I3 (stat fr3) st3 stop) fun r s4 ⟨hr,I4⟩=>?_)
    subst hr
    exact wpAny_execs_nil ⟨σ3,H3,I4,qn⟩
  · refine wpAny_passesOwn hp (thn (T.item X rfl rfl rfl hc i pins s3 σ3 H3 X.xe I3 (stat fr3) st3 go) fun r s4 ⟨u,hr,h4⟩=>?_)
    subst hr
    refine wpAny_passesOwn hp (thn h4 fun _ s5 ⟨x,H5,I5,r5,y5,st5,fr5⟩=>?_)
    have I5':=I5.pinned (stat fr5) (T.obj _ _ st5)
    refine wpAny_passesOwn hp (thn (hg _ s5 σ3 H5 x u _ I5' r5 (step x H5 y5)) fun _ s6 ⟨σ6,H6,I6,q6⟩=>?_)
    refine wpAny_passesOwn hp (thn (hb _ s6 σ6 H6 _ I6 q6) fun f s7 q7=>?_)
    have again:∀{σ7:St} {H7:Hp},Inv X (pins++pinsAt fp s5.heap) σ7 H7 s7→N σ7 H7→∃m,m < n∧∃i σ' H',Inv X pins σ' H' s7∧tn i s7.heap∧(∀b∈fp,H' b=none)∧W i m σ' H':=fun {σ7 H7} I7 n7=>by
      obtain ⟨m',hm,w7⟩:=hN σ7 H7 n7
      refine ⟨m',hm,i + 1,σ7,H7,I7.unpinned,T.keep _ _ _ st5 fun b hb o e=>(I7.pin (b,o) (List.mem_append_right _ (List.mem_append_right _ (mem_pinsAt hb e)))).1,fun b hb=>?_,w7⟩
      obtain ⟨o,e,d⟩:=T.obj _ _ st5 b hb
      exact (I7.pin (b,o) (List.mem_append_right _ (List.mem_append_right _ (mem_pinsAt hb e)))).2.1
    cases f with
    | next=>obtain ⟨σ7,H7,I7,n7⟩:=q7; exact again I7 n7
    | cont=>obtain ⟨σ7,H7,I7,n7⟩:=q7; exact again I7 n7
    | brk=>obtain ⟨σ7,H7,I7,q7⟩:=q7; exact ⟨σ7,H7,I7.unpinned,q7⟩
    | ret v=>obtain ⟨x7,σ7,H7,I7,r7,q7⟩:=q7; exact ⟨x7,σ7,H7,I7.unpinned,r7,q7⟩
end
theorem for_list {K:PySem.W.Frag} {a:Addr} {xs:List V} {g:TG} {tb:TS} {D:Ends} {σ:St} {H:Hp} (Pv:Nat→St→Hp→Prop) (h0:Pv 0 σ H) (hl:∀i σ H,i≤xs.length→Pv i σ H→SqL K H a xs)
    (hs:∀i x σ H,xs[i]? = some x→Pv i σ H→g x σ H fun σ2 H2=>tb { D with nx:=Pv (i + 1),ct:=Pv (i + 1),bk:=D.nx } σ2 H2) (hd:∀σ H,Pv xs.length σ H→D.nx σ H) :
    ∃W:Nat→Nat→St→Hp→Prop,(∃m,W 0 m σ H)∧∀i m σ H,W i m σ H→
      ((Itl K a).stop i H∧D.nx σ H)∨((Itl K a).go i H∧∃N:St→Hp→Prop,(∀σ' H',N σ' H'→∃m',m' < m∧W (i + 1) m' σ' H')∧∀x H',(Itl K a).yld i H x H'→g x σ H' fun σ2 H2=>tb { D with nx:=N,ct:=N,bk:=D.nx } σ2 H2):=by
  refine ⟨fun i m σ H=>m=xs.length - i∧i≤xs.length∧Pv i σ H,⟨xs.length,by simp,Nat.zero_le _,h0⟩,?_⟩
  rintro i m σ H ⟨rfl,hi,p⟩
  have q:=hl i σ H hi p
  by_cases hlt:i < xs.length
  · refine .inr ⟨⟨xs,xs[i],q,by simp [hlt]⟩,Pv (i + 1),fun σ' H' p'=>⟨xs.length - (i + 1),by omega,rfl,hlt,p'⟩,fun x H' y=>?_⟩
    obtain ⟨e,y⟩:=y
    subst e
    exact hs i x σ _ (y xs q) p
  · have e:i=xs.length:=by omega
    subst e
    exact .inl ⟨⟨xs,q,Nat.le_refl _⟩,hd σ H p⟩
theorem for_range {lo:Int} {n:Nat} {g:TG} {tb:TS} {D:Ends} {σ:St} {H:Hp} (Pv:Nat→St→Hp→Prop) (h0:Pv 0 σ H)
    (hs:∀i σ H,i < n→Pv i σ H→g (.int (lo + i)) σ H fun σ2 H2=>tb { D with nx:=Pv (i + 1),ct:=Pv (i + 1),bk:=D.nx } σ2 H2) (hd:∀σ H,Pv n σ H→D.nx σ H) :
    ∃W:Nat→Nat→St→Hp→Prop,(∃m,W 0 m σ H)∧∀i m σ H,W i m σ H→
      ((Itr lo n).stop i H∧D.nx σ H)∨((Itr lo n).go i H∧∃N:St→Hp→Prop,(∀σ' H',N σ' H'→∃m',m' < m∧W (i + 1) m' σ' H')∧∀x H',(Itr lo n).yld i H x H'→g x σ H' fun σ2 H2=>tb { D with nx:=N,ct:=N,bk:=D.nx } σ2 H2):=by
  refine ⟨fun i m σ H=>m=n - i∧i≤n∧Pv i σ H,⟨n,by simp,Nat.zero_le _,h0⟩,?_⟩
  rintro i m σ H ⟨rfl,hi,p⟩
  by_cases hlt:i < n
  · refine .inr ⟨hlt,Pv (i + 1),fun σ' H' p'=>⟨n - (i + 1),by omega,rfl,hlt,p'⟩,fun x H' y=>?_⟩
    obtain ⟨e,y⟩:=y
    subst e y
    exact hs i σ _ hlt p
  · have e:i=n:=by omega
    subst e
    exact .inl ⟨Nat.le_refl _,hd σ H p⟩
end L2
namespace L2
open PySem PySem.Spec PyProof.Rows
abbrev R2:=V→V→Hp→VK→Prop
def OpR (X:Cx) (f:Value→Value→Sem Value) (r:R2):Prop:=
  ∀(pins:List (Addr × Obj)) (s:Shared) (σ:St) (H:Hp) (x y:V) (v u:Value) (Q:VK),Inv X pins σ H s→RelV x v→RelV y u→r x y H Q→
    wpAny (model X.prog X.w) X.A (f v u) (EP X pins σ Q) X.xe s
def UnR (X:Cx) (f:Value→Sem Value) (r:V→Hp→VK→Prop):Prop:=
  ∀(pins:List (Addr × Obj)) (s:Shared) (σ:St) (H:Hp) (x:V) (v:Value) (Q:VK),Inv X pins σ H s→RelV x v→r x H Q→
    wpAny (model X.prog X.w) X.A (f v) (EP X pins σ Q) X.xe s
def CallR (X:Cx) (f:Value) (r:List V→Hp→VK→Prop):Prop:=
  ∀(pins:List (Addr × Obj)) (s:Shared) (σ:St) (H:Hp) (xs:List V) (us:List Value) (Q:VK),Inv X pins σ H s→Vals xs us→r xs H Q→
    wpAny (model X.prog X.w) X.A (call f us) (EP X pins σ Q) X.xe s
def tOp (r:R2) (ta tb:TE):TE:=fun σ H Q=>ta σ H fun x H1=>tb σ H1 fun y H2=>r x y H2 Q
def tUn (r:V→Hp→VK→Prop) (ta:TE):TE:=fun σ H Q=>ta σ H fun x H1=>r x H1 Q
def rI (C:Int→Int→Prop) (g:Int→Int→V):R2:=fun x y H Q=>∃i j,x = .int i∧y = .int j∧C i j∧Q (g i j) H
def rI0 (g:Int→Int→V):R2:=fun x y H Q=>∃i j,x = .int i∧y = .int j∧Q (g i j) H
def rU (g:Int→V):V→Hp→VK→Prop:=fun x H Q=>∃i,x = .int i∧Q (g i) H
section
variable {X:Cx} {a b c:Expr} {ta tb tc:TE} {pos:Pos}
theorem binT (ha:PE X a ta) (hb:PE X b tb) {pins:List (Addr × Obj)} {s:Shared} {σ:St} {H:Hp} {R:V→V→Hp→Prop} (I:Inv X pins σ H s)
    (h:ta σ H fun x H1=>tb σ H1 fun y H2=>R x y H2) {Q:Value→Shared→Prop} {f:Value→Value→Sem Value}
    (hf:∀v u s2 x y H2,Inv X pins σ H2 s2→RelV x v→RelV y u→R x y H2→wpAny (model X.prog X.w) X.A (f v u) Q X.xe s2) :
    wpAny (model X.prog X.w) X.A (eval a X.env) (fun v s₁=>wpAny (model X.prog X.w) X.A (eval b X.env) (fun u s₂=>wpAny (model X.prog X.w) X.A (f v u) Q X.xe s₂) X.xe s₁) X.xe s:=by
  refine thn (ha pins s σ H _ I h) fun v s1 ⟨x,H1,I1,r1,q1⟩=>?_
  refine thn (hb pins s1 σ H1 _ I1 q1) fun u s2 ⟨y,H2,I2,r2,q2⟩=>?_
  exact hf v u s2 x y H2 I2 r1 r2 q2
theorem pe_op {op:Operator} {r:R2} (ho:OpR X (binaryOp op) r) (ha:PE X a ta) (hb:PE X b tb):PE X (.BinOp a op b pos) (tOp r ta tb):=by
  intro pins s σ H Q I h
  exact wpAny_BinOp (binT ha hb I h fun v u s2 x y H2 I2 rx ry q=>ho pins s2 σ H2 x y v u Q I2 rx ry q)
theorem pe_un {op:UnaryOp} {r:V→Hp→VK→Prop} (ho:UnR X (unaryOp op) r) (ha:PE X a ta):PE X (.UnaryOp op a pos) (tUn r ta):=by
  intro pins s σ H Q I h
  exact UnaryOp_ (thn (ha pins s σ H _ I h) fun v s1 ⟨x,H1,I1,r1,q1⟩=>ho pins s1 σ H1 x v Q I1 r1 q1)
theorem opI {f:Value→Value→Sem Value} {C:Int→Int→Prop} {g:Int→Int→Int}
    (rule:∀(i j:Int) (t u:Tok) (s:Shared) (Q:Value→Shared→Prop) (E:Value→Shared→Prop),C i j→Q (.int (g i j) s.toks) { s with toks:=s.toks + 1 }→wpAny (model X.prog X.w) X.A (f (.int i t) (.int j u)) Q E s) :
    OpR X f (rI C fun i j=>.int (g i j)):=by
  intro pins s σ H x y v u Q I rx ry h
  obtain ⟨i,j,rfl,rfl,hc,q⟩:=h
  obtain ⟨t,rfl⟩:=rx
  obtain ⟨t',rfl⟩:=ry
  exact rule i j t t' s _ _ hc ⟨.int (g i j),H,I.tok _,⟨_,rfl⟩,q⟩
theorem opI0 {f:Value→Value→Sem Value} {g:Int→Int→Int}
    (rule:∀(i j:Int) (t u:Tok) (s:Shared) (Q:Value→Shared→Prop) (E:Value→Shared→Prop),Q (.int (g i j) s.toks) { s with toks:=s.toks + 1 }→wpAny (model X.prog X.w) X.A (f (.int i t) (.int j u)) Q E s) :
    OpR X f (rI0 fun i j=>.int (g i j)):=by
  intro pins s σ H x y v u Q I rx ry h
  obtain ⟨i,j,rfl,rfl,q⟩:=h
  obtain ⟨t,rfl⟩:=rx
  obtain ⟨t',rfl⟩:=ry
  exact rule i j t t' s _ _ ⟨.int (g i j),H,I.tok _,⟨_,rfl⟩,q⟩
theorem opB0 {f:Value→Value→Sem Value} {g:Int→Int→Bool}
    (rule:∀(i j:Int) (t u:Tok) (s:Shared) (Q:Value→Shared→Prop) (E:Value→Shared→Prop),Q (.bool (g i j)) s→wpAny (model X.prog X.w) X.A (f (.int i t) (.int j u)) Q E s) :
    OpR X f (rI0 fun i j=>.bl (g i j)):=by
  intro pins s σ H x y v u Q I rx ry h
  obtain ⟨i,j,rfl,rfl,q⟩:=h
  obtain ⟨t,rfl⟩:=rx
  obtain ⟨t',rfl⟩:=ry
  exact rule i j t t' s _ _ ⟨.bl (g i j),H,I,rfl,q⟩
def CDiv (i j:Int):Prop:=0 < j∧j < 1073741824
def CPow (i j:Int):Prop:=0≤j∧j≤1000000∧i.natAbs < 2 ^ 64
def CMul (i j:Int):Prop:=(-(2 ^ 64) < i∧i < 2 ^ 64)∨(-(2 ^ 64) < j∧j < 2 ^ 64)
theorem CMul.ok {i j:Int} (h:CMul i j):IntMulOk i j:=by
  rcases h with ⟨h1,h2⟩ | ⟨h1,h2⟩
  · exact .of_left (intBits_le_64 h1 h2)
  · exact .of_right (intBits_le_64 h1 h2)
theorem two_pow_nn (k:Nat):(0:Int)≤2 ^ k:=by
  rw [two_pow_cast]
  exact Int.natCast_nonneg _
theorem op_add:OpR X (binaryOp .Add) (rI0 fun i j=>.int (i + j)):=opI0 fun _ _ _ _ _ _ _ q=>add_int q
theorem op_sub:OpR X (binaryOp .Sub) (rI0 fun i j=>.int (i - j)):=opI0 fun _ _ _ _ _ _ _ q=>sub_int q
theorem op_mul:OpR X (binaryOp .Mult) (rI CMul fun i j=>.int (i * j)):=opI fun _ _ _ _ _ _ _ hc q=>mul_int q hc.ok
theorem op_fdiv:OpR X (binaryOp .FloorDiv) (rI CDiv fun i j=>.int (i / j)):=opI fun i j _ _ _ _ _ hc q=>by
  have h1:(0:Int) < j:=hc.1
  have h2:j < 1073741824:=hc.2
  exact floordiv_int (by omega) (by rw [Int.fdiv_eq_ediv_of_nonneg i (by omega)]; exact q) (.inl (PyProof.noPylong_small (by omega)))
theorem op_mod:OpR X (binaryOp .Mod) (rI (fun _ j=>0 < j) fun i j=>.int (i % j)):=opI fun i j _ _ _ _ _ hc q=>by
  have h1:(0:Int) < j:=hc
  exact mod_int' (by omega) (by rw [Int.fmod_eq_emod_of_nonneg i (by omega)]; exact q)
theorem op_pow:OpR X (binaryOp .Pow) (rI CPow fun i j=>.int (i ^ j.toNat)):=opI fun _ _ _ _ _ _ _ hc q=>pow_int_small hc.1 hc.2.1 hc.2.2 q
theorem op_shl:OpR X (binaryOp .LShift) (rI CPow fun i j=>.int (i * 2 ^ j.toNat)):=opI fun _ _ _ _ _ _ _ hc q=>lshift_int_small hc.1 hc.2.1 hc.2.2 q
theorem op_shr:OpR X (binaryOp .RShift) (rI (fun _ j=>0≤j) fun i j=>.int (i / 2 ^ j.toNat)):=opI fun i j _ _ _ _ _ hc q=>
  rshift_int hc (by rw [Int.fdiv_eq_ediv_of_nonneg i (two_pow_nn _)]; exact q)
theorem op_and:OpR X (binaryOp .BitAnd) (rI0 fun i j=>.int (Builtin.bitAnd i j)):=opI0 fun _ _ _ _ _ _ _ q=>and_int q
theorem op_or:OpR X (binaryOp .BitOr) (rI0 fun i j=>.int (Builtin.bitOr i j)):=opI0 fun _ _ _ _ _ _ _ q=>or_int q
theorem unI {f:Value→Sem Value} {g:Int→Int}
    (rule:∀(i:Int) (t:Tok) (s:Shared) (Q:Value→Shared→Prop) (E:Value→Shared→Prop),Q (.int (g i) s.toks) { s with toks:=s.toks + 1 }→wpAny (model X.prog X.w) X.A (f (.int i t)) Q E s) :
    UnR X f (rU fun i=>.int (g i)):=by
  intro pins s σ H x v Q I rx h
  obtain ⟨i,rfl,q⟩:=h
  obtain ⟨t,rfl⟩:=rx
  exact rule i t s _ _ ⟨.int (g i),H,I.tok _,⟨_,rfl⟩,q⟩
theorem un_inv:UnR X (unaryOp .Invert) (rU fun i=>.int (Builtin.bitNot i)):=unI fun _ _ _ _ _ q=>invert_int q
end
def scal:V→V→Bool
  | .non,.non=>true | .non,.int _=>true | .int _,.non=>true | .non,.bl _=>true | .bl _,.non=>true | .non,.str _=>true | .str _,.non=>true
  | .int _,.int _=>true | .bl _,.bl _=>true | .str _,.str _=>true | .byt _,.byt _=>true
  | .int _,.str _=>true | .str _,.int _=>true | .bl _,.str _=>true | .str _,.bl _=>true
  | _,_=>false
def rEq:R2:=fun x y H Q=>scal x y=true∧Q (.bl (decide (x=y))) H
def rNe:R2:=fun x y H Q=>scal x y=true∧Q (.bl (!decide (x=y))) H
theorem dec_int {i j:Int}:decide (V.int i=V.int j)=(i == j):=by
  rw [Bool.eq_iff_iff]
  simp
theorem dec_bl {i j:Bool}:decide (V.bl i=V.bl j)=(i == j):=by
  rw [Bool.eq_iff_iff]
  simp
theorem dec_str {i j:Str}:decide (V.str i=V.str j)=(i == j):=by
  rw [Bool.eq_iff_iff]
  simp
theorem dec_byt {i j:Array UInt8}:decide (V.byt i=V.byt j)=(i.toList == j.toList):=by
  rw [Bool.eq_iff_iff]
  cases i
  cases j
  simp
section
variable {X:Cx} {a b c:Expr} {ta tb tc:TE} {pos:Pos}
theorem fin_bl {pins:List (Addr × Obj)} {σ:St} {H:Hp} {s:Shared} {Q:VK} {k k':Bool} (I:Inv X pins σ H s) (q:Q (.bl k) H) (e:k=k'):EP X pins σ Q (.bool k') s:=by
  subst e
  exact ⟨.bl k,H,I,rfl,q⟩
theorem op_eq:OpR X (compareOp .Eq) rEq:=by
  intro pins s σ H x y v u Q I rx ry h
  obtain ⟨hs,q⟩:=h
  cases x with
  | non=>
    cases rx
    cases y with
    | non=>cases ry; exact PySem.EqNone.eq_none_none (fin_bl I q (by simp))
    | bl j=>cases ry; exact PySem.EqNone.eq_none_bool (fin_bl I q (by simp))
    | int j=>obtain ⟨t',rfl⟩:=ry; exact PySem.EqNone.eq_none_int (fin_bl I q (by simp))
    | str j=>obtain ⟨t',rfl⟩:=ry; exact PySem.EqNone.eq_none_str (fin_bl I q (by simp))
    | _=>exact absurd (show false=true from hs) Bool.false_ne_true
  | bl i=>
    cases rx
    cases y with
    | non=>cases ry; exact PySem.EqNone.eq_bool_none (fin_bl I q (by simp))
    | bl j=>cases ry; exact eq_bool (fin_bl I q dec_bl)
    | str j=>obtain ⟨t',rfl⟩:=ry; exact PySem.EqMixed.eq_bool_str (fin_bl I q (by simp))
    | _=>exact absurd (show false=true from hs) Bool.false_ne_true
  | int i=>
    obtain ⟨t,rfl⟩:=rx
    cases y with
    | non=>cases ry; exact PySem.EqNone.eq_int_none (fin_bl I q (by simp))
    | int j=>obtain ⟨t',rfl⟩:=ry; exact eq_int (fin_bl I q dec_int)
    | str j=>obtain ⟨t',rfl⟩:=ry; exact PySem.EqMixed.eq_int_str (fin_bl I q (by simp))
    | _=>exact absurd (show false=true from hs) Bool.false_ne_true
  | str i=>
    obtain ⟨t,rfl⟩:=rx
    cases y with
    | non=>cases ry; exact PySem.EqNone.eq_str_none (fin_bl I q (by simp))
    | bl j=>cases ry; exact PySem.EqMixed.eq_str_bool (fin_bl I q (by simp))
    | int j=>obtain ⟨t',rfl⟩:=ry; exact PySem.EqMixed.eq_str_int (fin_bl I q (by simp))
    | str j=>obtain ⟨t',rfl⟩:=ry; exact eq_str (fin_bl I q dec_str)
    | _=>exact absurd (show false=true from hs) Bool.false_ne_true
  | byt i=>
    obtain ⟨t,rfl⟩:=rx
    cases y with
    | byt j=>obtain ⟨t',rfl⟩:=ry; exact PySem.W.eq_bytes (fin_bl I q dec_byt)
    | _=>exact absurd (show false=true from hs) Bool.false_ne_true
  | _=>cases y <;> exact absurd (show false=true from hs) Bool.false_ne_true
theorem op_ne:OpR X (compareOp .NotEq) rNe:=by
  intro pins s σ H x y v u Q I rx ry h
  obtain ⟨hs,q⟩:=h
  cases x with
  | non=>
    cases rx
    cases y with
    | non=>cases ry; exact PySem.EqNone.ne_none_none (fin_bl I q (by simp))
    | bl j=>cases ry; exact PySem.EqNone.ne_none_bool (fin_bl I q (by simp))
    | int j=>obtain ⟨t',rfl⟩:=ry; exact PySem.EqNone.ne_none_int (fin_bl I q (by simp))
    | str j=>obtain ⟨t',rfl⟩:=ry; exact PySem.EqNone.ne_none_str (fin_bl I q (by simp))
    | _=>exact absurd (show false=true from hs) Bool.false_ne_true
  | bl i=>
    cases rx
    cases y with
    | non=>cases ry; exact PySem.EqNone.ne_bool_none (fin_bl I q (by simp))
    | bl j=>cases ry; exact ne_bool (fin_bl I q (congrArg not dec_bl))
    | str j=>obtain ⟨t',rfl⟩:=ry; exact PySem.EqMixed.ne_bool_str (fin_bl I q (by simp))
    | _=>exact absurd (show false=true from hs) Bool.false_ne_true
  | int i=>
    obtain ⟨t,rfl⟩:=rx
    cases y with
    | non=>cases ry; exact PySem.EqNone.ne_int_none (fin_bl I q (by simp))
    | int j=>obtain ⟨t',rfl⟩:=ry; exact ne_int (fin_bl I q (congrArg not dec_int))
    | str j=>obtain ⟨t',rfl⟩:=ry; exact PySem.EqMixed.ne_int_str (fin_bl I q (by simp))
    | _=>exact absurd (show false=true from hs) Bool.false_ne_true
  | str i=>
    obtain ⟨t,rfl⟩:=rx
    cases y with
    | non=>cases ry; exact PySem.EqNone.ne_str_none (fin_bl I q (by simp))
    | bl j=>cases ry; exact PySem.EqMixed.ne_str_bool (fin_bl I q (by simp))
    | int j=>obtain ⟨t',rfl⟩:=ry; exact PySem.EqMixed.ne_str_int (fin_bl I q (by simp))
    | str j=>obtain ⟨t',rfl⟩:=ry; exact ne_str (fin_bl I q (congrArg not dec_str))
    | _=>exact absurd (show false=true from hs) Bool.false_ne_true
  | byt i=>
    obtain ⟨t,rfl⟩:=rx
    cases y with
    | byt j=>obtain ⟨t',rfl⟩:=ry; exact PySem.W.ne_bytes (fin_bl I q (congrArg not dec_byt))
    | _=>exact absurd (show false=true from hs) Bool.false_ne_true
  | _=>cases y <;> exact absurd (show false=true from hs) Bool.false_ne_true
theorem op_lt:OpR X (compareOp .Lt) (rI0 fun i j=>.bl (decide (i < j))):=opB0 fun _ _ _ _ _ _ _ q=>lt_int q
theorem op_gt:OpR X (compareOp .Gt) (rI0 fun i j=>.bl (decide (j < i))):=opB0 fun _ _ _ _ _ _ _ q=>gt_int q
theorem op_isN:OpR X (compareOp .Is) (fun x y H Q=>y = .non∧Q (.bl (decide (x = .non))) H):=by
  intro pins s σ H x y v u Q I rx ry h
  obtain ⟨rfl,q⟩:=h
  cases ry
  refine is_none_gen (fin_bl I q ?_)
  cases x <;> first
    | (cases rx; rfl)
    | (obtain ⟨t,rfl⟩:=rx; rfl)
theorem op_notN:OpR X (compareOp .IsNot) (fun x y H Q=>y = .non∧Q (.bl (!decide (x = .non))) H):=by
  intro pins s σ H x y v u Q I rx ry h
  obtain ⟨rfl,q⟩:=h
  cases ry
  refine isnot_none_gen (fin_bl I q ?_)
  cases x <;> first
    | (cases rx; rfl)
    | (obtain ⟨t,rfl⟩:=rx; rfl)
theorem nomark (b:Expr) {op:CmpOp} (h:op≠.In:=by decide) (h2:op≠.NotIn:=by decide):behindInMarks op b=false:=by
  have e1:(op == CmpOp.In)=false:=by cases op <;> first | rfl | exact absurd rfl h
  have e2:(op == CmpOp.NotIn)=false:=by cases op <;> first | rfl | exact absurd rfl h2
  cases b <;> simp [behindInMarks,e1,e2]
theorem pe_cmpR {op:CmpOp} {r:R2} (ho:OpR X (compareOp op) r) (ha:PE X a ta) (hb:PE X b tb) (hm:behindInMarks op b=false):PE X (.Compare a [op] [b] pos) (tOp r ta tb):=by
  intro pins s σ H Q I h
  exact wpAny_Compare1 (binT ha hb I h fun v u s2 x y H2 I2 rx ry q=>ho pins s2 σ H2 x y v u Q I2 rx ry q) hm
def tTest (t:TE):TT:=fun σ H Q=>t σ H fun x H'=>∃k,x = .bl k∧Q k H'
theorem pt_cmpR {op:CmpOp} {r:R2} (ho:OpR X (compareOp op) r) (ha:PE X a ta) (hb:PE X b tb) (hm:behindInMarks op b=false):PT X (.Compare a [op] [b] pos) (tTest (tOp r ta tb)):=by
  intro pins s σ H Q I h
  refine wpAny_isTrue_Compare1 (thn (ha pins s σ H _ I h) fun v s1 ⟨x,H1,I1,r1,q1⟩=>thn (hb pins s1 σ H1 _ I1 q1) fun u s2 ⟨y,H2,I2,r2,q2⟩=>
    thn (ho pins s2 σ H2 x y v u _ I2 r1 r2 q2) fun c s3 ⟨z,H3,I3,r3,k,e,q3⟩=>?_) hm
  subst e
  cases r3
  exact wpAny_truthy_bool ⟨H3,I3,q3⟩
theorem line63:(sizeLine:Nat) < 2 ^ 63:=by rw [sizeLine_eq]; decide
theorem vals1 {x:V} {us:List Value} (r:Vals [x] us):∃u,us=[u]∧RelV x u:=by
  cases r with
  | cons r1 r2=>cases r2; exact ⟨_,rfl,r1⟩
theorem vals2 {x y:V} {us:List Value} (r:Vals [x,y] us):∃u w',us=[u,w']∧RelV x u∧RelV y w':=by
  cases r with
  | cons r1 r2=>
    cases r2 with
    | cons r3 r4=>cases r4; exact ⟨_,_,rfl,r1,r3⟩
theorem call_max2 (hc:X.calm=true):CallR X (.builtin "max") (fun xs H Q=>∃i j,xs=[.int i,.int j]∧Q (.int (if j > i then j else i)) H):=by
  intro pins s σ H xs us Q I r h
  obtain ⟨i,j,rfl,q⟩:=h
  obtain ⟨u,w',rfl,⟨t,rfl⟩,⟨t',rfl⟩⟩:=vals2 r
  refine max_two_ints (I.ok.hd hc) fun h' tk k=>⟨_,H,I.kept k,?_,q⟩
  by_cases hj:j > i
  · rw [if_pos hj,if_pos hj]; exact ⟨_,rfl⟩
  · rw [if_neg hj,if_neg hj]; exact ⟨_,rfl⟩
theorem call_min2 (hc:X.calm=true):CallR X (.builtin "min") (fun xs H Q=>∃i j,xs=[.int i,.int j]∧Q (.int (if j < i then j else i)) H):=by
  intro pins s σ H xs us Q I r h
  obtain ⟨i,j,rfl,q⟩:=h
  obtain ⟨u,w',rfl,⟨t,rfl⟩,⟨t',rfl⟩⟩:=vals2 r
  refine min_two_ints (I.ok.hd hc) fun h' tk k=>⟨_,H,I.kept k,?_,q⟩
  by_cases hj:j < i
  · rw [if_pos hj,if_pos hj]; exact ⟨_,rfl⟩
  · rw [if_neg hj,if_neg hj]; exact ⟨_,rfl⟩
end
end L2
namespace L2
open PySem PySem.Spec PyProof.Rows
section
variable {prog:Program} {w:World} {A:Around} {E:Value→Shared→Prop} {s:Shared} {K:PySem.W.Frag} {x dx C f:Addr} {mA:Str→Option Value} {name:Str} {v:Value}
end
section
variable {P:Program} {w:World} {H H':Hp} {h h':Heap} {a C dx:Addr} {fs fs':List (Str × V)}
end
section
variable {X:Cx} {pins:List (Addr × Obj)} {σ:St} {H:Hp} {s:Shared} {a C dx:Addr} {fs:List (Str × V)} {f:Str} {v:V} {A:Around} {E:Value→Shared→Prop}
end
section
variable {X:Cx} {o e value:Expr} {f:Str} {pos pos' tpos:Pos} {ta tv:TE}
end
section
variable {X:Cx} {pins:List (Addr × Obj)} {σ:St} {H:Hp} {s:Shared} {A:Around} {E:Value→Shared→Prop} {Q:Value→Shared→Prop} {c:Value} {b:Bool}
end
end L2
namespace L2
open PySem PySem.Spec PyProof.Rows
structure Room (k:Nat) (A:Around):Prop where
  hd:A.handled=none
  dp:A.depth + 3 * k + 5 < recursionLimit
  un:A.units + 16 * k + 200 < cLine
theorem Room.mono {j k:Nat} {A:Around} (r:Room k A) (h:j≤k):Room j A:=⟨r.hd,by have:=r.dp; omega,by have:=r.un; omega⟩
theorem Room.deeper {k:Nat} {A:Around} (r:Room (k + 1) A) (env:Env):Room k (A.deeper env):=
  ⟨r.hd,by have:=r.dp; show A.depth + 1 + 3 * k + 5 < _; omega,by have:=r.un; show A.units + 3 + 16 * k + 200 < _; omega⟩
theorem Room.depth {k:Nat} {A:Around} (r:Room k A):A.depth < recursionLimit:=by have:=r.dp; omega
theorem Room.units {k:Nat} {A:Around} (r:Room k A):A.units + 64 < cLine:=by have:=r.un; omega
def tNil:TA:=fun _ H Q=>Q [] H
def tCons (ta:TE) (tr:TA):TA:=fun σ H Q=>ta σ H fun x H1=>tr σ H1 fun xs H2=>Q (x :: xs) H2
section
variable {X:Cx} {e:Expr} {es:List Expr} {te:TE} {t:TA} {pos:Pos}
theorem pa_nil:PA X [] tNil:=fun _ _ _ _ H Q I h=>Calls.spliced_nil ⟨[],H,I,.nil,h⟩
theorem pa_cons (ha:PE X e te) (hr:PA X es t) (hs:starEach (e :: es) X.env=(false,eval e X.env) :: starEach es X.env:=by rfl):PA X (e :: es) (tCons te t):=by
  intro pos pins s σ H Q I h
  rw [hs]
  show wpAny _ _ (spliced ((false,eval e X.env) :: backTo pos (starEach es X.env))) _ _ s
  refine Calls.spliced_cons (thn (ha pins s σ H _ I h) fun u s1 ⟨x,H1,I1,r1,q1⟩=>?_)
  exact thn (hr pos pins s1 σ H1 _ I1 q1) fun us s2 ⟨xs,H2,I2,r2,q2⟩=>⟨x :: xs,H2,I2,.cons r1 r2,q2⟩
def tTup (t:TA):TE:=fun σ H Q=>t σ H fun xs H1=>xs.length≤sizeLine∧∀p,H1 p=none→Q (.ref p) (upd H1 p (.tup xs))
def tLst (t:TA):TE:=fun σ H Q=>t σ H fun xs H1=>xs.length≤sizeLine∧∀p,H1 p=none→Q (.ref p) (upd H1 p (.lst xs))
theorem pe_tup {x1} (h:PA X es t):PE X (.Tuple es x1 pos) (tTup t):=by
  intro pins s σ H Q I hq
  refine wpAny_Tuple_spliced (thn (h pos pins s σ H _ I hq) fun us s1 ⟨xs,H1,I1,r,z,q⟩=>⟨by rw [←r.length]; exact z,?_⟩)
  have hf:H1 s1.heap.objs.size=none:=I1.hok.fresh (Nat.le_refl _)
  refine ⟨.ref s1.heap.objs.size,upd H1 s1.heap.objs.size (.tup xs),I1.laid (t':=s1.toks) (fun b u e=>Heap.get?_push_of_some _ e) (Nat.le_refl _) ?_,rfl,q _ hf⟩
  exact ⟨z,us,r,⟨_,Heap.get?_push_size _ rfl,rfl,_,rfl⟩⟩
theorem pe_lst (h:PA X es t):PE X (.List es pos) (tLst t):=by
  intro pins s σ H Q I hq
  refine wpAny_List_spliced (thn (h pos pins s σ H _ I hq) fun us s1 ⟨xs,H1,I1,r,z,q⟩=>⟨by rw [←r.length]; exact z,?_⟩)
  have hf:H1 s1.heap.objs.size=none:=I1.hok.fresh (Nat.le_refl _)
  refine ⟨.ref s1.heap.objs.size,upd H1 s1.heap.objs.size (.lst xs),I1.laid (t':=s1.toks) (fun b u e=>Heap.get?_push_of_some _ e) (Nat.le_refl _) ?_,rfl,q _ hf⟩
  exact ⟨z,us,0,r,Heap.get?_push_size _ rfl⟩
end
abbrev Sp:=List V→Hp→VK→XK→Prop
abbrev CXT:=List Env→Hp→Shared→XK→Value→Shared→Prop
structure Env0 (P:Program) (w:World) (K:PySem.W.Frag) (mg:Str→Option Value) (base:Heap) (A:Around) (outer:List Env) (s:Shared) (H:Hp):Prop where
  frames:A.frames=some outer
  mod:Mod K mg base
  bs:∀b o,base.get? b=some o→s.heap.get? b=some o∧H b=none
  bsz:base.objs.size≤s.heap.objs.size
  funs:s.heap.FunFrames base outer
  frf:∀b∈frs outer,H b=none
  hok:HOk P w H s.heap
  bare:AllBare s.gens
def CE (outer:List Env) (P:Program) (w:World) (H:Hp) (s:Shared) (Q:VK) (u:Value) (s':Shared):Prop:=
  ∃v H',s'.os=s.os∧AllBare s'.gens∧Un (frs outer) [] H H' s.heap s'.heap∧HOk P w H' s'.heap∧RelV v u∧Q v H'
def CR (CX:CXT) (outer:List Env) (P:Program) (w:World) (H:Hp) (s:Shared) (Q:VK) (E:XK) (r:Result) (s':Shared):Prop:=
  match r with
  | .ok (.ret u)=>CE outer P w H s Q u s'
  | .ok _=>False
  | .error e=>CX outer H s E e s'
structure FnOk (P:Program) (w:World) (K:PySem.W.Frag) (mg:Str→Option Value) (base:Heap) (CX:CXT) (k:Nat) (f:Addr) (fd:FuncData) (ps:List Str) (sp:Sp):Prop where
  len:∀vs H Q E,sp vs H Q E→vs.length=ps.length
  run:∀(A:Around) (outer:List Env) (s:Shared) (H:Hp) (args:Args) (us:List Value) (vs:List V) (Q:VK) (E:XK),Room k A→Env0 P w K mg base A outer s H→BindsTo s fd args (ps.zip us)→Vals vs us→sp vs H Q E→
    codeAny (model P w) A (.call (.ref f) args) (CR CX outer P w H s Q E) s
section
variable {X:Cx} {pins:List (Addr × Obj)} {σ:St} {H:Hp} {s s':Shared}
theorem Inv.env0 (I:Inv X pins σ H s):Env0 X.prog X.w X.K X.mg X.base X.A X.stack s H:=
  ⟨I.ok.frames,I.ok.mod,I.bs,Nat.le_trans I.ok.bsz I.sz,I.stack,I.stkFree,I.hok,I.bare⟩
theorem Inv.after {Q:VK} {u:Value} (I:Inv X pins σ H s) (h:CE X.stack X.prog X.w H s Q u s'):EP X pins σ Q u s':=by
  obtain ⟨v,H',os,bare,un,hok,r,q⟩:=h
  obtain ⟨hh,g,d,t,os'⟩:=s'
  obtain rfl:os' = s.os:=os
  exact ⟨v,H',I.call (h':=hh) (g':=g) (d':=d) (t':=t) (ch:=[]) un hok bare (fun b z=>absurd z (by simp)),r,q⟩
end
def tCall (sp:Sp) (dvs:List V) (E:XK) (t:TA):TE:=fun σ H Q=>t σ H fun vs H1=>sp (vs++dvs) H1 Q E
def Binds (K:PySem.W.Frag) (fd:FuncData) (ps:List Str) (ds:List Value):Prop:=
  ∀(s:Shared) (us:List Value),K.In s.heap→(us++ds).length=ps.length→BindsTo s fd ⟨us,[]⟩ (ps.zip (us++ds))
theorem Binds.all {K:PySem.W.Frag} {fd:FuncData} {ps:List Str} (h:∀us:List Value,us.length=ps.length→bindArgs fd ⟨us,[]⟩=pure (ps.zip us)):Binds K fd ps []:=fun s us _ hl=>by
  rw [List.append_nil] at hl ⊢
  exact .of_eq (h us hl)
def Passes (CX:CXT) (X:Cx) (E:XK):Prop:=∀(pins:List (Addr × Obj)) (σ:St) (H:Hp) (s:Shared) (e:Value) (s':Shared),Inv X pins σ H s→CX X.stack H s E e s'→X.xe e s'
section
variable {X:Cx} {CX:CXT} {k:Nat} {f C:Addr} {fd:FuncData} {ps:List Str} {sp:Sp} {dvs:List V} {ds:List Value} {E:XK} {x m:Str} {p pos apos:Pos} {e o:Expr} {es:List Expr} {ta:TE} {t:TA}
theorem run_fn {pins:List (Addr × Obj)} {σ:St} {H:Hp} {s:Shared} {Q:VK} {us:List Value} {vs:List V} (F:FnOk X.prog X.w X.K X.mg X.base CX k f fd ps sp) (hr:Room k X.A) (hb:Binds X.K fd ps ds) (hd:Vals dvs ds) (hx:Passes CX X E)
    (I:Inv X pins σ H s) (r:Vals vs us) (h:sp (vs++dvs) H Q E):wpAny (model X.prog X.w) X.A (call (.ref f) us) (EP X pins σ Q) X.xe s:=by
  have r2:Vals (vs++dvs) (us++ds):=r.append hd
  have hl:(us++ds).length=ps.length:=by rw [←r2.length]; exact F.len _ _ _ _ h
  refine wpAny_call (codeAny_mono (F.run X.A X.stack s H ⟨us,[]⟩ (us++ds) (vs++dvs) Q E hr I.env0 (hb s us I.kIn hl) r2 h) fun r s' hq=>?_)
  cases r with
  | error e=>exact hx pins σ H s e s' I hq
  | ok fl=>
    cases fl with
    | ret u=>exact I.after hq
    | next=>exact False.elim hq
    | brk=>exact False.elim hq
    | cont=>exact False.elim hq
theorem pe_call (F:FnOk X.prog X.w X.K X.mg X.base CX k f fd ps sp) (hr:Room k X.A) (hg:Gl X x) (hm:X.mg x=some (.ref f)) (hk:PySem.W.keepIn X.K (.ref f)=true) (hb:Binds X.K fd ps ds) (hd:Vals dvs ds) (hx:Passes CX X E)
    (ha:PA X (e :: es) t) (hdb:(x == ("__debug__":Str))=false:=by decide) (he:starEach (e :: es) X.env=(false,eval e X.env) :: starEach es X.env:=by rfl) (hpl:(backTo pos (starEach es X.env)).any (·.1)=false:=by rfl) :
    PE X (.Call (.Name x p) (e :: es) [] pos) (tCall sp dvs E t):=by
  intro pins s σ H Q I h
  refine wpAny_Call_Name_kw (ld_glob I hg hm ?_ hdb)
  refine PySem.W.callWith_K (h₀:=X.base) I.ok.mod.kin hk (thn (ha pos pins s σ H _ I h) fun us s1 ⟨vs,H1,I1,r,q⟩=>⟨I1.kIn,?_⟩) he hpl
  exact run_fn F hr hb hd hx I1 r q
end
def PK (X:Cx) (kws:List Keyword) (t:TA):Prop:=
  ∀(pos:Pos) (pins:List (Addr × Obj)) (s:Shared) (σ:St) (H:Hp) (Q:List V→Hp→Prop),Inv X pins σ H s→t σ H Q→wpAny (model X.prog X.w) X.A (evalAll ((backToKw pos (keywordEach kws X.env)).map (·.2))) (AP X pins σ Q) X.xe s
section
variable {X:Cx} {CX:CXT} {k:Nat} {f C:Addr} {fd:FuncData} {ps ks:List Str} {sp:Sp} {E:XK} {x m:Str} {p pos apos kpos:Pos} {e o:Expr} {es:List Expr} {kws:List Keyword} {te ta:TE} {t tk:TA} {nm:Option Str}
theorem pk_nil:PK X [] tNil:=fun _ _ _ _ H Q I h=>wpAny_evalAll_nil ⟨[],H,I,.nil,h⟩
theorem pk_cons (ha:PE X e te) (hr:PK X kws t):PK X (⟨nm,e,kpos⟩ :: kws) (tCons te t):=by
  intro pos pins s σ H Q I h
  show wpAny _ _ (evalAll ((do let v ←eval e X.env; standAt pos; pure v) :: (backToKw pos (keywordEach kws X.env)).map (·.2))) _ _ s
  refine wpAny_evalAll_cons (wpAny_bind (thn (ha pins s σ H _ I h) fun u s1 ⟨x,H1,I1,r1,q1⟩=>wpAny_bind (wpAny_standAt (wpAny_pure ?_))))
  exact thn (hr pos pins s1 σ H1 _ I1 q1) fun us s2 ⟨xs,H2,I2,r2,q2⟩=>⟨x :: xs,H2,I2,.cons r1 r2,q2⟩
variable {g:List Value→List Value→List Value} {gV:List V→List V→List V}
end
structure FnScope (N P:List Str) (sc:Scope):Prop where
  kind:sc.kind = .function
  co:sc.isCoroutine=false
  gen:sc.isGenerator=false
  nd:N.Nodup
  pre:N.take P.length=P
  par:∀x∈P,sc.names.lookup x=some .local∨sc.names.lookup x=some .cell
  nofree:∀y∈sc.names,y.2≠.free
theorem bindL_out {kindOf:Str→Option NameKind} {x:Str}:∀{binds:List (Str × Value)} {m:Str→Option Value},(∀v,(x,v)∉binds)→bindL kindOf binds m x=m x
  | [],_,_=>rfl
  | (n,v) :: r,m,h=>by
    unfold bindL
    rw [bindL_out fun w hw=>h w (List.mem_cons_of_mem _ hw)]
    split
    · have:x≠n:=by rintro rfl; exact h v List.mem_cons_self
      simp [this]
    · rfl
theorem bindC_out {kindOf:Str→Option NameKind} {x:Str}:∀{binds:List (Str × Value)} {m:Str→Option Value},(∀v,(x,v)∉binds)→bindC kindOf binds m x=m x
  | [],_,_=>rfl
  | (n,v) :: r,m,h=>by
    unfold bindC
    rw [bindC_out fun w hw=>h w (List.mem_cons_of_mem _ hw)]
    split
    · rfl
    · have:x≠n:=by rintro rfl; exact h v List.mem_cons_self
      simp [this]
theorem bindL_get {kindOf:Str→Option NameKind} {x:Str} {v:Value}:∀{P:List Str} {vs:List Value} {i:Nat} {m:Str→Option Value},P.Nodup→P[i]? = some x→vs[i]? = some v→kindOf x=some .local→
    bindL kindOf (P.zip vs) m x=some v
  | [],_,_,_,_,h,_,_=>by simp at h
  | _ :: _,[],_,_,_,_,h,_=>by simp at h
  | p :: P,w :: vs,0,m,nd,h1,h2,hk=>by
    simp at h1 h2; subst h1; subst h2
    show bindL kindOf ((p,w) :: P.zip vs) m p=_
    unfold bindL
    rw [bindL_out fun v hv=>(List.nodup_cons.mp nd).1 (List.of_mem_zip hv).1,if_pos hk]
    simp
  | p :: P,w :: vs,i + 1,m,nd,h1,h2,hk=>by
    show bindL kindOf ((p,w) :: P.zip vs) m x=_
    unfold bindL
    exact bindL_get (i:=i) (List.nodup_cons.mp nd).2 (by simpa using h1) (by simpa using h2) hk
theorem bindC_get {kindOf:Str→Option NameKind} {x:Str} {v:Value}:∀{P:List Str} {vs:List Value} {i:Nat} {m:Str→Option Value},P.Nodup→P[i]? = some x→vs[i]? = some v→kindOf x≠some .local→
    bindC kindOf (P.zip vs) m x=some v
  | [],_,_,_,_,h,_,_=>by simp at h
  | _ :: _,[],_,_,_,_,h,_=>by simp at h
  | p :: P,w :: vs,0,m,nd,h1,h2,hk=>by
    simp at h1 h2; subst h1; subst h2
    show bindC kindOf ((p,w) :: P.zip vs) m p=_
    unfold bindC
    rw [bindC_out fun v hv=>(List.nodup_cons.mp nd).1 (List.of_mem_zip hv).1,if_neg hk]
    simp
  | p :: P,w :: vs,i + 1,m,nd,h1,h2,hk=>by
    show bindC kindOf ((p,w) :: P.zip vs) m x=_
    unfold bindC
    exact bindC_get (i:=i) (List.nodup_cons.mp nd).2 (by simpa using h1) (by simpa using h2) hk
def start (N:List Str) (vs:List V):St:=vs.map some++List.replicate (N.length - vs.length) none
def cxOf (CX:CXT) (P:Program) (w:World) (K:PySem.W.Frag) (mg:Str→Option Value) (base:Heap) (N:List Str) (qual:Str) (scope:Scope) (f:Addr) (cd:Value) (A:Around) (outer:List Env) (s:Shared) (H:Hp) (E:XK):Cx where
  prog:=P
  w:=w
  K:=K
  mg:=mg
  base:=base
  A:=A.deeper (envOfC qual scope s.heap.objs.size f cd)
  N:=N
  s₀:=s
  H₀:=H
  env:=envOfC qual scope s.heap.objs.size f cd
  outer:=outer
  stack:=envOfC qual scope s.heap.objs.size f cd :: outer
  ex:=[]
  calm:=true
  fn:=fun _=>true
  pn:=[]
  xe:=fun e s'=>wpAny (model P w) (A.deeper (envOfC qual scope s.heap.objs.size f cd)) (leaving (envOfC qual scope s.heap.objs.size f cd) e) (fun _ s''=>CX outer H s E e s'') (fun e' s''=>CX outer H s E e' s'') s'
theorem cell_has {sc:Scope} {n:Nat} {x:Str} (h:sc.names.lookup x=some .cell):∃c,(cellsFrom n sc.names []).lookup x=some c:=by
  have q:=PySem.W.cellsFrom_some sc.names n [] (.inl h)
  exact Option.isSome_iff_exists.mp q
theorem inv_start {CX:CXT} {P:Program} {w:World} {K:PySem.W.Frag} {mg:Str→Option Value} {base:Heap} {N ps:List Str} {qual:Str} {scope:Scope} {f:Addr} {cd:Value} {A:Around} {outer:List Env} {s s1:Shared} {H:Hp} {E:XK} {us:List Value} {vs:List V}
    (S:FnScope N ps scope) (hd:A.handled=none) (e0:Env0 P w K mg base A outer s H) (hl:vs.length=ps.length) (r:Vals vs us)
    (x:InCallC s s.heap.objs.size (bindL (envOfC qual scope s.heap.objs.size f cd).kindOf (ps.zip us) fun _=>none) (cellsFrom (s.heap.objs.size + 1) scope.names []) (bindC (envOfC qual scope s.heap.objs.size f cd).kindOf (ps.zip us) fun _=>none) s1) :
    Inv (cxOf CX P w K mg base N qual scope f cd A outer s H E) [] (start N vs) H s1:=by
  have hpl:ps.length≤N.length:=by have:=congrArg List.length S.pre; rw [List.length_take] at this; omega
  obtain ⟨h1,tk,rfl,hk⟩:=x.done
  have noA:∀b:Addr,b∉(cxOf CX P w K mg base N qual scope f cd A outer s H E).ex:=fun b z=>absurd (show b∈([]:List Addr) from z) (by simp)
  refine ⟨⟨e0.mod,S.kind,rfl,rfl,Nat.le_refl _,fun y z c h1 h2=>?_,fun y hy=>?_,fun y c _ h=>?_,fun _=>hd,Around.frames_deeper e0.frames,.inr ⟨rfl,rfl⟩,fun b z=>absurd z (noA b),e0.bs,e0.bsz,fun b _ _=>noA b,fun b z=>absurd z (noA b),e0.funs,e0.frf⟩,
    rfl,e0.bare,Un.kept hk,⟨_,x.toInCall.ns,fun i y v h1 h2 h3=>?_⟩,fun y c h=>⟨_,x.cell y c h⟩,e0.hok.fresh (Nat.le_refl _),fun y c h=>?_,fun p hp=>absurd (show p∈([]:List (Addr × Obj)) from hp) (by simp),e0.hok.kept hk,?_⟩
  · exact name_of_addr x.apart (PySem.mem_of_lookup h1) (PySem.mem_of_lookup h2)
  · have hy:scope.names.lookup y=some .cell∨scope.names.lookup y=some .free:=hy
    rcases hy with hy | hy
    · exact cell_has hy
    · exact absurd rfl (S.nofree _ (PySem.mem_of_lookup hy))
  · exact Nat.le_of_lt (x.above y c (PySem.mem_of_lookup h))
  · have hi:i < vs.length:=by
      unfold start at h2
      by_cases hi:i < vs.length
      · exact hi
      · rw [List.getElem?_append_right (by simpa using hi)] at h2
        rw [List.getElem?_replicate] at h2
        split at h2 <;> cases h2
    have ha:vs[i]? = some v:=by
      unfold start at h2
      rw [List.getElem?_append_left (by simpa using hi),List.getElem?_map] at h2
      cases e:vs[i]? with
      | none=>rw [e] at h2; cases h2
      | some a=>rw [e] at h2; cases h2; rfl
    obtain ⟨u,hu,rv⟩:=r.get ha
    have hp:ps[i]? = some y:=by
      rw [←S.pre,List.getElem?_take_of_lt (by omega)]; exact h1
    have ndP:ps.Nodup:=by rw [←S.pre]; exact S.nd.sublist (List.take_sublist _ _)
    refine ⟨u,rv,?_⟩
    rcases S.par y (List.mem_of_getElem? hp) with k | k
    · exact .inl ⟨k,bindL_get ndP hp hu k⟩
    · obtain ⟨c,e⟩:=cell_has (n:=s.heap.objs.size + 1) k
      refine .inr ⟨.inl k,c,e,?_⟩
      have q:=x.cell y c e
      rw [bindC_get ndP hp hu (by show scope.names.lookup y≠_; rw [k]; decide)] at q
      exact q
  · exact e0.hok.fresh (Nat.le_of_lt (x.above y c (PySem.mem_of_lookup h)))
  · unfold start
    show _=N.length
    rw [List.length_append,List.length_map,List.length_replicate]
    omega
theorem fn_of {CX:CXT} {P:Program} {w:World} {K:PySem.W.Frag} {mg:Str→Option Value} {base:Heap} {k:Nat} {f:Addr} {name qual:Str} {params:Arguments} {body:List Stmt} {scope:Scope} {dV kV doc pm cdv ct oc:Value} {an od:Option Addr}
    {osl:Array (Option Value)} {N ps:List Str} {sp:Sp} (lk:K.lookup f=some ⟨oc,od,.func (PySem.W.fnOf name qual params body scope dV kV doc pm an cdv ct),osl⟩) (hcd:PySem.W.codeIn K cdv qual=true) (S:FnScope N ps scope)
    (len:∀vs H Q E,sp vs H Q E→vs.length=ps.length)
    (hbody:∀(A:Around) (outer:List Env) (s:Shared) (H:Hp) (vs:List V) (Q:VK) (E:XK),Room k (A.deeper (envOfC qual scope s.heap.objs.size f cdv))→sp vs H Q E→
      ∃t,PSs (cxOf CX P w K mg base N qual scope f cdv A outer s H E) body t∧t { nx:=fun _ H'=>Q .non H',rt:=Q } (start N vs) H) :
    FnOk P w K mg base CX (k + 1) f (PySem.W.fnOf name qual params body scope dV kV doc pm an cdv ct) ps sp:=by
  refine ⟨len,fun A outer s H args us vs Q E hr e0 hb r hsp=>?_⟩
  have hl:=len _ _ _ _ hsp
  have KX:K.In s.heap:=e0.mod.kin.keeps fun b o e=>(e0.bs b o e).1
  have lim:s.heap.NoLimit:=e0.mod.nolimit.keeps fun b o e=>(e0.bs b o e).1
  have hkind:∀y∈ps.zip us,scope.names.lookup y.1=some .local∨(scope.names.lookup y.1=some .cell∧((cellsFrom (s.heap.objs.size + 1) scope.names []).lookup y.1).isSome=true):=fun ⟨n,v⟩ hy=>by
    rcases S.par n (List.of_mem_zip hy).1 with q | q
    · exact .inl q
    · exact .inr ⟨q,PySem.W.cellsFrom_some _ _ _ (.inl q)⟩
  refine codeAny_call_function hr.depth (KX _ _ lk) rfl S.co S.gen rfl (PySem.W.codeRec_of KX hcd) (hb _ _ _ _ ?_)
  refine wpAny_newFunctionEnv_cells S.kind hkind fun env he s1 x=>?_
  subst he
  refine ⟨lim.keeps x.toInCall.keep,codeAny_func ?_⟩
  obtain ⟨t,ht,hq⟩:=hbody A outer s H vs Q E (hr.deeper _) hsp
  have I:Inv (cxOf CX P w K mg base N qual scope f cdv A outer s H E) [] (start N vs) H s1:=inv_start S hr.hd e0 hl r x
  refine wpAny_mono (ht [] s1 (start N vs) H _ I hq) (fun fl s' hs=>?_) fun e s' hs=>hs
  have fin:∀{σ':St} {H':Hp} {v:V} {u:Value},Inv (cxOf CX P w K mg base N qual scope f cdv A outer s H E) [] σ' H' s'→RelV v u→Q v H'→CE outer P w H s Q u s':=
    fun {σ' H' v u} J rv q=>⟨v,H',J.os,J.bare,J.base,J.hok,rv,q⟩
  cases fl with
  | ret u=>
    obtain ⟨v,σ',H',J,rv,q⟩:=hs
    exact fin J rv q
  | next=>
    obtain ⟨σ',H',J,q⟩:=hs
    exact fin (v:=V.non) (u:=Value.none) J rfl q
  | brk=>
    obtain ⟨_,_,_,q⟩:=hs
    exact False.elim q
  | cont=>
    obtain ⟨_,_,_,q⟩:=hs
    exact False.elim q
end L2
namespace L2
open PySem PySem.Spec PyProof.Rows
section
variable {X:Cx} {x:Str} {p pos:Pos} {e:Expr} {es:List Expr} {t:TA} {id T:String} {r:List V→Hp→VK→Prop}
def tCB (r:List V→Hp→VK→Prop) (t:TA):TE:=fun σ H Q=>t σ H fun vs H1=>r vs H1 Q
theorem pe_callB (hc:CallR X (.builtin id) r) (hg:Gl X x) (hm:X.mg x=none) (hv:bootBuiltins x=some (.builtin id)) (ha:PA X (e :: es) t) (hn:x≠"__name__":=by decide) (hdb:(x == ("__debug__":Str))=false:=by decide)
    (he:starEach (e :: es) X.env=(false,eval e X.env) :: starEach es X.env:=by rfl) (hpl:(backTo pos (starEach es X.env)).any (·.1)=false:=by rfl):PE X (.Call (.Name x p) (e :: es) [] pos) (tCB r t):=by
  intro pins s σ H Q I h
  refine wpAny_Call_Name_kw (ld_blt I hg hm hv ?_ hn hdb)
  exact PyProof.Rows.callWith_builtin1 (thn (ha pos pins s σ H _ I h) fun us s1 ⟨vs,H1,I1,r1,q1⟩=>hc pins s1 σ H1 vs us Q I1 r1 q1) he hpl
theorem pe_callTy (hc:CallR X (.type T) r) (hg:Gl X x) (hm:X.mg x=none) (hv:bootBuiltins x=some (.type T)) (ha:PA X (e :: es) t) (hn:x≠"__name__":=by decide) (hdb:(x == ("__debug__":Str))=false:=by decide)
    (he:starEach (e :: es) X.env=(false,eval e X.env) :: starEach es X.env:=by rfl) (hpl:(backTo pos (starEach es X.env)).any (·.1)=false:=by rfl):PE X (.Call (.Name x p) (e :: es) [] pos) (tCB r t):=by
  intro pins s σ H Q I h
  refine wpAny_Call_Name_kw (ld_blt I hg hm hv ?_ hn hdb)
  exact PyProof.Rows.callWith_type1 (thn (ha pos pins s σ H _ I h) fun us s1 ⟨vs,H1,I1,r1,q1⟩=>hc pins s1 σ H1 vs us Q I1 r1 q1) he hpl
end
end L2
namespace HT
open PySem PyProof.Rows
section
open PySem.SeqAt
open PySem.AutoSeq1 (wpAny_loadPart')
open PySem.MeetsSeq PySem.MeetsSeq2 PySem.MeetsSeq3
end
section
variable {prog:Program} {w:World} {A:Around} {E:Value→Shared→Prop} {s:Shared}
theorem cat_tup {t b:Addr} {vs ws:List Value} {Q:Value→Shared→Prop} (ht:IsTup s.heap t vs.toArray) (hb:IsTup s.heap b ws.toArray) (hv:vs≠[])
    (h1:ws=[]→Q (.ref t) s) (h2:ws≠[]→Q (.ref s.heap.objs.size) { s with heap:=s.heap.push { cls:=.type "tuple",data:=.seq (vs++ws).toArray } })
    (hsz:vs.length + ws.length≤sizeLine):wpAny (model prog w) A (binaryOp .Add (.ref t) (.ref b)) Q E s:=by
  obtain ⟨⟨cls,dd,data,sl⟩,ho,hc,n,hd⟩:=id ht
  obtain ⟨⟨cls2,dd2,data2,sl2⟩,ho2,hc2,n2,hd2⟩:=id hb
  simp only at hc hd hc2 hd2
  subst hc hd hc2 hd2
  have e:vs.toArray++ws.toArray=(vs++ws).toArray:=by simp
  by_cases hw:ws=[]
  · exact concat_meets ⟨_,ho,rfl⟩ ⟨_,ho2,rfl⟩ noFill_tuple_add seq_tuple_add PySem.F.slot_tuple_add PySem.F.entry_tuple_add (PySem.F.args_tuple_add_2 _ _)
      (tuple_addW1 t b vs.toArray ws.toArray n n2 dd dd2 sl sl2 (by simpa using hv) (by simp [hw])) ⟨ho,ho2,h1 hw⟩
  · refine concat_meets ⟨_,ho,rfl⟩ ⟨_,ho2,rfl⟩ noFill_tuple_add seq_tuple_add PySem.F.slot_tuple_add PySem.F.entry_tuple_add (PySem.F.args_tuple_add_2 _ _)
      (tuple_addW2 t b vs.toArray ws.toArray n n2 dd dd2 sl sl2 (by simpa using hv) (by simpa using hw) (by rw [List.size_toArray,List.size_toArray]; exact hsz)) ⟨ho,ho2,?_⟩
    rw [e]
    exact h2 hw
def sIx (n d:Nat):Option Int→Nat
  | none=>d
  | some v=>if v < 0 then (v + (n:Int)).toNat else min v.toNat n
theorem sIx_none (n d:Nat):sIx n d none=d:=rfl
theorem sIx_nat (n d k:Nat):sIx n d (some (k:Int))=min k n:=by
  show (if (k:Int) < 0 then ((k:Int) + (n:Int)).toNat else min (k:Int).toNat n)=min k n
  rw [if_neg (by omega),Int.toNat_natCast]
theorem sIx_le (n d:Nat) (hd:d≤n) (o:Option Int):sIx n d o≤n:=by
  cases o with
  | none=>exact hd
  | some v=>
    show (if v < 0 then (v + (n:Int)).toNat else min v.toNat n)≤n
    by_cases hv:v < 0
    · rw [if_pos hv]; omega
    · rw [if_neg hv]; exact Nat.min_le_right _ _
theorem clip_eq (v:Int) (n d:Nat):(if v < 0 then max (v + (n:Int)) 0 else min v (n:Int))=((sIx n d (some v):Nat):Int):=by
  show (if v < 0 then max (v + (n:Int)) 0 else min v (n:Int))=(((if v < 0 then (v + (n:Int)).toNat else min v.toNat n):Nat):Int)
  by_cases hv:v < 0
  · simp only [if_pos hv]; omega
  · simp only [if_neg hv]; omega
theorem adjust_gen (lo hi:Option Int) (n:Nat):Builtin.Slice.sliceAdjust lo hi 1 (n:Int)=(((sIx n 0 lo:Nat):Int),((sIx n n hi:Nat):Int)):=by
  have h1:¬((1:Int) < 0):=by omega
  unfold Builtin.Slice.sliceAdjust
  simp only [h1,if_false]
  refine Prod.ext ?_ ?_
  · cases lo with
    | none=>rfl
    | some v=>exact clip_eq v n 0
  · cases hi with
    | none=>rfl
    | some v=>exact clip_eq v n n
theorem places_gen (i j:Nat):Builtin.Slice.slicePlaces (i:Int) (j:Int) 1=j - i:=by
  unfold Builtin.Slice.slicePlaces
  have h1:(1:Int) > 0:=by omega
  simp only [h1,if_true,Int.ediv_one]
  split <;> omega
theorem slicePart_ {v:Value} {o:Option Int} {Q:Option Int→Shared→Prop} (p:IsPart v o) (h:Q o s):wpAny (model prog w) A (Builtin.Slice.slicePartIndex v) Q E s:=by
  cases p with
  | none=>exact slicePart_none h
  | int i t=>exact slicePart_int h
theorem sliceApplied_gen {sl:Addr} {vl vu:Value} {lo hi:Option Int} {n:Nat} {Q:Int × Int × Nat→Shared→Prop} (hs:s.heap.IsSliceOf sl vl vu .none) (pl:IsPart vl lo) (pu:IsPart vu hi)
    (h:Q (((sIx n 0 lo:Nat):Int),1,sIx n n hi - sIx n 0 lo) s):wpAny (model prog w) A (Builtin.Slice.sliceApplied (.ref sl) (pure (n:Int))) Q E s:=by
  obtain ⟨os,hos,hcs,hds⟩:=id hs
  unfold Builtin.Slice.sliceApplied Builtin.Slice.sliceFields
  refine wpAny_bind (wpAny_bind (wpAny_field hos hds (x:=vl) rfl (wpAny_bind (wpAny_field hos hds (x:=vu) rfl (wpAny_bind (wpAny_field hos hds (x:=.none) rfl (wpAny_pure ?_)))))))
  refine wpAny_bind (slicePart_none ?_)
  show wpAny _ _ (if ((1:Int) == 0)=true then _ else _) _ _ s
  rw [if_neg (by decide)]
  refine wpAny_bind (slicePart_ pl (wpAny_bind (slicePart_ pu (wpAny_bind (wpAny_pure ?_)))))
  show wpAny _ _ (match Builtin.Slice.sliceAdjust lo hi 1 (n:Int) with | (lo,hi)=>pure (lo,(1:Int),Builtin.Slice.slicePlaces lo hi 1)) _ _ s
  rw [adjust_gen lo hi n]
  show wpAny _ _ (pure (((sIx n 0 lo:Nat):Int),(1:Int),Builtin.Slice.slicePlaces ((sIx n 0 lo:Nat):Int) ((sIx n n hi:Nat):Int) 1)) _ _ s
  rw [places_gen]
  exact wpAny_pure h
theorem pick_gen (xs:Array Value) (i k:Nat):((List.range k).filterMap fun (m:Nat)=>xs[((i:Int) + (m:Int) * 1).toNat]?).toArray=((xs.toList.drop i).take k).toArray:=by
  have e:(fun (m:Nat)=>xs[((i:Int) + (m:Int) * 1).toNat]?)=fun m=>xs[i + m]?:=by
    funext m
    have:((i:Int) + (m:Int) * 1).toNat=i + m:=by omega
    rw [this]
  rw [e]
  have:=pick_run xs i k
  rw [List.filterMap_map] at this
  have e2:((fun x=>xs[x]?) ∘ fun x=>i + x)=fun m=>xs[i + m]?:=rfl
  rw [e2] at this
  rw [this]
theorem getItem_tuple_cut {t sl:Addr} {items:Array Value} {vl vu:Value} {lo hi:Option Int} {Q:Value→Shared→Prop} (ht:IsTup s.heap t items) (hs:s.heap.IsSliceOf sl vl vu .none) (pl:IsPart vl lo) (pu:IsPart vu hi)
    (hw:¬(sIx items.size 0 lo=0∧sIx items.size items.size hi=items.size))
    (h:Q (.ref s.heap.objs.size) { s with heap:=s.heap.push { cls:=.type "tuple",data:=.seq ((items.toList.drop (sIx items.size 0 lo)).take (sIx items.size items.size hi - sIx items.size 0 lo)).toArray } })
    (hsz:items.size≤sizeLine):wpAny (model prog w) A (getItem (.ref t) (.ref sl)) Q E s:=by
  have htake:sizeOk (.seq ((items.toList.drop (sIx items.size 0 lo)).take (sIx items.size items.size hi - sIx items.size 0 lo)).toArray):=by
    show ((items.toList.drop (sIx items.size 0 lo)).take (sIx items.size items.size hi - sIx items.size 0 lo)).toArray.size≤sizeLine
    rw [List.size_toArray,List.length_take,List.length_drop,Array.length_toList]
    omega
  have hj:sIx items.size items.size hi≤items.size:=sIx_le _ _ (Nat.le_refl _) hi
  obtain ⟨os,hos,hcs,hds⟩:=id hs
  have hTs:s.TypeIs (.ref sl) "slice":=⟨os,hos,hcs⟩
  unfold getItem
  try with_reducible refine wpAny_holding ?_
  first | refine wpAny_bind (wpAny_pure ?_) | skip
  refine wpAny_bind (wpAny_sequenceKey ht.typeIs (by decide) ?_)
  refine wpAny_bind (wpAny_callSpecial?_slot (name:=Str.ofString "__getitem__") ht.typeIs PyProof.Rows.slot_tuple_getitem
    (wpAny_call_entry PyProof.Rows.slot_tuple_getitem ht.typeIs entry_tuple_getitem ?_ (args_tuple_getitem _ _)))
  show wpAny _ _ (Builtin.Tuple.tupleItemsOf (.ref t) >>= _) _ _ s
  refine wpAny_bind (tupleItemsOf_ ht ?_)
  refine wpAny_bind (wpAny_typeOf hTs ?_)
  rw [if_pos (by decide)]
  refine wpAny_bind (sliceApplied_gen hs pl pu ?_)
  have hno:¬((((sIx items.size 0 lo:Nat):Int) == 0 && (1:Int) == 1 && (sIx items.size items.size hi - sIx items.size 0 lo) == items.size)=true):=by
    intro q
    rw [Bool.and_eq_true,Bool.and_eq_true] at q
    have q1:((sIx items.size 0 lo:Nat):Int)=0:=eq_of_beq q.1.1
    have q2:sIx items.size items.size hi - sIx items.size 0 lo=items.size:=eq_of_beq q.2
    exact hw ⟨by omega,by omega⟩
  show wpAny _ _ (if (((sIx items.size 0 lo:Nat):Int) == 0 && (1:Int) == 1 && (sIx items.size items.size hi - sIx items.size 0 lo) == items.size)=true then _ else _) _ _ s
  rw [if_neg hno,pick_gen]
  first
    | exact wpAny_bind (m:=Builtin.Tuple.tupleExact _) (wpAny_newObj_type (wpAny_pure ⟨_,rfl,wpAny_pure h⟩) htake)
    | exact wpAny_bind (m:=Builtin.Tuple.tupleExact _) (wpAny_newObj_type (wpAny_bind (wpAny_pure (wpAny_pure ⟨_,rfl,wpAny_pure h⟩))) htake)
    | exact wpAny_bind (wpAny_bind (m:=Builtin.Tuple.tupleExact _) (wpAny_newObj_type (wpAny_pure (wpAny_pure ⟨_,rfl,wpAny_pure h⟩)) htake))
    | exact wpAny_bind (wpAny_bind (m:=Builtin.Tuple.tupleExact _) (wpAny_newObj_type (wpAny_pure ⟨_,rfl,wpAny_pure h⟩) htake))
end
end HT
namespace L2
open PySem PySem.Spec PyProof.Rows
abbrev TO:=St→Hp→(Option Int→Hp→Prop)→Prop
def PO (X:Cx) (e:Option Expr) (t:TO):Prop:=
  ∀(pins:List (Addr × Obj)) (s:Shared) (σ:St) (H:Hp) (Q:Option Int→Hp→Prop),Inv X pins σ H s→t σ H Q→
    wpAny (model X.prog X.w) X.A (evalPart e X.env) (fun u s'=>∃o H',Inv X pins σ H' s'∧IsPart u o∧Q o H') X.xe s
def tNoPart:TO:=fun _ H Q=>Q none H
def tPart (t:TE):TO:=fun σ H Q=>t σ H fun x H1=>∃i,x = .int i∧Q (some i) H1
theorem intsAre_of {ns:List Int}:∀{us:List Value},Vals (ns.map V.int) us→IntsAre us ns:=by
  induction ns with
  | nil=>intro us r; rw [List.map_nil] at r; cases r; exact .nil
  | cons n ns ih=>
    intro us r
    rw [List.map_cons] at r
    cases r with
    | cons r1 r2=>
      obtain ⟨t,e⟩:=r1
      subst e
      exact .cons n t (ih r2)
section
variable {X:Cx} {e:Expr} {te:TE} {lo hi:Option Expr} {tl th:TO} {pos p2:Pos}
theorem po_none:PO X none tNoPart:=by
  intro pins s σ H Q I h
  rw [evalPart_none]
  exact wpAny_pure ⟨none,H,I,.none,h⟩
theorem po_some (h:PE X e te):PO X (some e) (tPart te):=by
  intro pins s σ H Q I hw
  rw [evalPart_some]
  refine thn (h pins s σ H _ I hw) fun u s1 ⟨x,H1,I1,r1,q1⟩=>?_
  obtain ⟨i,rfl,q⟩:=q1
  obtain ⟨t,rfl⟩:=r1
  exact ⟨some i,H1,I1,.int i t,q⟩
def SlR (X:Cx) (r:V→Option Int→Option Int→Hp→VK→Prop):Prop:=
  ∀(pins:List (Addr × Obj)) (s:Shared) (σ:St) (H:Hp) (x:V) (v vl vu:Value) (lo hi:Option Int) (sl:Addr) (Q:VK),Inv X pins σ H s→RelV x v→s.heap.IsSliceOf sl vl vu .none→IsPart vl lo→IsPart vu hi→r x lo hi H Q→
    ∃T id,typeLookup (.type T) "__getitem__" = pure (some (.builtin id))∧s.TypeIs v T∧wpAny (model X.prog X.w) X.A (getItem v (.ref sl)) (EP X pins σ Q) X.xe s
def tSl (r:V→Option Int→Option Int→Hp→VK→Prop) (te:TE) (tl th:TO):TE:=fun σ H Q=>te σ H fun x H1=>tl σ H1 fun l H2=>th σ H2 fun u H3=>r x l u H3 Q
theorem pe_slice {r:V→Option Int→Option Int→Hp→VK→Prop} (hr:SlR X r) (he:PE X e te) (hl:PO X lo tl) (hu:PO X hi th):PE X (.Subscript e (.Slice lo hi none p2) pos) (tSl r te tl th):=by
  intro pins s σ H Q I h
  refine Subscript_ (thn (he pins s σ H _ I h) fun v s1 ⟨x,H1,I1,r1,q1⟩=>?_)
  refine wpAny_Slice (thn (hl pins s1 σ H1 _ I1 q1) fun vl s2 ⟨l,H2,I2,pl,q2⟩=>thn (hu pins s2 σ H2 _ I2 q2) fun vu s3 ⟨u,H3,I3,pu,q3⟩=>?_)
  rw [evalPart_none]
  refine wpAny_pure ?_
  have I4:Inv X pins σ H3 { s3 with heap:=s3.heap.push { cls:=.type "slice",data:=.fields #[vl,vu,.none] } }:=I3.kept (t':=s3.toks) fun b ob q=>Heap.get?_push_of_some _ q
  obtain ⟨T,id,hT,ht,hg⟩:=hr pins { s3 with heap:=s3.heap.push { cls:=.type "slice",data:=.fields #[vl,vu,.none] } } σ H3 x v vl vu l u s3.heap.objs.size Q I4 r1 (Heap.IsSliceOf.new ..) pl pu q3
  show wpAny (model X.prog X.w) X.A (subscriptTail e (.Slice lo hi none p2) v (.ref s3.heap.objs.size)) (EP X pins σ Q) X.xe { s3 with heap:=s3.heap.push { cls:=.type "slice",data:=.fields #[vl,vu,.none] } }
  exact tail_any (ops:=[.ref s3.heap.objs.size,v]) ht hT hg (by with_unfolding_all rfl)
def cutV (xs:List V) (lo hi:Option Int):List V:=(xs.drop (HT.sIx xs.length 0 lo)).take (HT.sIx xs.length xs.length hi - HT.sIx xs.length 0 lo)
theorem cutV_length (xs:List V) (lo hi:Option Int):(cutV xs lo hi).length≤xs.length:=by
  unfold cutV
  rw [List.length_take,List.length_drop]
  omega
def rSlT (K:PySem.W.Frag):V→Option Int→Option Int→Hp→VK→Prop:=fun x lo hi H Q=>∃a xs,x = .ref a∧SqT K H a xs∧
  ¬(HT.sIx xs.length 0 lo=0∧HT.sIx xs.length xs.length hi=xs.length)∧∀p,H p=none→Q (.ref p) (upd H p (.tup (cutV xs lo hi)))
theorem sl_tup:SlR X (rSlT X.K):=by
  intro pins s σ H x v vl vu lo hi sl Q I rx hs pl pu h
  obtain ⟨a,xs,rfl,hx,hw,q⟩:=h
  cases rx
  obtain ⟨its,r,ht,hz⟩:=I.tuple hx
  have hlen:its.toArray.size=xs.length:=by rw [List.size_toArray]; exact r.length.symm
  refine ⟨"tuple",_,PyProof.Rows.slot_tuple_getitem.lookup,ht.typeIs,?_⟩
  refine HT.getItem_tuple_cut ht hs pl pu (by rw [hlen]; exact hw) ?_ (by rw [hlen]; exact hz)
  rw [hlen]
  refine ⟨.ref s.heap.objs.size,_,I.laid (t':=s.toks) (o:=.tup (cutV xs lo hi)) (fun b ob q=>Heap.get?_push_of_some _ q) (Nat.le_refl _) ?_,rfl,q _ (I.hok.fresh (Nat.le_refl _))⟩
  exact ⟨Nat.le_trans (cutV_length xs lo hi) hz,_,(r.drop (HT.sIx xs.length 0 lo)).take (HT.sIx xs.length xs.length hi - HT.sIx xs.length 0 lo),IsTup.new _ _⟩
def rCatT (K:PySem.W.Frag):R2:=fun x y H Q=>∃a b xs ys,x = .ref a∧y = .ref b∧SqT K H a xs∧SqT K H b ys∧xs≠[]∧xs.length + ys.length≤sizeLine∧
  (ys=[]→Q (.ref a) H)∧(ys≠[]→∀p,H p=none→Q (.ref p) (upd H p (.tup (xs++ys))))
theorem Vals.nil_iff {xs:List V} {us:List Value} (r:Vals xs us):us=[]↔xs=[]:=by
  cases r with
  | nil=>simp
  | cons _ _=>simp
theorem op_catT:OpR X (binaryOp .Add) (rCatT X.K):=by
  intro pins s σ H x y v u Q I rx ry h
  obtain ⟨a,b,xs,ys,rfl,rfl,ha,hb,hx,hz,q1,q2⟩:=h
  cases rx
  cases ry
  obtain ⟨its,r1,p1,_⟩:=I.tuple ha
  obtain ⟨its2,r2,p2,_⟩:=I.tuple hb
  refine HT.cat_tup p1 p2 (fun z=>hx (r1.nil_iff.mp z)) (fun z=>⟨.ref a,H,I,rfl,q1 (r2.nil_iff.mp z)⟩) (fun z=>?_) (by rw [←r1.length,←r2.length]; exact hz)
  refine ⟨.ref s.heap.objs.size,_,I.laid (t':=s.toks) (o:=.tup (xs++ys)) (fun b ob q=>Heap.get?_push_of_some _ q) (Nat.le_refl _) ?_,rfl,q2 (fun w=>z (r2.nil_iff.mpr w)) _ (I.hok.fresh (Nat.le_refl _))⟩
  exact ⟨by rw [List.length_append]; exact hz,_,r1.append r2,IsTup.new _ _⟩
end
end L2
namespace L2
open PySem PySem.Spec PyProof.Rows
def ixN (n:Nat) (i:Int):Option Nat:=if 0≤i then (if i < n then some i.toNat else none) else if -(n:Int)≤i then some (i + n).toNat else none
def atI {α:Type} (xs:List α) (i:Int):Option α:=(ixN xs.length i).bind fun j=>xs[j]?
theorem ixN_seq {n:Nat} {i:Int} {j:Nat} (h:ixN n i=some j):seqIndex? i n=some j∧j < n∧-(n:Int)≤i∧i < n:=by
  unfold ixN at h
  by_cases h0:0≤i
  · rw [if_pos h0] at h
    by_cases h1:i < n
    · rw [if_pos h1] at h
      have e:i.toNat=j:=Option.some.inj h
      exact ⟨by rw [seqIndex_of h0 h1,e],by omega,by omega,h1⟩
    · rw [if_neg h1] at h; cases h
  · rw [if_neg h0] at h
    by_cases h1:-(n:Int)≤i
    · rw [if_pos h1] at h
      have e:(i + n).toNat=j:=Option.some.inj h
      exact ⟨by rw [seqIndex_neg (by omega) h1,e],by omega,h1,by omega⟩
    · rw [if_neg h1] at h; cases h
theorem atI_get {α:Type} {xs:List α} {i:Int} {v:α} (h:atI xs i=some v):∃j,seqIndex? i xs.length=some j∧xs[j]? = some v∧j < xs.length∧-(xs.length:Int)≤i∧i < xs.length:=by
  unfold atI at h
  cases e:ixN xs.length i with
  | none=>rw [e] at h; cases h
  | some j=>
    rw [e] at h
    obtain ⟨h1,h2,h3,h4⟩:=ixN_seq e
    exact ⟨j,h1,h,h2,h3,h4⟩
theorem atI_nat {α:Type} {xs:List α} {j:Nat} {v:α} (h:xs[j]? = some v):atI xs (j:Int)=some v:=by
  have hj:j < xs.length:=(List.getElem?_eq_some_iff.mp h).1
  have e:ixN xs.length (j:Int)=some j:=by
    unfold ixN
    rw [if_pos (by omega),if_pos (by omega)]; simp
  unfold atI; rw [e]; exact h
def PlainIx (b:Expr):Prop:=∀o i,subscripted b false o i=operate [o,i] (getItem o i)
def IxR (X:Cx) (r:R2):Prop:=
  ∀(value slice:Expr) (pins:List (Addr × Obj)) (s:Shared) (σ:St) (H:Hp) (x y:V) (v u:Value) (Q:VK),Inv X pins σ H s→RelV x v→RelV y u→r x y H Q→
    subscripted slice false v u=operate [v,u] (getItem v u)→wpAny (model X.prog X.w) X.A (subscriptTail value slice v u) (EP X pins σ Q) X.xe s
def MtR (X:Cx) (id:String) (r:V→List V→Hp→VK→Prop):Prop:=
  ∀(pins:List (Addr × Obj)) (s:Shared) (σ:St) (H:Hp) (x:V) (xs:List V) (v:Value) (us:List Value) (Q:VK),Inv X pins σ H s→RelV x v→Vals xs us→r x xs H Q→
    wpAny (model X.prog X.w) X.A (call (.builtin id) (v :: us)) (EP X pins σ Q) X.xe s
section
variable {X:Cx} {a b:Expr} {ta tb:TE} {pos:Pos}
theorem pe_ix {r:R2} (hr:IxR X r) (ha:PE X a ta) (hb:PE X b tb) (hs:PlainIx b):PE X (.Subscript a b pos) (tOp r ta tb):=by
  intro pins s σ H Q I h
  exact Subscript_ (binT ha hb I h fun v u s2 x y H2 I2 rx ry q=>hr a b pins s2 σ H2 x y v u Q I2 rx ry q (hs _ _))
def rIxL (K:PySem.W.Frag):R2:=fun x y H Q=>∃p xs i v,x = .ref p∧y = .int i∧SqL K H p xs∧atI xs i=some v∧Q v H
def rIxT (K:PySem.W.Frag):R2:=fun x y H Q=>∃p xs i v,x = .ref p∧y = .int i∧SqT K H p xs∧atI xs i=some v∧Q v H
theorem ix_list:IxR X (rIxL X.K):=by
  intro value slice pins s σ H x y v u Q I rx ry h hs
  obtain ⟨p,xs,i,z,rfl,rfl,hq,he,q⟩:=h
  cases rx
  obtain ⟨t,rfl⟩:=ry
  obtain ⟨its,r,pl,hz⟩:=I.list hq
  obtain ⟨j,h1,h2,h3,h4,h5⟩:=atI_get he
  obtain ⟨w,ew,rw'⟩:=r.get h2
  have hl:=r.length
  have hn:=line63
  have fin:EP X pins σ Q w s:=⟨z,H,I,rw',q⟩
  by_cases h0:0≤i
  · have hj:i.toNat=j:=by
      rw [seqIndex_of h0 h5] at h1
      exact Option.some.inj h1
    exact item_listR pl.isList h0 (by omega) (by rw [hj]; simpa using ew) fin hs
  · have hj:(i + (its.toArray.size:Int)).toNat=j:=by
      rw [seqIndex_neg (by omega) h4] at h1
      rw [List.size_toArray,←hl]
      exact Option.some.inj h1
    exact subscriptTail_builtinR (x:=w) pl.isList.typeIs slot_list_getitem.lookup
      (wpAny_getItem_list_neg (Q:=fun r s'=>r=w∧EP X pins σ Q r s') pl.isList (by omega) (by rw [List.size_toArray] <;> omega) (by omega) (by rw [hj]; simpa using ew) ⟨rfl,fin⟩) hs
theorem ix_tup:IxR X (rIxT X.K):=by
  intro value slice pins s σ H x y v u Q I rx ry h hs
  obtain ⟨p,xs,i,z,rfl,rfl,hq,he,q⟩:=h
  cases rx
  obtain ⟨t,rfl⟩:=ry
  obtain ⟨its,r,pl,hz⟩:=I.tuple hq
  obtain ⟨j,h1,h2,h3,h4,h5⟩:=atI_get he
  obtain ⟨w,ew,rw'⟩:=r.get h2
  have hl:=r.length
  have hn:=line63
  have fin:EP X pins σ Q w s:=⟨z,H,I,rw',q⟩
  exact subscriptTail_builtinR (x:=w) pl.typeIs slot_tuple_getitem.lookup
    (getItem_tuple (j:=j) (Q:=fun r s'=>r=w∧EP X pins σ Q r s') pl (by omega) (by omega) (by rw [List.size_toArray,←hl]; exact h1) (by simpa using ew) ⟨rfl,fin⟩) hs
theorem mapSeq_set (its:List Value) (n j:Nat) (u:Value):Obj.mapSeq (·.setIfInBounds j u) { cls:=.type "list",data:=.seq its.toArray n }={ cls:=.type "list",data:=.seq (its.set j u).toArray n }:=by
  simp [Obj.mapSeq]
theorem Inv.lst {pins:List (Addr × Obj)} {σ:St} {H:Hp} {s:Shared} {p:Addr} {xs:List V} (I:Inv X pins σ H s) (h:H p=some (.lst xs)) :
    ∃(its:List Value) (n:Nat),Vals xs its∧s.heap.get? p=some { cls:=.type "list",data:=.seq its.toArray n }∧xs.length≤sizeLine:=by
  obtain ⟨z,its,n,r,e⟩:=I.hok p _ h
  exact ⟨its,n,r,e,z⟩
theorem Inv.lstUpd {pins:List (Addr × Obj)} {σ:St} {H:Hp} {s:Shared} {p:Addr} {xs ys:List V} {its its':List Value} {n n':Nat} {f:Obj→Obj} (I:Inv X pins σ H s) (h:H p=some (.lst xs))
    (ho:s.heap.get? p=some { cls:=.type "list",data:=.seq its.toArray n }) (hf:f { cls:=.type "list",data:=.seq its.toArray n }={ cls:=.type "list",data:=.seq its'.toArray n' }) (r:Vals ys its') (hz:ys.length≤sizeLine) (t:Nat) :
    Inv X pins σ (upd H p (.lst ys)) { s with heap:=s.heap.update p f,toks:=t }:=by
  have e:(s.heap.update p f).get? p=some { cls:=.type "list",data:=.seq its'.toArray n' }:=by
    rw [Heap.get?_update_self f ho (by rw [hf] <;> rfl),hf]
  refine I.write (x:=p) (e:=p) (by rw [h]; trivial) (.inl rfl) (fun b u hb q=>(Heap.get?_update_other _ _ (Ne.symm hb)).trans q) ⟨_,e⟩ ?_
  exact ⟨hz,its',n',r,e⟩
def rSetL:V→V→V→Hp→(Hp→Prop)→Prop:=fun o i v H Q=>∃p xs k j,o = .ref p∧i = .int k∧H p=some (.lst xs)∧ixN xs.length k=some j∧Q (upd H p (.lst (xs.set j v)))
theorem set_list:PSet X rSetL:=by
  intro pins s σ H o i v ov iv u Q I ro ri rv h
  obtain ⟨p,xs,k,j,rfl,rfl,hp,hj,q⟩:=h
  cases ro
  obtain ⟨t,rfl⟩:=ri
  obtain ⟨its,n,r,ho,hz⟩:=I.lst hp
  obtain ⟨h1,h2,h3,h4⟩:=ixN_seq hj
  have hl:=r.length
  have hn:=line63
  have I':Inv X pins σ (upd H p (.lst (xs.set j v))) { s with heap:=s.heap.update p (Obj.mapSeq (·.setIfInBounds j u)) }:=
    I.lstUpd hp ho (mapSeq_set its n j u) (r.set rv j) (by rw [List.length_set]; exact hz) s.toks
  by_cases h0:0≤k
  · have hk:k.toNat=j:=by
      rw [seqIndex_of h0 h4] at h1
      exact Option.some.inj h1
    exact PySem.W.ki_setAt ho h0 (by omega) (by rw [List.size_toArray,←hl]; exact h4) (by rw [hk]; exact ⟨_,I',q⟩)
  · have hk:(k + (its.toArray.size:Int)).toNat=j:=by
      rw [seqIndex_neg (by omega) h3] at h1
      rw [List.size_toArray,←hl]
      exact Option.some.inj h1
    exact PySem.W.ki_setBack ho (by omega) (by rw [List.size_toArray,←hl]; exact h3) (by omega) (by rw [hk]; exact ⟨_,I',q⟩)
theorem slice_bounds (lo hi:Option Int) (n:Nat):(sliceBounds lo hi none n).1=((HT.sIx n 0 lo:Nat):Int)∧(sliceBounds lo hi none n).2.1=((HT.sIx n n hi:Nat):Int)∧(sliceBounds lo hi none n).2.2=1:=by
  refine ⟨?_,?_,rfl⟩
  · cases lo with
    | none=>simp [sliceBounds,HT.sIx]
    | some i=>
      simp only [sliceBounds,HT.sIx,Option.getD_none,show (1:Int) > 0 by decide,if_true]
      by_cases h:i < 0
      · simp only [h,if_true] <;> omega
      · simp only [h,if_false] <;> omega
  · cases hi with
    | none=>simp [sliceBounds,HT.sIx]
    | some i=>
      simp only [sliceBounds,HT.sIx,Option.getD_none,show (1:Int) > 0 by decide,if_true]
      by_cases h:i < 0
      · simp only [h,if_true] <;> omega
      · simp only [h,if_false] <;> omega
theorem slicePick_cut (its:List Value) (lo hi:Option Int):slicePick its.toArray lo hi none=((its.drop (HT.sIx its.length 0 lo)).take (HT.sIx its.length its.length hi - HT.sIx its.length 0 lo)).toArray:=by
  obtain ⟨h1,h2,h3⟩:=slice_bounds lo hi its.toArray.size
  unfold slicePick
  rw [h1,h2,h3]
  simp only [sliceRange_one,pick_run,List.size_toArray] <;> rfl
def rSlL (K:PySem.W.Frag):V→Option Int→Option Int→Hp→VK→Prop:=fun x lo hi H Q=>∃a xs,x = .ref a∧SqL K H a xs∧∀p,H p=none→Q (.ref p) (upd H p (.lst (cutV xs lo hi)))
theorem sl_list:SlR X (rSlL X.K):=by
  intro pins s σ H x v vl vu lo hi sl Q I rx hs pl pu h
  obtain ⟨a,xs,rfl,hx,q⟩:=h
  cases rx
  obtain ⟨its,r,ht,hz⟩:=I.list hx
  have hlen:=r.length
  refine ⟨"list",_,slot_list_getitem.lookup,ht.isList.typeIs,?_⟩
  refine wpAny_getItem_list_slice ht.isList hs pl pu .none (by simp) ?_ (by rw [List.size_toArray] <;> omega)
  rw [slicePick_cut,←hlen]
  refine ⟨.ref s.heap.objs.size,_,I.laid (t':=s.toks) (o:=.lst (cutV xs lo hi)) (fun b ob q=>Heap.get?_push_of_some _ q) (Nat.le_refl _) ?_,rfl,q _ (I.hok.fresh (Nat.le_refl _))⟩
  exact ⟨Nat.le_trans (cutV_length xs lo hi) hz,_,0,(r.drop (HT.sIx xs.length 0 lo)).take (HT.sIx xs.length xs.length hi - HT.sIx xs.length 0 lo),Heap.get?_push_size _ rfl⟩
def flatV:V→Bool
  | .non=>true
  | .bl _=>true
  | .int _=>true
  | .str _=>true
  | _=>false
def eqV:V→V→Bool
  | .non,.non=>true
  | .bl a,.bl b=>a == b
  | .bl a,.int b=>(if a then 1 else 0) == b
  | .int a,.bl b=>a == (if b then 1 else 0)
  | .int a,.int b=>a == b
  | .str a,.str b=>a == b
  | _,_=>false
theorem eqAt_V {A:Around} {s:Shared} {y x:V} {u v:Value} (ry:RelV y u) (rx:RelV x v) (fy:flatV y=true) (fx:flatV x=true):SeqAt.EqAt A s u v (eqV y x):=by
  cases y with
  | non=>
    cases ry
    cases x with
    | non=>cases rx; exact SeqAt.EqAt.same _
    | bl b=>cases rx; exact SeqAt.EqAt.none_bool b
    | int b=>obtain ⟨t,rfl⟩:=rx; exact SeqAt.EqAt.none_int b t
    | str b=>obtain ⟨t,rfl⟩:=rx; exact SeqAt.EqAt.none_str b t
    | _=>exact absurd (show false=true from fx) Bool.false_ne_true
  | bl a=>
    cases ry
    cases x with
    | non=>cases rx; exact SeqAt.EqAt.bool_none a
    | bl b=>cases rx; exact SeqAt.EqAt.bool_bool a b
    | int b=>obtain ⟨t,rfl⟩:=rx; exact SeqAt.EqAt.bool_int a b t
    | str b=>obtain ⟨t,rfl⟩:=rx; exact SeqAt.EqAt.bool_str a b t
    | _=>exact absurd (show false=true from fx) Bool.false_ne_true
  | int a=>
    obtain ⟨t',rfl⟩:=ry
    cases x with
    | non=>cases rx; exact SeqAt.EqAt.int_none a t'
    | bl b=>cases rx; exact SeqAt.EqAt.int_bool a t' b
    | int b=>obtain ⟨t,rfl⟩:=rx; exact SeqAt.EqAt.int_int a t' b t
    | str b=>obtain ⟨t,rfl⟩:=rx; exact SeqAt.EqAt.int_str a t' b t
    | _=>exact absurd (show false=true from fx) Bool.false_ne_true
  | str a=>
    obtain ⟨t',rfl⟩:=ry
    cases x with
    | non=>cases rx; exact SeqAt.EqAt.str_none a t'
    | bl b=>cases rx; exact SeqAt.EqAt.str_bool a t' b
    | int b=>obtain ⟨t,rfl⟩:=rx; exact SeqAt.EqAt.str_int a t' b t
    | str b=>obtain ⟨t,rfl⟩:=rx; exact SeqAt.EqAt.str_str a t' b t
    | _=>exact absurd (show false=true from fx) Bool.false_ne_true
  | _=>exact absurd (show false=true from fy) Bool.false_ne_true
theorem call_len_seq:CallR X (.builtin "len") (fun xs H Q=>∃p ys,xs=[.ref p]∧(SqL X.K H p ys∨SqT X.K H p ys)∧Q (.int ys.length) H):=by
  intro pins s σ H xs us Q I r h
  obtain ⟨p,ys,rfl,hq,q⟩:=h
  obtain ⟨u,rfl,rx⟩:=vals1 r
  cases rx
  have hn:=line63
  rcases hq with hq | hq
  · obtain ⟨its,r',pl,hz⟩:=I.list hq
    have hlen:=r'.length
    exact Calls.call_len_list pl.isList (by simp only [List.size_toArray] <;> omega) ⟨.int ys.length,H,I.tok _,⟨s.toks + 1,by rw [List.size_toArray,hlen]⟩,q⟩
  · obtain ⟨its,r',pl,hz⟩:=I.tuple hq
    have hlen:=r'.length
    exact len_tuple pl (by simp only [List.size_toArray] <;> omega) ⟨.int ys.length,H,I.tok _,⟨s.toks + 1,by rw [List.size_toArray,hlen]⟩,q⟩
theorem call_list_of:CallR X (.type "list") (fun xs H Q=>∃p ys,xs=[.ref p]∧(SqL X.K H p ys∨SqT X.K H p ys)∧∀l,H l=none→Q (.ref l) (upd H l (.lst ys))):=by
  intro pins s σ H xs us Q I r h
  obtain ⟨p,ys,rfl,hq,q⟩:=h
  obtain ⟨u,rfl,rx⟩:=vals1 r
  cases rx
  have fin:∀(its:List Value),Vals ys its→ys.length≤sizeLine→∀(h':Heap) (c':Nat),(∀b o',s.heap.get? b=some o'→h'.get? b=some o')→
      h'.get? s.heap.objs.size=some { cls:=.type "list",dict:=none,data:=.seq its.toArray c',slots:=#[] }→EP X pins σ Q (.ref s.heap.objs.size) { s with heap:=h' }:=fun its r' hz h' c' kp e=>
    ⟨.ref s.heap.objs.size,_,I.laid (t':=s.toks) kp (Nat.le_refl _) (show ObjOk X.prog X.w _ h' _ (.lst ys) from ⟨hz,its,c',r',e⟩),rfl,q _ (I.hok.fresh (Nat.le_refl _))⟩
  rcases hq with hq | hq
  · obtain ⟨its,r',pl,hz⟩:=I.list hq
    have hlen:=r'.length
    obtain ⟨o,ho,hc,n,hd⟩:=pl.isList
    exact call_list_seq p (.inl rfl) ho hc hd (fun h' c' kp e=>fin its r' hz h' c' kp e) (by simp only [List.size_toArray] <;> omega)
  · obtain ⟨its,r',pl,hz⟩:=I.tuple hq
    have hlen:=r'.length
    obtain ⟨o,ho,hc,n,hd⟩:=pl
    exact call_list_seq p (.inr rfl) ho hc hd (fun h' c' kp e=>fin its r' hz h' c' kp e) (by simp only [List.size_toArray] <;> omega)
theorem call_tuple_of:CallR X (.type "tuple") (fun xs H Q=>∃p ys,xs=[.ref p]∧((SqL X.K H p ys∧∀l,H l=none→Q (.ref l) (upd H l (.tup ys)))∨(SqT X.K H p ys∧Q (.ref p) H))):=by
  intro pins s σ H xs us Q I r h
  obtain ⟨p,ys,rfl,h⟩:=h
  obtain ⟨u,rfl,rx⟩:=vals1 r
  cases rx
  rcases h with ⟨hq,q⟩ | ⟨hq,q⟩
  · obtain ⟨its,r',pl,hz⟩:=I.list hq
    have hlen:=r'.length
    refine call_tuple_list pl.isList (fun h' kp=>?_) (by simp only [List.size_toArray] <;> omega)
    have I1:Inv X pins σ H { s with heap:=h' }:=I.kept (t':=s.toks) kp
    have I2:Inv X pins σ (upd H h'.objs.size (.tup ys)) { s with heap:=h'.push { cls:=.type "tuple",data:=.seq its.toArray } }:=
      I1.laid (t':=s.toks) (fun b o e=>Heap.get?_push_of_some _ e) (Nat.le_refl _) (show ObjOk X.prog X.w _ _ _ (.tup ys) from ⟨hz,its,r',IsTup.new _ _⟩)
    exact ⟨.ref h'.objs.size,_,I2,rfl,q _ (I1.hok.fresh (Nat.le_refl _))⟩
  · obtain ⟨its,r',pl,hz⟩:=I.tuple hq
    exact call_tuple_same pl ⟨.ref p,H,I,rfl,q⟩
def tyV (K:PySem.W.Frag) (T:String) (x:V) (H:Hp):Prop:=match x with
  | .str _=>T = "str"
  | .int _=>T = "int"
  | .ref p=>(T = "list"∧∃xs,SqL K H p xs)∨(T = "tuple"∧∃o,K.lookup p=some o∧o.cls = .type "tuple"∧o.dict=none)∨
      (T = "dict"∧((∃kvs,H p=some (.dK kvs))∨∃kvs,H p=some (.dT kvs)))∨(T = "set"∧∃S n,H p=some (.set S n))
  | _=>False
theorem tyV_is {pins:List (Addr × Obj)} {σ:St} {H:Hp} {s:Shared} {T:String} {x:V} {v:Value} (I:Inv X pins σ H s) (r:RelV x v) (ty:tyV X.K T x H) :
    s.TypeIs v T∧∀a,v = .ref a→∃ob,s.heap.get? a=some ob∧ob.dict=none:=by
  cases x with
  | str z=>
    obtain ⟨t,rfl⟩:=r
    cases (show T = "str" from ty)
    exact ⟨typeIs_str s z t,fun _ e=>nomatch e⟩
  | int i=>
    obtain ⟨t,rfl⟩:=r
    cases (show T = "int" from ty)
    exact ⟨typeIs_int s i t,fun _ e=>nomatch e⟩
  | ref p=>
    cases r
    rcases ty with ⟨rfl,xs,hq⟩ | ⟨rfl,o,hk,hc,hd⟩ | ⟨rfl,hk⟩ | ⟨rfl,S,n,hk⟩
    · obtain ⟨its,_,pl,_⟩:=I.list hq
      refine ⟨pl.isList.typeIs,fun a e=>?_⟩
      cases e
      obtain ⟨o,n,e,c,hd,_⟩:=pl
      exact ⟨o,e,hd⟩
    · refine ⟨⟨o,I.kIn p o hk,hc⟩,fun a e=>?_⟩
      cases e
      exact ⟨o,I.kIn _ o hk,hd⟩
    · have z:∃o,s.heap.get? p=some o∧o.ExactDict:=by
        rcases hk with ⟨kvs,hk⟩ | ⟨kvs,hk⟩
        · obtain ⟨_,_,_,_,o,_,_,e,ex,_⟩:=I.hok p _ hk
          exact ⟨o,e,ex⟩
        · obtain ⟨_,_,_,_,o,_,_,e,ex,_⟩:=I.hok p _ hk
          exact ⟨o,e,ex⟩
      obtain ⟨o,e,ex⟩:=z
      refine ⟨⟨o,e,ex.1⟩,fun a e2=>?_⟩
      cases e2
      exact ⟨o,e,ex.2.1⟩
    · obtain ⟨o,_,_,_,e,ex,_⟩:=I.hok p _ hk
      refine ⟨⟨o,e,ex.1⟩,fun a e2=>?_⟩
      cases e2
      exact ⟨o,e,ex.2.1⟩
  | _=>exact False.elim ty
def tBM0 (K:PySem.W.Frag) (T:String) (r:V→List V→Hp→VK→Prop) (to:TE):TE:=fun σ H Q=>to σ H fun x H1=>tyV K T x H1∧r x [] H1 Q
def tBM (K:PySem.W.Frag) (T:String) (r:V→List V→Hp→VK→Prop) (to:TE) (t:TA):TE:=fun σ H Q=>to σ H fun x H1=>tyV K T x H1∧t σ H1 fun xs H2=>r x xs H2 Q
variable {o e:Expr} {es:List Expr} {to:TE} {t:TA} {name:Str} {apos cpos:Pos} {T id:String} {r:V→List V→Hp→VK→Prop}
theorem pe_bm0 (pa:PlainAttrs T) (slot:Slot T name id) (hty:typeOf (.builtin id)=pure (.type "method_descriptor")) (hm:MtR X id r) (ho:PE X o to)
    (hbase:attributeBase o name X.env (eval o X.env)=eval o X.env:=by rfl) (hline:(apos.endLine == cpos.line)=true:=by rfl):PE X (.Call (.Attribute o name apos) [] [] cpos) (tBM0 X.K T r to):=by
  intro pins s σ H Q I h
  refine wpAny_Call_method0_late hbase hline (thn (ho pins s σ H _ I h) fun v s1 ⟨x,H1,I1,r1,ty,q1⟩=>?_)
  obtain ⟨h1,h2⟩:=tyV_is I1 r1 ty
  exact ⟨T,id,pa,slot,hty,h1,h2,Calls.callWith_builtin rfl (PySem.evalArgs_none (hm pins s1 σ H1 x [] v [] Q I1 r1 .nil q1))⟩
theorem pe_bm (pa:PlainAttrs T) (slot:Slot T name id) (hty:typeOf (.builtin id)=pure (.type "method_descriptor")) (hm:MtR X id r) (ho:PE X o to) (ha:PA X (e :: es) t)
    (hbase:attributeBase o name X.env (eval o X.env)=eval o X.env:=by rfl)
    (hfew:((backTo cpos (starEach (e :: es) X.env)).all (fun x=>!x.1) && (backToKw cpos (keywordEach [] X.env)).all (fun x=>x.1.isSome)
      && decide ((e :: es).length + ([]:List Keyword).length + (if ([]:List Keyword).isEmpty then 0 else 1) < 30))=true:=by rfl)
    (hline:(apos.endLine == cpos.line)=true:=by rfl) (hs:starEach (e :: es) X.env=(false,eval e X.env) :: starEach es X.env:=by rfl) (hplain:(backTo cpos (starEach es X.env)).any (·.1)=false:=by rfl) :
    PE X (.Call (.Attribute o name apos) (e :: es) [] cpos) (tBM X.K T r to t):=by
  intro pins s σ H Q I h
  refine wpAny_Call_method_late hbase hfew hline rfl (thn (ho pins s σ H _ I h) fun v s1 ⟨x,H1,I1,r1,ty,q1⟩=>?_)
  obtain ⟨h1,h2⟩:=tyV_is I1 r1 ty
  refine ⟨T,id,pa,slot,hty,h1,h2,?_⟩
  have hA:=ha cpos pins s1 σ H1 _ I1 q1
  rw [hs] at hA ⊢
  refine Calls.callWith_builtin (by show (false || (backTo cpos (starEach es X.env)).any (·.1))=false; rw [hplain] <;> rfl) (Calls.evalArgs_plain ?_)
  exact thn hA fun us s2 ⟨vs,H2,I2,r2,q2⟩=>hm pins s2 σ H2 x vs v us Q I2 r1 r2 q2
/- xs.append(e),list.index on a module's tuple .. are MtR facts of 06m -/
end
end L2
namespace L2
open PySem PySem.Spec PyProof.Rows
def MtM (X:Cx) (id:String) (r:V→List V→Hp→VK→Prop):Prop:=
  ∀(pins:List (Addr × Obj)) (s:Shared) (σ:St) (H:Hp) (x:V) (xs:List V) (v:Value) (us:List Value) (Q:VK),Inv X pins σ H s→RelV x v→Vals xs us→r x xs H Q→
    wpAny (model X.prog X.w) X.A (call (.builtin id) (v :: us)) (EP X pins σ Q) X.xe s
theorem Vals.one:∀{x:V} {us:List Value},Vals [x] us→∃u,us=[u]∧RelV x u
  | _,_,.cons r .nil=>⟨_,rfl,r⟩
theorem foldl_rep (its:List Value):∀(k:Nat) (acc:List Value),
    List.foldl (fun x1 x2=>x1++x2) acc.toArray (List.replicate k its.toArray)=(acc++(List.replicate k its).flatten).toArray
  | 0,acc=>by simp
  | k + 1,acc=>by
    have e:acc.toArray++its.toArray=(acc++its).toArray:=by simp
    have e2:(acc++its)++(List.replicate k its).flatten=acc++(List.replicate (k + 1) its).flatten:=by
      rw [List.replicate_succ,List.flatten_cons,List.append_assoc]
    rw [←e2,←foldl_rep its k (acc++its),←e,List.replicate_succ,List.foldl_cons]
section
variable {X:Cx} {pins:List (Addr × Obj)} {σ:St} {H:Hp} {s:Shared} {l b:Addr} {xs ys zs:List V}
theorem Inv.lset {its its':List Value} {n:Nat} {f:Array Value→Array Value} {t':Nat} (I:Inv X pins σ H s) (hH:H l=some (.lst xs))
    (e:s.heap.get? l=some { cls:=.type "list",data:=.seq its.toArray n }) (hf:f its.toArray=its'.toArray) (hv:Vals ys its') (hz:ys.length≤sizeLine) :
    Inv X pins σ (upd H l (.lst ys)) { s with heap:=s.heap.update l (Obj.mapSeq f),toks:=t' }:=by
  have q:=PySem.IsL.update e f
  rw [hf] at q
  refine I.write (x:=l) (e:=l) (by rw [hH]; exact trivial) (.inl rfl) (fun b' u hb hu=>(Heap.get?_update_other s.heap (Obj.mapSeq f) (Ne.symm hb)).trans hu) ⟨_,q⟩ ?_
  exact ⟨hz,its',_,hv,q⟩
theorem Inv.lnew {its:List Value} {t':Nat} (I:Inv X pins σ H s) (hv:Vals ys its) (hz:ys.length≤sizeLine) :
    Inv X pins σ (upd H s.heap.objs.size (.lst ys)) { s with heap:=s.heap.push { cls:=.type "list",data:=.seq its.toArray },toks:=t' }:=
  I.laid (fun _ _ q=>Heap.get?_push_of_some _ q) (Nat.le_refl _) ⟨hz,its,0,hv,Heap.get?_push_size _ rfl⟩
theorem Inv.fresh (I:Inv X pins σ H s):H s.heap.objs.size=none:=I.hok.fresh (Nat.le_refl _)
theorem Inv.lstM (I:Inv X pins σ H s) (hH:H l=some (.lst xs)):xs.length≤sizeLine∧∃(its:List Value) (n:Nat),Vals xs its∧xs.length=its.length∧s.heap.get? l=some { cls:=.type "list",data:=.seq its.toArray n }:=by
  obtain ⟨z,its,n,r,e⟩:=I.hok l _ hH
  exact ⟨z,its,n,r,r.length,e⟩
end
section
variable {X:Cx}
def rAppend:V→List V→Hp→VK→Prop:=fun x vs H Q=>∃l xs y,x = .ref l∧vs=[y]∧H l=some (.lst xs)∧xs.length < sizeLine∧Q .non (upd H l (.lst (xs++[y])))
theorem mt_append:MtM X "list.append" rAppend:=by
  intro pins s σ H x vs v us Q I rx rv h
  obtain ⟨l,xs,y,rfl,rfl,hH,hz,q⟩:=h
  cases rx
  obtain ⟨u,rfl,ru⟩:=rv.one
  obtain ⟨z,its,n,r,hl,e⟩:=I.lstM hH
  refine call_meets F.slot_list_append ⟨_,e,rfl⟩ F.entry_list_append (F.args_list_append_2 _ _) (PySem.list_append l its.toArray n u (by rw [List.size_toArray]; omega)) ⟨e,?_⟩
  refine ⟨.non,_,I.lset (its':=its++[u]) hH e (by simp) (r.append (.cons ru .nil)) ?_,rfl,q⟩
  rw [List.length_append,List.length_singleton]
  omega
def rCat:R2:=fun x y H Q=>∃l b xs zs,x = .ref l∧y = .ref b∧H l=some (.lst xs)∧H b=some (.lst zs)∧xs.length + zs.length≤sizeLine∧∀p,H p=none→Q (.ref p) (upd H p (.lst (xs++zs)))
theorem op_cat:OpR X (binaryOp .Add) rCat:=by
  intro pins s σ H x y v u Q I rx ry h
  obtain ⟨l,b,xs,zs,rfl,rfl,hH,hB,hz,q⟩:=h
  cases rx
  cases ry
  obtain ⟨z,its,n,r,hl,e⟩:=I.lstM hH
  obtain ⟨z2,its2,n2,r2,hl2,e2⟩:=I.lstM hB
  refine PySem.P.add_list e e2 ?_ (by rw [List.size_toArray,List.size_toArray]; omega)
  have ea:its.toArray++its2.toArray=(its++its2).toArray:=by simp
  rw [ea]
  exact ⟨.ref _,_,I.lnew (t':=s.toks) (r.append r2) (by rw [List.length_append]; omega),rfl,q _ I.fresh⟩
end
section
variable {prog:Program} {w:World} {A:Around} {E:Value→Shared→Prop} {s:Shared}
end
section
variable {X:Cx}
end
end L2
namespace Att
open PySem PySem.W PySem.Calls PyProof.Rows
theorem ints_of_wellAll {P:Params} {h:Heap}:∀(ns:List Int) (vs:List Value),WellAll P h vs (ns.map WData.int)→IntsAre vs ns:=by
  intro ns
  induction ns with
  | nil=>
    intro vs w
    rw [List.map_nil] at w
    cases w
    exact .nil
  | cons n ns ih=>
    intro vs w
    rw [List.map_cons] at w
    cases w with
    | cons a b=>
      cases a
      exact .cons _ _ (ih _ b)
theorem script_of {l:OpenLaw} {n:Nat} (hn:l.most=some n) {P:Params} {h:Heap} {args:List WData} {vals:List Value}
    (hpre:l.row.toRowW.claim.pre args=true) (hwl:WellAll P h vals args) :
    ∃a vs ns,vals=[Value.ref a]∧args=[WData.list (ns.map WData.int)]∧h.get? a=some { cls:=.type "list",data:=.seq vs.toArray }∧IntsAre vs ns∧ns.length≤n:=by
  have hsh:WShape.hasAll [] args [.list .int]=true:=(pre_splitW hpre).1
  have hc:l.pre.holds [] { args:=args }=true:=(pre_splitW hpre).2
  obtain ⟨d,r,rfl,h1,h2⟩:=hasAllW_cons hsh
  obtain rfl:=hasAllW_nil h2
  obtain ⟨xs,rfl,h3⟩:=hasW_list h1
  obtain ⟨ns,rfl⟩:=items_int h3
  have hlen:ns.length≤n:=by
    unfold OpenLaw.pre at hc
    have h4:(WTm.not (.lt (.lit (.int (n:Int))) (.len (.arg 0)))).holds [] { args:=[.list (ns.map .int)] }=true:=by
      have h4:=(holds_andW hc).1
      rw [hn] at h4
      exact h4
    have h5:=condW_of h4 (w_not (w_lt w_lit (w_len_list (w_arg rfl))))
    rw [List.length_map] at h5
    refine Nat.le_of_not_lt fun q=>?_
    have q':(n:Int) < ((ns.length:Nat):Int):=by omega
    first
      | (rw [decide_eq_true q'] at h5; exact absurd h5 (by decide))
      | (simp at h5; omega)
  cases hwl with
  | cons w1 w2=>
    cases w2
    cases w1 with
    | list ho hall=>exact ⟨_,_,ns,rfl,rfl,ho,ints_of_wellAll ns _ hall,hlen⟩
theorem post_true (l:OpenLaw) (args:List WData):l.row.toRowW.claim.post args (.bool true) args=true:=
  postW_of (r:=l.row.toRowW) (X:=(true == true))
    (show WShape.has [] (.bool true) .bool=true by first | rfl | decide | simp [WShape.has,WShape.arms,WShape.armsAll])
    (show (WTm.eq .res (.lit (.bool true))).value [] { args:=args,res:=some (.bool true),after:=args }=some (.bool (true == true)) from w_eq_bool (w_res rfl) w_lit) rfl
theorem attach_call {l:OpenLaw} {n:Nat} {q:Program} {loose:List Str} {XP:(Str→Option Value)→Heap→Prop} {YP:World→Heap→Prop} {d:DefRec}
    (hn:l.most=some n) (hdf:d.params.defaults=[])
    (call:∀(w:World) (s₀ s₁:Shared) (mg mb:Str→Option Value) (fa:Addr) (o:Obj) (pm cd doc:Value) (a:Addr) (vs:List Value) (ns:List Int),
      Ground q loose [] XP w s₀ mg mb s₁.heap→YP w s₁.heap→
      s₁.heap.get? fa=some o→o.data = .func (docDef d.name d.params d.body d.scope pm cd doc)→s₁.heap.CodeRec cd d.name→mg d.name=some (.ref fa)→
      s₁.heap.get? a=some { cls:=.type "list",data:=.seq vs.toArray }→IntsAre vs ns→ns.length≤n→s₁.gens = #[]→
      codeAny (model l.prog w) callerA (.call (.ref fa) ⟨[.ref a],[]⟩) (fun r s'=>r = .ok (.ret (.bool true))∧OldK s₁.heap s'.heap∧s'.os=s₁.os∧AllBare s'.gens) s₁) :
    WalkO q loose XP YP l.row.toRowW d [] (fun f vs=>PySem.call f vs):=by
  intro w s₀ s₁ mg mb G Y fa o pm cd doc dV kV ho hd hcd hD hmg hg args vals as hpre hlay hrd hwl hlo
  obtain rfl:dV = .none:=Dflts.none hD hdf
  obtain rfl:kV = .none:=Dflts.noKw hD
  obtain ⟨a,vs,ns,rfl,rfl,hobj,hints,hlen⟩:=script_of hn hpre hwl
  refine enter_call (codeAny_mono (call w s₀ s₁ mg mb fa o pm cd doc a vs ns G Y ho (fd_plain hd) hcd hmg hobj hints hlen hg) fun r s' hq=>?_)
  obtain ⟨rfl,h2,h3,h4⟩:=hq
  exact ⟨.inl ⟨.bool true,.bool true,[],rfl,fun _=>rfl,.bool true,post_true l _,fun _=>⟨List.Pairwise.nil,fun _ hm=>(nomatch hm)⟩⟩,h2,h3,h4⟩
section
variable {prog:Program} {w:World} {A:Around} {E:Value→Shared→Prop} {s:Shared} {K:Frag}
end
end Att
namespace L2
open PySem PySem.Spec PyProof.Rows
theorem vals_ints:∀{vs:List Value} {ns:List Int},IntsAre vs ns→Vals (ns.map V.int) vs
  | _,_,.nil=>.nil
  | _,_,.cons n t h=>.cons ⟨t,rfl⟩ (vals_ints h)
def Only (H:Hp):Prop:=∀b,H b=none∨∃o xs,H b=some (.frz o (.lst xs))
theorem law_call {P:Program} {w:World} {K:PySem.W.Frag} {mg mb:Str→Option Value} {CX:CXT} {k:Nat} {fa a:Addr} {fd:FuncData} {x:Str} {sp:Sp} {s₁:Shared} {vs:List Value} {ns:List Int}
    (KX:K.In s₁.heap) (hns:s₁.heap.Ns mainGlobals mg) (hb:s₁.heap.Ns builtinsNs mb) (hbb:∀x:Str,x≠"__name__"→mb x=bootBuiltins x) (hlim:s₁.heap.NoLimit) (hg:s₁.gens = #[])
    (ha:s₁.heap.get? a=some { cls:=.type "list",data:=.seq vs.toArray }) (hi:IntsAre vs ns) (hl:ns.length≤sizeLine) (hr:Room k callerA)
    (F:∀base:Heap,K.In base→base.Ns mainGlobals mg→FnOk P w K mg base CX k fa fd [x] sp) (hbind:∀(s:Shared) (u:Value),BindsTo s fd ⟨[u],[]⟩ [(x,u)])
    (hsp:∀H:Hp,Only H→SqL K H a (ns.map V.int)→sp [.ref a] H (fun v _=>v = .bl true) fun _ _ _=>False)
    (hCX:∀H e s',CX [] H s₁ (fun _ _ _=>False) e s'→False) :
    codeAny (model P w) callerA (.call (.ref fa) ⟨[.ref a],[]⟩) (fun r s'=>r = .ok (.ret (.bool true))∧OldK s₁.heap s'.heap∧s'.os=s₁.os∧AllBare s'.gens) s₁:=by
  have rv:=vals_ints hi
  have lenV:=hi.length
  have core:∀H:Hp,Only H→SqL K H a (ns.map V.int)→HOk P w H s₁.heap→(∀b,H b≠none→b=a)→(H a≠none→K.lookup a=none)→
      codeAny (model P w) callerA (.call (.ref fa) ⟨[.ref a],[]⟩) (fun r s'=>r = .ok (.ret (.bool true))∧OldK s₁.heap s'.heap∧s'.os=s₁.os∧AllBare s'.gens) s₁:=by
    intro H hO hS hok hA hK
    have base_of:∀{b:Addr} {o:Obj},s₁.heap.get? b=some o→H b=none→(hidT s₁.heap H).get? b=some o:=fun e n=>hidT_get e n
    have noA:∀{b:Addr} {o:Obj} {es:Array DictEntry} {ep:Nat},s₁.heap.get? b=some o→o.data = .dict es ep→H b=none:=fun {b o es ep} e d=>by
      cases q:H b with
      | none=>rfl
      | some u=>
        have e':b=a:=hA b (by rw [q]; simp)
        subst e'
        rw [ha] at e; cases e
        have d':Data.seq vs.toArray _=Data.dict es ep:=d
        cases d'
    have nsK:∀{b:Addr} {m:Str→Option Value},s₁.heap.Ns b m→(hidT s₁.heap H).Ns b m:=fun {b m} ⟨o,es,ep,e,d,r⟩=>⟨o,es,ep,base_of e (noA e d),d,r⟩
    have hKb:K.In (hidT s₁.heap H):=fun b o e=>base_of (KX b o e) (by
      cases q:H b with
      | none=>rfl
      | some u=>
        have e':b=a:=hA b (by rw [q]; simp)
        subst e'
        rw [hK (by rw [q]; simp)] at e; cases e)
    have hM:Mod K mg (hidT s₁.heap H):=⟨hKb,nsK hns,⟨mb,nsK hb,hbb⟩,let ⟨mc,h1,h2⟩:=hlim; ⟨mc,nsK h1,h2⟩⟩
    have e0:Env0 P w K mg (hidT s₁.heap H) callerA [] s₁ H:=⟨rfl,hM,fun b o e=>of_hidT e,Nat.le_of_eq (hidT_size _ _),trivial,fun b hb=>absurd (show b∈([]:List Addr) from hb) (by simp),hok,.of_eq hg⟩
    refine codeAny_mono ((F _ hKb (nsK hns)).run callerA [] s₁ H ⟨[.ref a],[]⟩ [.ref a] [.ref a] _ _ hr e0 (hbind s₁ (.ref a)) (.cons rfl .nil) (hsp H hO hS)) fun r s' h=>?_
    cases r with
    | error e=>exact (hCX H e s' h).elim
    | ok fl=>
      cases fl with
      | next=>exact False.elim h
      | brk=>exact False.elim h
      | cont=>exact False.elim h
      | ret u=>
        obtain ⟨v,H',os,bare,un,hok',r',q⟩:=h
        have q':v = .bl true:=q
        subst q'
        obtain rfl:u=Value.bool true:=r'
        refine ⟨rfl,OldK.of_keep fun b o e=>?_,os,bare⟩
        cases q:H b with
        | none=>exact un.keep b o e q (by intro z; exact absurd (show b∈([]:List Addr) from z) (by simp)) (by simp)
        | some u=>
          rcases hO b with z | ⟨ob,xs,z⟩
          · rw [q] at z; cases z
          · have z2:=un.frzs b ob _ z
            obtain ⟨e1,_⟩:=hok b _ z
            obtain ⟨e2,_⟩:=hok' b _ z2
            rw [e] at e1; cases e1
            exact e2
  cases hk:K.lookup a with
  | some o=>
    have e:=KX a o hk
    rw [ha] at e
    cases e
    refine core (fun _=>none) (fun _=>.inl rfl) (.inr ⟨_,vs.toArray,_,hk,rfl,rfl,rfl,by rw [List.size_toArray,lenV]; exact hl,by simpa using rv⟩) (fun b u z=>by have z':(none:Option HO)=some u:=z; cases z') (fun b z=>absurd rfl z) fun z=>absurd rfl z
  | none=>
    refine core (fun b=>if b=a then some (.frz { cls:=.type "list",data:=.seq vs.toArray } (.lst (ns.map V.int))) else none) (fun b=>?_) (.inl (.inr ⟨{ cls:=.type "list",data:=.seq vs.toArray },if_pos rfl⟩)) (fun b u z=>?_) (fun b z=>?_) fun _=>hk
    · by_cases hb:b=a
      · exact .inr ⟨_,_,if_pos hb⟩
      · exact .inl (if_neg hb)
    · by_cases hb:b=a
      · have z':=(if_pos hb).symm.trans z
        cases z'
        subst hb
        exact ⟨ha,by rw [List.length_map]; exact hl,vs,_,rv,ha⟩
      · have z':=(if_neg hb).symm.trans z
        cases z'
    · by_cases hb:b=a
      · exact hb
      · exact absurd (if_neg hb) z
end L2
namespace L2
open PySem PySem.Spec PyProof.Rows
theorem walk_of {l:PySem.W.OpenLaw} {n k:Nat} {q:Program} {loose:List Str} {XP:(Str→Option Value)→Heap→Prop} {YP:World→Heap→Prop} {d:DefRec} {K:Params→PySem.W.Frag} {CX:World→CXT} {sp:World→Sp} {x:Str}
    (hn:l.most=some n) (hn2:n≤sizeLine) (hdf:d.params.defaults=[]) (hr:Room k callerA)
    (hY:∀(w:World) (h:Heap),YP w h→(K w.params).In h)
    (F:∀(w:World) (mg:Str→Option Value) (fa:Addr) (h:Heap),(K w.params).In h→h.Ns mainGlobals mg→mg d.name=some (.ref fa)→
      ∃fd:FuncData,(∀(s:Shared) (u:Value),BindsTo s fd ⟨[u],[]⟩ [(x,u)])∧
        ∀base:Heap,(K w.params).In base→base.Ns mainGlobals mg→FnOk l.prog w (K w.params) mg base (CX w) k fa fd [x] (sp w))
    (hsp:∀(w:World) (H:Hp) (a:Addr) (ns:List Int),ns.length≤n→Only H→SqL (K w.params) H a (ns.map V.int)→sp w [.ref a] H (fun v _=>v = .bl true) fun _ _ _=>False)
    (hCX:∀(w:World) (H:Hp) (s:Shared) (e:Value) (s':Shared),CX w [] H s (fun _ _ _=>False) e s'→False) :
    PySem.W.WalkO q loose XP YP l.row.toRowW d [] (fun f vs=>PySem.call f vs):=by
  refine Att.attach_call hn hdf fun w s₀ s₁ mg mb fa o pm cd doc a vs ns G Y ho hd hcd hmg hobj hints hlen hg=>?_
  have KX:=hY w _ Y
  obtain ⟨fd,hb,hF⟩:=F w mg fa _ KX G.T.g hmg
  exact law_call KX G.T.g G.T.b G.T.builtins G.T.nolimit hg hobj hints (Nat.le_trans hlen hn2) hr hF hb (fun H hO hS=>hsp w H a ns hlen hO hS) fun H e s'=>hCX w H s₁ e s'
end L2
/- THE LAST THEOREM (shape; LID,My.* are yours):
   My.Adr: a structure of the addresses that your layer names (classes,functions); My.Txt K t: a structure (Prop) of the equations over K;
   My.txt_mk:{K} {implicit addresses ..} (e1:nsIn K mainGlobals "law" = some (some (.ref f))) (e2:K.lookup f=some ⟨oc,od,.func (fnOf "law" "law" params body scope dV kV doc pm an cdv ct),sl⟩) (e3:codeIn K cdv "law" = true) ..:∃t,My.Txt K t
set_option maxRecDepth 100000 in
set_option maxHeartbeats 0 in
theorem PySem.Challenge.cw_LID_holds : PySem.Challenge.rw_LID.Holds := by
  w_on; o_law; k_head; (case hw=>w_witness2)
  k_fill
  refine L2.walk_of (l:=PySem.Challenge.rw_LID) (n:=63) (k:=40) (x:="script") (CX:=fun w=>..) (sp:=fun _=>My.sp_law) rfl (by decide) rfl ⟨rfl,by decide,by decide⟩ (fun w h Y=>PySem.W.kIn_of Y) ?F ?S ?C
  case F=>
    intro w mg fa h KX G hmg
    have T:∃t,My.Txt (L2.KOf KX) t:=by
      dsimp only [L2.KOf] -- K must stand as «<heap const> w.params» for k_is
      refine' My.txt_mk ?e1 ?e2 ?e3 ..
      (case e1=>PySem.W.k_is) -- in the order: a name -> its address -> its object -> its parts
      (case e2=>PySem.W.k_is)
      ..
    obtain ⟨t,T⟩:=T
    have e0:=hmg.symm.trans (PySem.W.mg_of KX G T.law)
    cases e0 -- fa is the law's own address
    exact ⟨_,fun s u=>.of_eq rfl,fun base kb nb=>My.law_fn T kb nb⟩ -- if «.of_eq rfl» comes too early: refine' ⟨_,?b,fun base kb nb=>My.law_fn T kb nb⟩; exact fun s u=>.of_eq rfl
  case S=>exact fun w H a ns hl hO hS=>..
  case C=>exact ..
(the tactic k_is has no namespace: write k_is) -/
namespace L2
open PySem PySem.Spec PyProof.Rows
def defArgs (s:Stmt):Arguments:=match s with
  | .FunctionDef _ a _ _ _ _ _ _ _ _=>a
  | _=>{ posonlyargs:=[],args:=[],vararg:=none,kwonlyargs:=[],kw_defaults:=[],kwarg:=none,defaults:=[] }
def defBody (s:Stmt):List Stmt:=match s with
  | .FunctionDef _ _ b _ _ _ _ _ _ _=>b
  | _=>[]
def defScope (s:Stmt):Scope:=match s with
  | .FunctionDef _ _ _ _ _ _ sc _ _ _=>sc
  | _=>{ kind:=.function,names:=[],isGenerator:=false,isCoroutine:=false }
abbrev CX0:CXT:=fun _ _ _ _ _ _=>False
abbrev E0:XK:=fun _ _ _=>False
theorem pass0 {X:Cx}:Passes CX0 X E0:=fun _ _ _ _ _ _ _ h=>h.elim
structure Fun (K:PySem.W.Frag) (x qual:Str) (st:Stmt) (f:Addr) (fd:FuncData):Prop where
  ex:∃(oc:Value) (od:Option Addr) (kV doc pm:Value) (an:Option Addr) (cdv ct:Value) (osl:Array (Option Value)),
    fd=PySem.W.fnOf x qual (defArgs st) (defBody st) (defScope st) .none kV doc pm an cdv ct∧K.lookup f=some ⟨oc,od,.func fd,osl⟩∧PySem.W.codeIn K cdv qual=true
  kp:PySem.W.keepIn K (.ref f)=true
section
variable {P:Program} {w:World} {K:PySem.W.Frag} {mg:Str→Option Value} {base:Heap}
theorem Fun.ok {x qual:Str} {st:Stmt} {f:Addr} {fd:FuncData} {N ps:List Str} {k:Nat} {sp:Sp} (F:Fun K x qual st f fd) (S:FnScope N ps (defScope st)) (len:∀vs H Q E,sp vs H Q E→vs.length=ps.length)
    (hbody:∀(cdv:Value) (A:Around) (outer:List Env) (s:Shared) (H:Hp) (vs:List V) (Q:VK) (E:XK),Room k (A.deeper (envOfC qual (defScope st) s.heap.objs.size f cdv))→sp vs H Q E→
      ∃t,PSs (cxOf CX0 P w K mg base N qual (defScope st) f cdv A outer s H E).nox (defBody st) t∧t { nx:=fun _ H'=>Q .non H',rt:=Q } (start N vs) H):FnOk P w K mg base CX0 (k + 1) f fd ps sp:=by
  obtain ⟨oc,od,kV,doc,pm,an,cdv,ct,osl,rfl,lk,hcd⟩:=F.ex
  refine fn_of lk hcd S len fun A outer s H vs Q E hr hsp=>?_
  obtain ⟨t,h,q⟩:=hbody cdv A outer s H vs Q E hr hsp
  exact ⟨t,h.nox,q⟩
theorem Fun.binds {x qual:Str} {st:Stmt} {f:Addr} {fd:FuncData} {ps:List Str} (F:Fun K x qual st f fd)
    (h:∀(kV doc pm:Value) (an:Option Addr) (cdv ct:Value) (us:List Value),us.length=ps.length→bindArgs (PySem.W.fnOf x qual (defArgs st) (defBody st) (defScope st) .none kV doc pm an cdv ct) ⟨us,[]⟩=pure (ps.zip us)):Binds K fd ps []:=by
  obtain ⟨oc,od,kV,doc,pm,an,cdv,ct,osl,rfl,lk,hcd⟩:=F.ex
  exact .all (h kV doc pm an cdv ct)
theorem fun_mk {x qual:Str} {st:Stmt} {f:Addr} {oc:Value} {od an:Option Addr} {osl:Array (Option Value)} {kV doc pm cdv ct:Value} (l:K.lookup f=some ⟨oc,od,.func (PySem.W.fnOf x qual (defArgs st) (defBody st) (defScope st) .none kV doc pm an cdv ct),osl⟩)
    (c:PySem.W.codeIn K cdv qual=true) (k:PySem.W.keepIn K (.ref f)=true):Fun K x qual st f (PySem.W.fnOf x qual (defArgs st) (defBody st) (defScope st) .none kV doc pm an cdv ct):=⟨⟨oc,od,kV,doc,pm,an,cdv,ct,osl,rfl,l,c⟩,k⟩
end
theorem hu_of {A:Around} {k:Nat} (hr:Room k A):A.units + 1 < cLine:=Nat.lt_of_le_of_lt (Nat.add_le_add_left (by decide:1≤64) _) hr.units
theorem small1000 {n:Nat} (h:n≤1000):n < sizeLine:=Nat.lt_of_le_of_lt h (by decide)
section
variable {X:Cx}
theorem pv (i:Nat) {x:Str} {pos:Pos} (hN:X.N[i]? = some x:=by rfl) (hv:Vis X.env.scope x:=by first | exact Or.inl rfl | exact Or.inr (Or.inl rfl) | exact Or.inr (Or.inr rfl)) (hd:(x == ("__debug__":Str))=false:=by decide)
    (hcd:(x == ("__classdict__":Str))=false:=by decide):PE X (.Name x pos) (tVar i):=pe_var hN hv hd hcd
end
theorem iteF {A B:Prop} (h:B):if false=true then A else B:=by
  rw [if_neg Bool.false_ne_true]
  exact h
theorem iteT {A B:Prop} (h:A):if true=true then A else B:=by
  rw [if_pos rfl]
  exact h
theorem ite2 {c A B:Prop} [Decidable c] (h1:c→A) (h2:¬c→B):if c then A else B:=by
  by_cases h:c
  · rw [if_pos h]
    exact h1 h
  · rw [if_neg h]
    exact h2 h
def Same (H H':Hp):Prop:=∀b o,H b=some o→H' b=some o
theorem Same.refl (H:Hp):Same H H:=fun _ _ h=>h
theorem Same.trans {H H1 H2:Hp} (a:Same H H1) (b:Same H1 H2):Same H H2:=fun c o h=>b c o (a c o h)
theorem Same.free {H H':Hp} (e:Same H H') {l:Addr} (h:H' l=Option.none):H l=Option.none:=by
  cases q:H l with
  | none=>rfl
  | some o=>
    rw [e l o q] at h
    cases h
theorem Same.seq {K:PySem.W.Frag} {H H':Hp} {a:Addr} {xs:List V} (e:Same H H') (h:SqL K H a xs):SqL K H' a xs:=by
  rcases h with (h | ⟨o,h⟩) | h
  · exact .inl (.inl (e _ _ h))
  · exact .inl (.inr ⟨o,e _ _ h⟩)
  · exact .inr h
end L2
set_option maxHeartbeats 4000000
namespace L2
open PySem PySem.Spec PyProof.Rows
def clF (cells:List (Str × Addr)):List (Str × NameKind)→List (Str × Addr)→List (Str × Addr)
  | [],cs=>cs
  | (n,k) :: r,cs=>clF cells r (if k == .free then (match cells.lookup n with | some c=>(n,c) :: cs | none=>cs) else cs)
theorem clF_mem {cells:List (Str × Addr)}:∀(names:List (Str × NameKind)) (cs:List (Str × Addr)) (n:Str) (c:Addr),(n,c)∈clF cells names cs→(n,c)∈cs∨(cells.lookup n=some c∧(n,NameKind.free)∈names)
  | [],cs,n,c,h=>.inl h
  | (m,k) :: r,cs,n,c,h=>by
    rcases clF_mem r _ n c h with q | ⟨q,z⟩
    · by_cases hk:(k == NameKind.free)=true
      · rw [if_pos hk] at q
        have hk':k = .free:=by simpa using hk
        cases e:cells.lookup m with
        | none=>rw [e] at q; exact .inl q
        | some d=>
          rw [e] at q
          rcases List.mem_cons.mp q with z | z
          · cases z; exact .inr ⟨e,by rw [hk']; exact List.mem_cons_self⟩
          · exact .inl z
      · rw [if_neg hk] at q; exact .inl q
    · exact .inr ⟨q,List.mem_cons_of_mem _ z⟩
theorem clF_sub {cells:List (Str × Addr)}:∀(names:List (Str × NameKind)) (cs:List (Str × Addr)),∀p∈cs,p∈clF cells names cs
  | [],cs,p,h=>h
  | (m,k) :: r,cs,p,h=>by
    refine clF_sub r _ p ?_
    by_cases hk:(k == NameKind.free)=true
    · rw [if_pos hk]
      cases cells.lookup m with
      | none=>exact h
      | some d=>exact List.mem_cons_of_mem _ h
    · rw [if_neg hk]; exact h
theorem clF_has {cells:List (Str × Addr)}:∀(names:List (Str × NameKind)) (cs:List (Str × Addr)) (n:Str) (c:Addr),(n,NameKind.free)∈names→cells.lookup n=some c→(n,c)∈clF cells names cs
  | [],_,_,_,h,_=>nomatch h
  | (m,k) :: r,cs,n,c,h,e=>by
    rcases List.mem_cons.mp h with z | z
    · cases z
      refine clF_sub r _ _ ?_
      rw [if_pos (by rfl),e]
      exact List.mem_cons_self
    · exact clF_has r _ n c z e
theorem lookup_isSome_of_mem {β:Type}:∀{l:List (Str × β)} {n:Str} {c:β},(n,c)∈l→∃d,l.lookup n=some d
  | (m,d) :: r,n,c,h=>by
    cases e:n == m with
    | true=>exact ⟨d,by simp [List.lookup_cons,e]⟩
    | false=>
      have e':n≠m:=by simpa using e
      rcases List.mem_cons.mp h with z | z
      · cases z; exact absurd rfl e'
      · obtain ⟨q,hq⟩:=lookup_isSome_of_mem z
        exact ⟨q,by simp [List.lookup_cons,e,hq]⟩
theorem clF_lookup {cells:List (Str × Addr)} {names:List (Str × NameKind)} {n:Str} {c:Addr} (h:(clF cells names []).lookup n=some c):cells.lookup n=some c∧(n,NameKind.free)∈names:=by
  rcases clF_mem names [] n c (PySem.mem_of_lookup h) with z | z
  · cases z
  · exact z
theorem closure_eq {env:Env} {scope:Scope} (hf:∀n,(n,NameKind.free)∈scope.names→∃c,env.cells.lookup n=some c):closureFor scope env=pure (clF env.cells scope.names []):=by
  have go:∀(l:List (Str × NameKind)) (cs:List (Str × Addr)),(∀n,(n,NameKind.free)∈l→∃c,env.cells.lookup n=some c)→
      (forIn l cs (fun x r=>match x with | (name,kind)=>if (kind == NameKind.free)=true then do
        let y ←cellOf env name
        pure (ForInStep.yield ((name,y) :: r)) else pure (ForInStep.yield r)):Sem (List (Str × Addr)))=pure (clF env.cells l cs):=by
    intro l
    induction l with
    | nil=>intro cs _; rfl
    | cons x r ih=>
      intro cs h
      obtain ⟨n,k⟩:=x
      rw [List.forIn_cons]
      by_cases hk:(k == NameKind.free)=true
      · have hk':k = .free:=by simpa using hk
        obtain ⟨c,e⟩:=h n (by rw [hk']; exact List.mem_cons_self)
        have ec:cellOf env n=pure c:=by unfold cellOf; rw [e]
        simp only [hk,if_true,ec,pure_bind]
        rw [ih _ fun m hm=>h m (List.mem_cons_of_mem _ hm)]
        show _=pure (clF env.cells r _)
        rw [if_pos hk,e]
      · have hk':(k == NameKind.free)=false:=by simpa using hk
        have e1:=ih cs fun m hm=>h m (List.mem_cons_of_mem _ hm)
        show (((if (k == NameKind.free)=true then _ else pure (ForInStep.yield cs)):Sem _) >>= _)=_
        rw [if_neg hk,pure_bind]
        refine Eq.trans e1 ?_
        show _=pure (clF env.cells r _)
        rw [if_neg hk]
  unfold closureFor
  have:=go scope.names [] hf
  rw [bind_pure]
  exact this
end L2
namespace L2
open PySem PySem.Spec PyProof.Rows
structure CScope (X:Cx) (xs:List Str) (sc:Scope):Prop where
  kind:sc.kind = .function
  nocell:∀y∈sc.names,y.2≠.cell
  names:∀y∈sc.names,y.2 = .local→sc.names.lookup y.1=some .local
  own:∀x∈xs,sc.names.lookup x=some .local
  sep:∀y∈X.N,sc.names.lookup y≠some .local
  frees:∀y∈sc.names,y.2 = .free→X.env.kindOf y.1=some .cell∨X.env.kindOf y.1=some .free
  nd:(xs++X.N).Nodup
def cxC (X:Cx) (xs:List Str) (sc:Scope) (ex:List Addr) (s:Shared) (H:Hp):Cx where
  prog:=X.prog
  w:=X.w
  K:=X.K
  mg:=X.mg
  base:=X.base
  A:=X.A
  N:=xs++X.N
  s₀:=s
  H₀:=H
  env:=compEnvC sc (clF X.env.cells sc.names []) s.heap.objs.size X.env
  outer:=X.stack
  stack:=X.stack
  ex:=ex
  fn:=fun _=>false
  calm:=X.calm
  pn:=[]
  xe:=fun _ _=>False
theorem lookup_relabel (env:Env) (x:Str):∀names:List (Str × NameKind),
    (names.map fun (n,k)=>if (k == NameKind.free && env.scope.kind == .function && env.kindOf n == some .cell) then (n,NameKind.cell) else (n,k)).lookup x =
      (names.lookup x).map fun k=>if (k == NameKind.free && env.scope.kind == .function && env.kindOf x == some .cell) then NameKind.cell else k
  | []=>rfl
  | (n,k) :: r=>by
    have ih:=lookup_relabel env x r
    show List.lookup x ((if (k == NameKind.free && env.scope.kind == .function && env.kindOf n == some .cell)=true then (n,NameKind.cell) else (n,k)) :: _)=_
    cases hx:x == n with
    | true=>
      have e:x=n:=by simpa using hx
      subst e
      by_cases hc:(k == NameKind.free && env.scope.kind == .function && env.kindOf x == some .cell)=true
      · rw [if_pos hc]
        simp only [List.lookup_cons,hx,Option.map_some]
        rw [if_pos hc]
      · rw [if_neg hc]
        simp only [List.lookup_cons,hx,Option.map_some]
        rw [if_neg hc]
    | false=>
      by_cases hc:(k == NameKind.free && env.scope.kind == .function && env.kindOf n == some .cell)=true
      · rw [if_pos hc]; simp only [List.lookup_cons,hx]; exact ih
      · rw [if_neg hc]; simp only [List.lookup_cons,hx]; exact ih
theorem vis_relabel {sc:Scope} {env:Env} {x:Str} (h:Vis (relabel sc env) x) (hl:sc.names.lookup x≠some .local) (hc:∀y∈sc.names,y.2≠.cell) :
    (x,NameKind.free)∈sc.names∧((relabel sc env).names.lookup x=some .cell∨(relabel sc env).names.lookup x=some .free):=by
  have e:(relabel sc env).names.lookup x=_:=lookup_relabel env x sc.names
  unfold Vis at h
  rw [e] at h
  cases k:sc.names.lookup x with
  | none=>rw [k] at h; simp at h
  | some v=>
    have mem:=PySem.mem_of_lookup k
    have nl:v≠.local:=fun z=>hl (by rw [k,z])
    have ncl:v≠.cell:=fun z=>hc _ mem z
    rw [k] at h
    rw [e,k]
    simp only [Option.map_some] at h ⊢
    by_cases hv:v = .free
    · subst hv
      refine ⟨mem,?_⟩
      split
      · exact .inl rfl
      · exact .inr rfl
    · have:(v == NameKind.free)=false:=by simpa using hv
      simp only [this,Bool.false_and] at h
      rcases h with h | h | h
      · exact absurd (Option.some.inj h) nl
      · exact absurd (Option.some.inj h) ncl
      · exact absurd (Option.some.inj h) hv
section
variable {X:Cx} {pins:List (Addr × Obj)} {σ:St} {H:Hp} {s:Shared} {xs:List Str} {sc:Scope} {ex:List Addr}
theorem CScope.cells (S:CScope X xs sc) (ok:X.Ok):∀n,(n,NameKind.free)∈sc.names→∃c,X.env.cells.lookup n=some c:=fun n h=>ok.has n (S.frees _ h rfl)
theorem cxC_ok (S:CScope X xs sc) (I:Inv X pins σ H s) (he:∀b∈ex,b < s.heap.objs.size∧b∉frs X.stack∧(∀x c,X.env.cells.lookup x=some c→c≠b)∧X.base.get? b=none):(cxC X xs sc ex s H).Ok:=by
  refine ⟨I.ok.mod,S.kind,I.ok.glob,I.ok.blt,Nat.le_refl _,fun x y c h1 h2=>?_,fun x hx=>?_,fun _ _ h=>(by cases h),I.ok.hd,I.ok.frames,.inl rfl,fun b hb=>⟨Nat.ne_of_lt (he b hb).1,fun x c h=>(he b hb).2.2.1 x c (clF_lookup h).1⟩,fun b o e=>?_,?_,fun b o e hb=>?_,fun b hb=>(he b hb).2.1,I.stack,I.stkFree⟩
  · exact I.ok.inj x y c (clF_lookup h1).1 (clF_lookup h2).1
  · have hv:(relabel sc X.env).names.lookup x=some .cell∨(relabel sc X.env).names.lookup x=some .free:=hx
    have q:(x,NameKind.free)∈sc.names:=by
      have e:(relabel sc X.env).names.lookup x=_:=lookup_relabel X.env x sc.names
      rw [e] at hv
      cases k:sc.names.lookup x with
      | none=>rw [k] at hv; simp at hv
      | some v=>
        have mem:=PySem.mem_of_lookup k
        rw [k] at hv
        simp only [Option.map_some] at hv
        by_cases hvf:v = .free
        · rw [hvf] at mem; exact mem
        · have:(v == NameKind.free)=false:=by simpa using hvf
          simp only [this,Bool.false_and] at hv
          rcases hv with h | h
          · exact absurd (Option.some.inj h) (S.nocell _ mem)
          · exact absurd (Option.some.inj h) hvf
    obtain ⟨c,e⟩:=S.cells I.ok x q
    exact lookup_isSome_of_mem (clF_has sc.names [] x c q e)
  · exact I.bs b o e
  · exact Nat.le_trans I.ok.bsz I.sz
  · have q:X.base.get? b=none:=(he b hb).2.2.2
    have e':X.base.get? b=some o:=e
    rw [q] at e'; cases e'
theorem inv_comp {h₁:Heap} {tk:Nat} (S:CScope X xs sc) (I:Inv X pins σ H s) (he:∀b∈ex,b < s.heap.objs.size∧b∉frs X.stack∧(∀x c,X.env.cells.lookup x=some c→c≠b)∧X.base.get? b=none)
    (hn:h₁.Ns s.heap.objs.size (fun _=>none)) (hk:∀b o,s.heap.get? b=some o→h₁.get? b=some o) :
    Inv (cxC X xs sc ex s H) [] (List.replicate xs.length none++σ) H { s with heap:=h₁,toks:=tk }:=by
  have I1:Inv X pins σ H { s with heap:=h₁,toks:=tk }:=I.kept hk
  refine ⟨cxC_ok S I he,rfl,I.bare,Un.kept hk,⟨_,hn,fun i x v h1 h2 h3=>?_⟩,fun x c h=>I1.cell x c (clF_lookup h).1,I.hok.fresh (Nat.le_refl _),fun x c h=>I.freeC x c (clF_lookup h).1,fun p hp=>absurd (show p∈([]:List (Addr × Obj)) from hp) (by simp),I.hok.kept hk,?_⟩
  · have h1':(xs++X.N)[i]? = some x:=h1
    by_cases hi:i < xs.length
    · rw [List.getElem?_append_left (by simpa using hi),List.getElem?_replicate,if_pos hi] at h2
      cases h2
    · have hi':xs.length≤i:=Nat.le_of_not_lt hi
      rw [List.getElem?_append_right (by simpa using hi')] at h2
      rw [List.getElem?_append_right hi'] at h1'
      rw [List.length_replicate] at h2
      have hm:x∈X.N:=List.mem_of_getElem? h1'
      obtain ⟨hf,hkd⟩:=vis_relabel h3 (S.sep x hm) S.nocell
      have hko:=S.frees _ hf rfl
      obtain ⟨m,_,hl⟩:=I1.loc
      obtain ⟨u,r,l⟩:=hl (i - xs.length) x v h1' h2 (by
        rcases hko with z | z
        · exact .inr (.inl z)
        · exact .inr (.inr z))
      refine ⟨u,r,.inr ⟨hkd,?_⟩⟩
      rcases l with ⟨z,_⟩ | ⟨_,c,ec,hc⟩
      · rcases hko with q | q <;> (rw [q] at z; cases z)
      · obtain ⟨d,ed⟩:=lookup_isSome_of_mem (clF_has sc.names [] x c hf ec)
        have:c=d:=by
          have:=(clF_lookup ed).1
          rw [ec] at this
          exact Option.some.inj this
        subst this
        exact ⟨c,ed,hc⟩
  · show (List.replicate xs.length none++σ).length=(xs++X.N).length
    rw [List.length_append,List.length_append,List.length_replicate,I.len]
end
end L2
namespace L2
open PySem PySem.Spec PyProof.Rows
section
variable {prog:Program} {w:World} {A:Around} {R:Result→Shared→Prop} {s:Shared}
theorem compLoop_of {elt target iter:Expr} {ifs:List Expr} {scope:Scope} {pos:Pos} {it acc:Value} {env:Env} (I:Nat→Shared→Prop)
    (turn:∀n s,I n s→wpAny (model prog w) A (pyNext it) (fun r s₁=>match r with
      | none=>R (.ok .next) s₁
      | some v=>wpAny (model prog w) A (letOwnedTupleGo target it v) (fun _ s₁'=>wpAny (model prog w) A (assign target env v) (fun _ s₂=>
          wpAny (model prog w) A (forIn ifs true fun c r=>if r=true then do let ok ←isTrue c env (eval c env); pure (ForInStep.yield ok) else pure (ForInStep.yield r)) (fun ok s₃=>
            if ok=true then wpAny (model prog w) A (eval elt env) (fun x s₄=>
              wpAny (model prog w) A (call (.builtin "list.append") [acc,x]) (fun _ s₅=>∃m,m < n∧I m s₅) (fun _ _=>False) s₄) (fun _ _=>False) s₃
            else ∃m,m < n∧I m s₃) (fun _ _=>False) s₂) (fun _ _=>False) s₁') (fun _ _=>False) s₁) (fun _ _=>False) s)
    (n:Nat) (h:I n s) :
    codeAny (model prog w) A (.compLoop (.ListComp elt [⟨target,iter,ifs,0⟩] scope pos) 0 it acc env) R s:=by
  refine codeAny_loop rfl I (fun n s hI=>?_) n h
  show wpAny _ A ((compTurn (.ListComp elt [⟨target,iter,ifs,0⟩] scope pos) 0 it acc env).onRaise (fun x=>do noteFrame x env; theTreesLotGoes x)) _ _ s
  refine wpAny_noted ?_
  rw [compTurn_list]
  refine wpAny_bind (wpAny_standAt (wpAny_bind (wpAny_mono (turn n s hI) (fun r s₁ h₁=>?_) fun _ _ h'=>h'.elim)))
  cases r with
  | none=>exact wpAny_pure h₁
  | some v=>
    refine wpAny_bind (wpAny_mono h₁ (fun _ s₁' h₁'=>?_) fun _ _ h'=>h'.elim)
    refine wpAny_bind (wpAny_mono h₁' (fun _ s₂ h₂=>wpAny_bind (wpAny_mono h₂ (fun ok s₃ h₃=>?_) fun _ _ h'=>h'.elim)) fun _ _ h'=>h'.elim)
    cases ok with
    | false=>exact wpAny_pure ⟨rfl,h₃⟩
    | true=>
      exact wpAny_bind (wpAny_bind (wpAny_mono h₃ (fun x s₄ h₄=>wpAny_bind (wpAny_mono h₄ (fun _ s₅ h₅=>wpAny_pure (wpAny_pure ⟨rfl,h₅⟩)) fun _ _ h'=>h'.elim)) fun _ _ h'=>h'.elim))
end
def PTs (X:Cx) (ifs:List Expr) (t:TT):Prop:=
  ∀(pins:List (Addr × Obj)) (s:Shared) (σ:St) (H:Hp) (Q:Bool→Hp→Prop),Inv X pins σ H s→t σ H Q→
    wpAny (model X.prog X.w) X.A (forIn ifs true fun c r=>if r=true then do let ok ←isTrue c X.env (eval c X.env); pure (ForInStep.yield ok) else pure (ForInStep.yield r)) (TP X pins σ Q) X.xe s
def tYes:TT:=fun _ H Q=>Q true H
theorem pts_nil {X:Cx}:PTs X [] tYes:=fun _ _ _ H _ I h=>wpAny_tests_nil ⟨H,I,h⟩
theorem pts_one {X:Cx} {c:Expr} {t:TT} (h:PT X c t):PTs X [c] t:=fun pins s σ H Q I q=>wpAny_tests_one (h pins s σ H Q I q)
section
variable {X:Cx} {pins:List (Addr × Obj)} {σ:St} {H:Hp} {s2:Shared} {tg iter elt:Expr} {ifs:List Expr} {sc:Scope} {pos:Pos} {xs:List Str} {g:TG} {tc:TT} {te:TE} {J:It} {fp:List Addr} {it:Addr} {tn:Nat→Heap→Prop}
theorem HOk.adopt {P:Program} {w:World} {H:Hp} {h:Heap} {a:Addr} {xs:List V} {its:List Value} {n:Nat} (x:HOk P w H h) (hn:H a=none) (hz:xs.length≤sizeLine) (r:Vals xs its) (e:h.get? a=some { cls:=.type "list",data:=.seq its.toArray n }) :
    HOk P w (upd H a (.lst xs)) h:=fun b u q=>by
  by_cases hb:b=a
  · subst hb; rw [upd_same] at q; cases q; exact ⟨hz,its,n,r,e⟩
  · rw [upd_ne hb] at q
    exact (x b u q).stay (fun c v _ q=>q) (fun c q=>by rw [upd_ne (ne_of_none q hn)]; exact q) fun c xs q=>by rw [upd_ne (ne_of_none q hn)]; exact q
theorem comp_core {E:Value→Shared→Prop} {RR:Value→Addr→Result→Shared→Prop} (S:CScope X xs sc) (hcalm:X.calm=true)
    (hg:∀ex s3 H3,PG (cxC X xs sc ex s3 H3) tg g) (ht:∀ex s3 H3,PTs (cxC X xs sc ex s3 H3) ifs tc) (he:∀ex s3 H3,PE (cxC X xs sc ex s3 H3) elt te)
    (I:Inv X pins σ H s2) (T:Turn X.prog X.w X.K tg J fp it tn) (st:tn 0 s2.heap) (f2:∀b∈fp,FpOk X pins H b)
    (W:Nat→Nat→List V→Hp→Prop) (w0:∃m,W 0 m [] H) (F:List V→Hp→Prop)
    (turn:∀i m acc H,W i m acc H→(J.stop i H∧acc.length≤sizeLine∧F acc H)∨
      (J.go i H∧acc.length < sizeLine∧∃N:List V→Hp→Prop,(∀acc' H',N acc' H'→∃m',m' < m∧W (i + 1) m' acc' H')∧∀x H',J.yld i H x H'→g x (List.replicate xs.length none++σ) H' fun σ2 H2=>σ2.drop xs.length=σ∧tc σ2 H2 fun c H3=>
        if c=true then te σ2 H3 fun y H4=>N (acc++[y]) H4 else N acc H3))
    (fin:∀D C s' acc H',(∃m,s'.heap.Ns C m)→FpOk X pins (upd H' D (.lst acc)) C→F acc H'→H' D=none→Inv X pins σ (upd H' D (.lst acc)) s'→RR (.ref D) C (.ok .next) s') :
    wpAny (model X.prog X.w) X.A (newList []) (fun acc s3=>wpAny (model X.prog X.w) X.A (newFunctionEnv sc X.env.globals (clF X.env.cells sc.names []) [] X.env.qual none .none (some X.env)) (fun cenv s4=>
      codeAny (model X.prog X.w) X.A (.compStart (.ListComp elt [⟨tg,iter,ifs,0⟩] sc pos) 0 (.ref it) acc { cenv with scope:=relabel sc X.env }) (RR acc cenv.locals) s4) E s3) E s2:=by
  refine wpAny_newObj_type (wpAny_newFunctionEnv S.nocell (by intro y hy; simp at hy) (fun h₁ hns₁ hsb₁=>?_) S.kind)
  dsimp only at hns₁ hsb₁ ⊢
  generalize hH3:s2.heap.push { cls:=.type "list",dict:=none,data:=.seq ([]:List Value).toArray }=H3 at hns₁ hsb₁ ⊢
  have hC:H3.objs.size=s2.heap.objs.size + 1:=by rw [←hH3,Heap.size_push]
  have hDC:s2.heap.objs.size≠H3.objs.size:=by rw [hC]; exact Nat.ne_of_lt (Nat.lt_succ_self _)
  have old3:∀b o,s2.heap.get? b=some o→H3.get? b=some o:=fun b o e=>hH3 ▸ Heap.get?_push_of_some _ e
  have k1:∀b o,H3.get? b=some o→h₁.get? b=some o:=fun b o e=>hsb₁.extBut b o (Nat.ne_of_lt (Heap.lt_size e)) (Heap.get?_push_of_some _ e)
  have I3:Inv X pins σ H { s2 with heap:=H3 }:=I.kept old3
  have fpLt:∀b∈fp,b < s2.heap.objs.size:=fun b hb=>by
    obtain ⟨o,e,_⟩:=T.obj _ _ st b hb
    exact Heap.lt_size e
  have hnofr:∀b,s2.heap.objs.size≤b→b∉frs X.stack:=fun b hb z=>by
    rcases List.mem_cons.mp (I.stkSub b z) with q | q
    · exact absurd (Nat.lt_of_lt_of_le I.lt hb) (by rw [q]; exact Nat.lt_irrefl _)
    · exact I.nofs hb q
  have hnocell:∀b,s2.heap.objs.size≤b→∀x c,X.env.cells.lookup x=some c→c≠b:=fun b hb x c e z=>by
    obtain ⟨v,q⟩:=I.cell x c e
    exact absurd (Nat.lt_of_lt_of_le q.lt (by rw [z]; exact hb)) (Nat.lt_irrefl _)
  have hnobase:∀b,s2.heap.objs.size≤b→X.base.get? b=none:=fun b hb=>Heap.get?_none_of_le (Nat.le_trans (Nat.le_trans I.ok.bsz I.sz) hb)
  have fpfr:∀b∈fp,b∉frs X.stack:=fun b hb z=>by
    rcases List.mem_cons.mp (I.stkSub b z) with q | q
    · exact (f2 b hb).2.1 q
    · exact (f2 b hb).2.2.1 q
  have fpbase:∀b∈fp,X.base.get? b=none:=fun b hb=>by
    rcases (f2 b hb).2.2.2.1 with z | z
    · cases e:X.base.get? b with
      | none=>rfl
      | some o=>exact absurd z (I.ok.noex b o e)
    · exact Heap.get?_none_of_le (Nat.le_trans I.ok.bsz z)
  have hex:∀b∈(s2.heap.objs.size :: fp),b < H3.objs.size∧b∉frs X.stack∧(∀x c,X.env.cells.lookup x=some c→c≠b)∧X.base.get? b=none:=fun b hb=>by
    rcases List.mem_cons.mp hb with z | z
    · subst z
      exact ⟨by rw [hC]; exact Nat.lt_succ_self _,hnofr _ (Nat.le_refl _),hnocell _ (Nat.le_refl _),hnobase _ (Nat.le_refl _)⟩
    · exact ⟨by rw [hC]; exact Nat.lt_succ_of_lt (fpLt b z),fpfr b z,(f2 b z).2.2.2.2.1,fpbase b z⟩
  have I4:=inv_comp (ex:=s2.heap.objs.size :: fp) (tk:=s2.toks + ([]:List (Str × Value)).length) S I3 hex hns₁ k1
  generalize hX':cxC X xs sc (s2.heap.objs.size :: fp) { s2 with heap:=H3 } H=X' at I4
  have hDn:H s2.heap.objs.size=none:=I.hok.fresh (Nat.le_refl _)
  have hDobj:h₁.get? s2.heap.objs.size=some { cls:=.type "list",data:=.seq (([]:List Value)).toArray 0 }:=k1 _ _ (hH3 ▸ Heap.get?_push_size _ rfl)
  have st1:tn 0 h₁:=T.keep _ _ _ st fun b _ o e=>k1 b o (old3 b o e)
  obtain ⟨m0,w0⟩:=w0
  have eXex:X'.ex=s2.heap.objs.size :: fp:=by rw [←hX']; rfl
  have eXloc:X'.env.locals=H3.objs.size:=by rw [←hX']; rfl
  have eXfs:X'.fs=frs X.stack:=by rw [←hX']; rfl
  have eXcl:X'.env.cells=clF X.env.cells sc.names []:=by rw [←hX']; rfl
  have eXpn:X'.pn=[]:=by rw [←hX']; rfl
  have eXm:X'.prog=X.prog∧X'.w=X.w∧X'.K=X.K∧X'.calm=true∧X'.A=X.A∧X'.xe=fun _ _=>False:=by rw [←hX']; exact ⟨rfl,rfl,rfl,hcalm,rfl,rfl⟩
  obtain ⟨eP,ew,eK,ec,eA,exe⟩:=eXm
  have envE:X'.env={ newEnv sc H3.objs.size X.env.globals (clF X.env.cells sc.names []) X.env.qual none .none (some X.env) builtinsNs with scope:=relabel sc X.env }:=by rw [←hX']; rfl
  have hg':PG X' tg g:=hX' ▸ hg _ _ _
  have ht':PTs X' ifs tc:=hX' ▸ ht _ _ _
  have he':PE X' elt te:=hX' ▸ he _ _ _
  have hs0:X'.s₀.heap=H3:=by rw [←hX']; rfl
  have hH0:X'.H₀=H:=by rw [←hX']; rfl
  have hos:X'.s₀.os=s2.os:=by rw [←hX']; rfl
  have loop:∀s₃:Shared,s₃={ s2 with heap:=h₁,toks:=s2.toks + ([]:List (Str × Value)).length }→
      codeAny (model X.prog X.w) X.A (.compLoop (.ListComp elt [⟨tg,iter,ifs,0⟩] sc pos) 0 (.ref it) (.ref s2.heap.objs.size) X'.env) (RR (.ref s2.heap.objs.size) H3.objs.size) s₃:=by
    rintro s₃ rfl
    refine compLoop_of (fun n s'=>∃i acc its k H',Inv X' [] (List.replicate xs.length none++σ) H' s'∧tn i s'.heap∧(∀b∈fp,H' b=none)∧H' s2.heap.objs.size=none∧Vals acc its∧
      s'.heap.get? s2.heap.objs.size=some { cls:=.type "list",data:=.seq its.toArray k }∧W i n acc H') ?_ m0
      ⟨0,[],[],0,H,I4,st1,fun b hb=>(f2 b hb).1,hDn,.nil,hDobj,w0⟩
    rintro n s' ⟨i,acc,its,k,H',I',st',fr',hD',rv,hobj,w'⟩
    have fpok:∀{o:Obj} {H'':Hp},(∀b∈fp,H'' b=none)→∀b∈fp,FpOk X' [(s2.heap.objs.size,o)] H'' b:=fun {o H''} hn b hb=>by
      refine ⟨hn b hb,by rw [eXloc,hC]; exact Nat.ne_of_lt (Nat.lt_succ_of_lt (fpLt b hb)),by rw [eXfs]; exact fpfr b hb,.inl (by rw [eXex]; exact List.mem_cons_of_mem _ hb),fun x c e=>?_,fun p hp=>?_⟩
      · rw [eXcl] at e
        exact (f2 b hb).2.2.2.2.1 x c (clF_lookup e).1
      · rw [eXpn] at hp
        have:p=(s2.heap.objs.size,o):=by simpa using hp
        rw [this]
        exact Nat.ne_of_gt (fpLt b hb)
    have pinD:∀{H'':Hp} {s'':Shared} {σ'':St} {o:Obj},Inv X' [] σ'' H'' s''→s''.heap.get? s2.heap.objs.size=some o→(∀v,o.data≠.cell v)→H'' s2.heap.objs.size=none→Inv X' [(s2.heap.objs.size,o)] σ'' H'' s'':=fun {H'' s'' σ'' o} J e d hn=>
      J.pins_of fun p hp=>by
        have:p=(s2.heap.objs.size,o):=by simpa using hp
        rw [this]
        exact ⟨e,hn,by rw [eXloc]; exact hDC,by rw [eXfs]; exact hnofr _ (Nat.le_refl _),d⟩
    have J:=pinD I' hobj (fun v=>by intro z; cases z) hD'
    rw [←eP,←ew,←eA]
    rcases turn i n acc H' w' with ⟨stop,hz,hF⟩ | ⟨go,hz,N,hN,step⟩
    · have q1:wpAny (model X'.prog X'.w) X'.A (pyNext (.ref it)) (fun r s1=>r=none∧Inv X' [(s2.heap.objs.size,{ cls:=.type "list",data:=.seq its.toArray k })] (List.replicate xs.length none++σ) H' s1) (fun _ _=>False) s':=by
        have:=T.done X' eP ew eK ec i _ s' _ H' (fun _ _=>False) J (fpok fr') st' stop
        rw [eP,ew]; exact this
      refine thn q1 fun r s1 h1=>?_
      obtain ⟨hr,J1⟩:=h1
      subst hr
      have e1:=J1.pin (s2.heap.objs.size,{ cls:=.type "list",data:=.seq its.toArray k }) (List.mem_append_right _ List.mem_cons_self)
      have un:Un (frs X.stack) (s2.heap.objs.size :: fp) H H' H3 s1.heap:=by
        have:=J1.base
        rw [eXfs,eXex,hH0,hs0] at this
        exact this
      have hok1:HOk X.prog X.w H' s1.heap:=by have:=J1.hok; rw [eP,ew] at this; exact this
      obtain ⟨mC,hmC,_⟩:=J1.loc
      have hmC':s1.heap.Ns H3.objs.size mC:=by rw [eXloc] at hmC; exact hmC
      have hCfree:H' H3.objs.size=none:=by have:=J1.free; rw [eXloc] at this; exact this
      refine fin _ _ s1 acc H' ⟨mC,hmC'⟩ ?_ hF e1.2.1 ?_
      · refine I.fpOk (by rw [hC]; exact Nat.le_succ _) ?_
        rw [upd_ne (Ne.symm hDC)]
        exact hCfree
      · refine I.call' (ch:=fp) (J1.os.trans hos) ?_ (hok1.adopt e1.2.1 hz rv e1.1) J1.bare fun b hb=>⟨(f2 b hb).2.2.2.1,(f2 b hb).2.1,(f2 b hb).2.2.2.2.1,(f2 b hb).2.2.2.2.2⟩
        have below:∀b o,s2.heap.get? b=some o→b≠s2.heap.objs.size:=fun b o e=>Nat.ne_of_lt (Heap.lt_size e)
        have nin:∀b o,s2.heap.get? b=some o→b∉fp→b∉s2.heap.objs.size :: fp:=fun b o e hb z=>(List.mem_cons.mp z).elim (below b o e) hb
        have trkne:∀b u,H b=some u→b≠s2.heap.objs.size:=fun b u e z=>by rw [z,hDn] at e; cases e
        refine ⟨fun b o e n hf hb=>un.keep b o (old3 b o e) n hf (nin b o e hb),fun b o e n hf hb=>un.slot b o (old3 b o e) n hf (nin b o e hb),fun b o e n hb=>?_,fun b o e hb=>un.there b o (old3 b o e) (nin b o e hb),fun b ys e=>?_,fun b o u e=>?_,fun b ps e=>?_⟩
        · rw [upd_ne (below b o e)]; exact un.free b o (old3 b o e) n (nin b o e hb)
        · rw [upd_ne (trkne b _ e)]; exact un.tups b ys e
        · rw [upd_ne (trkne b _ e)]; exact un.frzs b o u e
        · rw [upd_ne (trkne b _ e)]; exact un.tbls b ps e
    · have q1:=T.item X' eP ew eK ec i _ s' _ H' (fun _ _=>False) J (fpok fr') st' go
      rw [←eP,←ew] at q1
      have q2:=q1
      refine thn q2 fun r s1 h1=>?_
      obtain ⟨u,hr,h4⟩:=h1
      subst hr
      dsimp only
      refine thn h4 fun _ s5 ⟨x,H5,J5,r5,y5,st5,fr5⟩=>?_
      have J5':=J5.pinned (fpok fr5) (T.obj _ _ st5)
      have q5:=hg' _ s5 _ H5 x u _ J5' r5 (step x H5 y5)
      rw [exe] at q5
      refine thn q5 fun _ s6 ⟨σ6,H6,J6,hσ,q6⟩=>?_
      have q7:=ht' _ s6 σ6 H6 _ J6 q6
      rw [exe] at q7
      refine thn q7 fun ok s7 ⟨H7,J7,q7⟩=>?_
      have lenσ:∀{H8:Hp} {s8:Shared} {pl:List (Addr × Obj)},Inv X' pl σ6 H8 s8→(List.replicate xs.length none++σ).length=σ6.length:=fun {H8 s8 pl} J8=>J6.len.symm ▸ I4.len
      have weak:∀{H8:Hp} {s8:Shared} {pl:List (Addr × Obj)},Inv X' pl σ6 H8 s8→Inv X' pl (List.replicate xs.length none++σ) H8 s8:=fun {H8 s8 pl} J8=>by
        refine J8.weak (lenσ J8) fun j v e=>?_
        by_cases hj:j < xs.length
        · rw [List.getElem?_append_left (by simpa using hj),List.getElem?_replicate,if_pos hj] at e
          cases e
        · have hj':xs.length≤j:=Nat.le_of_not_lt hj
          rw [List.getElem?_append_right (by simpa using hj'),List.length_replicate,←hσ,List.getElem?_drop] at e
          rw [←e]
          congr 1
          omega
      have back:∀{H8:Hp} {s8:Shared},Inv X' ([(s2.heap.objs.size,{ cls:=.type "list",data:=.seq its.toArray k })]++pinsAt fp s5.heap) σ6 H8 s8→
          Inv X' [] (List.replicate xs.length none++σ) H8 s8∧tn (i + 1) s8.heap∧(∀b∈fp,H8 b=none)∧H8 s2.heap.objs.size=none∧s8.heap.get? s2.heap.objs.size=some { cls:=.type "list",data:=.seq its.toArray k }:=fun {H8 s8} J8=>by
        have eD:=J8.pin (s2.heap.objs.size,{ cls:=.type "list",data:=.seq its.toArray k }) (List.mem_append_right _ (List.mem_append_left _ List.mem_cons_self))
        refine ⟨(weak J8).pins_of fun p hp=>absurd hp (by simp),T.keep _ _ _ st5 fun b hb o e=>(J8.pin (b,o) (List.mem_append_right _ (List.mem_append_right _ (mem_pinsAt hb e)))).1,fun b hb=>?_,eD.2.1,eD.1⟩
        obtain ⟨o,e,d⟩:=T.obj _ _ st5 b hb
        exact (J8.pin (b,o) (List.mem_append_right _ (List.mem_append_right _ (mem_pinsAt hb e)))).2.1
      cases ok with
      | false=>
        simp only [Bool.false_eq_true,if_false] at q7 ⊢
        obtain ⟨m',hm,w7⟩:=hN _ _ q7
        obtain ⟨a1,a2,a3,a4,a5⟩:=back J7
        exact ⟨m',hm,i + 1,acc,its,k,H7,a1,a2,a3,a4,rv,a5,w7⟩
      | true=>
        simp only [if_true] at q7 ⊢
        have q8:=he' _ s7 σ6 H7 _ J7 q7
        rw [exe] at q8
        refine thn q8 fun u8 s8 ⟨y,H8,J8,r8,q9⟩=>?_
        obtain ⟨m',hm,w8⟩:=hN _ _ q9
        obtain ⟨a1,a2,a3,a4,a5⟩:=back J8
        have hits:its.length=acc.length:=rv.length.symm
        refine wpAny_list_append_plain (hsz:=by show its.toArray.size≤sizeLine; rw [List.size_toArray,hits]; exact Nat.le_of_lt hz) ⟨k,a5⟩ fun h9 hl9 hs9=>?_
        obtain ⟨k9,e9⟩:=hl9
        refine ⟨m',hm,i + 1,acc++[y],its++[u8],k9,H8,?_,?_,a3,a4,rv.append (.cons r8 .nil),?_,w8⟩
        · exact a1.turned (t':=s8.toks) (fun b o hb e=>hs9.extBut b o hb e) a4 (by rw [eXloc]; exact hDC) (.inl (by rw [eXex]; exact List.mem_cons_self)) (fun x c e=>by rw [eXcl] at e; exact hnocell _ (Nat.le_refl _) x c (clF_lookup e).1) (fun p hp=>by rw [eXpn] at hp; simp at hp)
        · exact T.keep _ _ _ a2 fun b hb o e=>hs9.extBut b o (Nat.ne_of_lt (fpLt b hb)) e
        · rw [e9]
          congr 2
          simp
  rw [show { newEnv sc H3.objs.size X.env.globals (clF X.env.cells sc.names []) X.env.qual none .none (some X.env) builtinsNs with scope:=relabel sc X.env }=X'.env from envE.symm]
  exact codeAny_compStart_list (loop _ rfl) (T.self X.A 0 _ _ _ st1 (loop _ rfl))
end
end L2
namespace L2
open PySem PySem.Spec PyProof.Rows
def LCW (n:Nat) (J:It) (g:TG) (tc:TT) (te:TE) (σ:St) (H1:Hp) (F:List V→Hp→Prop):Prop:=
  ∃W:Nat→Nat→List V→Hp→Prop,(∃m,W 0 m [] H1)∧∀i m acc H,W i m acc H→(J.stop i H∧acc.length≤sizeLine∧F acc H)∨
    (J.go i H∧acc.length < sizeLine∧∃N:List V→Hp→Prop,(∀acc' H',N acc' H'→∃m',m' < m∧W (i + 1) m' acc' H')∧∀x H',J.yld i H x H'→g x (List.replicate n none++σ) H' fun σ2 H2=>σ2.drop n=σ∧tc σ2 H2 fun c H3=>
      if c=true then te σ2 H3 fun y H4=>N (acc++[y]) H4 else N acc H3)
def tLC (n:Nat) (wi:TI) (g:TG) (tc:TT) (te:TE):TE:=fun σ H Q=>wi σ H fun J H1=>LCW n J g tc te σ H1 fun acc H=>∀p,H p=none→Q (.ref p) (upd H p (.lst acc))
section
variable {X:Cx} {tg iter elt:Expr} {ifs:List Expr} {sc:Scope} {pos:Pos} {xs:List Str} {wi:TI} {g:TG} {tc:TT} {te:TE}
theorem FpOk.turn {pins:List (Addr × Obj)} {σ:St} {H:Hp} {s:Shared} {C:Addr} {h':Heap} (f:FpOk X pins H C) (I:Inv X pins σ H s) (hs:Heap.SameBut C s.heap h'):Inv X pins σ H { s with heap:=h' }:=
  I.turned (t':=s.toks) (fun b o hb e=>hs.extBut b o hb e) f.1 f.2.1 f.2.2.2.1 f.2.2.2.2.1 f.2.2.2.2.2
theorem pe_comp (S:CScope X xs sc) (hc:X.calm=true) (hi:PI X tg iter wi) (hg:∀ex s3 H3,PG (cxC X xs sc ex s3 H3) tg g) (ht:∀ex s3 H3,PTs (cxC X xs sc ex s3 H3) ifs tc) (he:∀ex s3 H3,PE (cxC X xs sc ex s3 H3) elt te)
    (hs:∀x,foldedSetIterable iter X.env x=pure x:=by intro _; rfl):PE X (.ListComp elt [⟨tg,iter,ifs,0⟩] sc pos) (tLC xs.length wi g tc te):=by
  intro pins s σ H Q I h
  rw [eval_ListComp]
  refine wpAny_comprehension_free (use:=none) rfl hs (closure_eq (S.cells I.ok)) S.kind S.names (thn (hi pins s σ H _ I h) fun v s1 h1=>thn h1 fun itv s2 h2=>?_)
  obtain ⟨it,fp,tn,J,H2,e,I2,T,st2,f2,W,w0,turn⟩:=h2
  subst e
  refine comp_core (RR:=fun acc C=>compPost (model X.prog X.w) X.A X.xe none (EP X pins σ Q) acc C) S hc hg ht he I2 T st2 f2 W w0 _ turn fun D C s' acc H' hns fC hF hD IF=>?_
  obtain ⟨m,hm⟩:=hns
  exact ⟨m,hm,fun h' hs'=>⟨.ref D,_,fC.turn IF hs',rfl,hF D hD⟩⟩
theorem ps_comp {i:Nat} {y:Str} {pos' spos:Pos} (S:CScope X xs sc) (hc:X.calm=true) (hN:X.N.Nodup) (hy:X.N[i]? = some y) (hk:X.env.scope.names.lookup y=some .local)
    (hi:PI X tg iter wi) (hg:∀ex s3 H3,PG (cxC X xs sc ex s3 H3) tg g) (ht:∀ex s3 H3,PTs (cxC X xs sc ex s3 H3) ifs tc) (he:∀ex s3 H3,PE (cxC X xs sc ex s3 H3) elt te)
    (hsw:swapsWith (.ListComp elt [⟨tg,iter,ifs,0⟩] sc pos) (some (.Name y pos')) spos.line X.env=pure true:=by rfl)
    (hs:∀x,foldedSetIterable iter X.env x=pure x:=by intro _; rfl):PS X (.Assign [.Name y pos'] (.ListComp elt [⟨tg,iter,ifs,0⟩] sc pos) spos) (tAsg (tLC xs.length wi g tc te) (gName i)):=by
  intro pins s σ H D I h
  rw [exec_Assign_Name_used _ _ _ _ hsw]
  refine wpAny_bind (wpAny_standAt (wpAny_bind ?_))
  show wpAny _ X.A (do let _ ←comprehension (.ListComp elt [⟨tg,iter,ifs,0⟩] sc pos) sc X.env _ (newList []) false (eval iter X.env) (some (assign (.Name y pos') X.env))) _ _ s
  refine wpAny_bind (wpAny_mono (wpAny_comprehension_free (use:=some (assign (.Name y pos') X.env)) (Q:=fun _ s'=>SP X pins D .next s') rfl hs (closure_eq (S.cells I.ok)) S.kind S.names
    (thn (hi pins s σ H _ I h) fun v s1 h1=>thn h1 fun itv s2 h2=>?_)) (fun _ s' hq=>wpAny_pure (wpAny_pure hq)) fun _ _ e=>e)
  obtain ⟨it,fp,tn,J,H2,e,I2,T,st2,f2,W,w0,turn⟩:=h2
  subst e
  refine comp_core (RR:=fun acc C=>compPost (model X.prog X.w) X.A X.xe (some (assign (.Name y pos') X.env)) (fun _ s'=>SP X pins D .next s') acc C) S hc hg ht he I2 T st2 f2 W w0 _ turn fun D' C s' acc H' hns fC hF hD IF=>?_
  obtain ⟨m,hm⟩:=hns
  refine wpAny_assign_Name (store_ok2 (v:=.ref D') IF hN hy (.inl hk) rfl (fun s'' I'' hsb=>?_) (.inr hk))
  obtain ⟨a,hsb,ha⟩:=hsb
  have hne:C≠a:=by
    rcases ha with z | z
    · rw [z]; exact fC.2.1
    · exact fun q=>fC.2.2.2.2.1 y a z q.symm
  refine ⟨m,hm.sameBut hsb hne,fun h' hs'=>⟨_,_,fC.turn I'' hs',hF D' hD⟩⟩
end
theorem lc_list {K:PySem.W.Frag} {a:Addr} {xs:List V} {n:Nat} {g:TG} {tc:TT} {te:TE} {σ:St} {H:Hp} {F:List V→Hp→Prop} (Pv:Nat→List V→Hp→Prop) (hn:xs.length≤1000000) (h0:Pv 0 [] H)
    (hl:∀i acc H,i≤xs.length→Pv i acc H→SqL K H a xs∧acc.length≤i)
    (hs:∀i x acc H,xs[i]? = some x→Pv i acc H→g x (List.replicate n none++σ) H fun σ2 H2=>σ2.drop n=σ∧tc σ2 H2 fun c H3=>if c=true then te σ2 H3 fun y H4=>Pv (i + 1) (acc++[y]) H4 else Pv (i + 1) acc H3)
    (hd:∀acc H,Pv xs.length acc H→F acc H):LCW n (Itl K a) g tc te σ H F:=by
  have sz:(1000000:Nat) < sizeLine:=by rw [sizeLine_eq]; decide
  refine ⟨fun i m acc H=>m=xs.length - i∧i≤xs.length∧Pv i acc H,⟨xs.length,by simp,Nat.zero_le _,h0⟩,?_⟩
  rintro i m acc H ⟨rfl,hi,p⟩
  have q:=hl i acc H hi p
  by_cases hlt:i < xs.length
  · refine .inr ⟨⟨xs,xs[i],q.1,by simp [hlt]⟩,by omega,Pv (i + 1),fun acc' H' p'=>⟨xs.length - (i + 1),by omega,rfl,hlt,p'⟩,fun x H' y=>?_⟩
    obtain ⟨e,y⟩:=y
    subst e
    exact hs i x acc _ (y xs q.1) p
  · have e:i=xs.length:=by omega
    subst e
    exact .inl ⟨⟨xs,q.1,Nat.le_refl _⟩,by omega,hd acc H p⟩
theorem lc_range {lo:Int} {k:Nat} {n:Nat} {g:TG} {tc:TT} {te:TE} {σ:St} {H:Hp} {F:List V→Hp→Prop} (Pv:Nat→List V→Hp→Prop) (hn:k≤1000000) (h0:Pv 0 [] H)
    (hl:∀i acc H,i≤k→Pv i acc H→acc.length≤i)
    (hs:∀i acc H,i < k→Pv i acc H→g (.int (lo + i)) (List.replicate n none++σ) H fun σ2 H2=>σ2.drop n=σ∧tc σ2 H2 fun c H3=>if c=true then te σ2 H3 fun y H4=>Pv (i + 1) (acc++[y]) H4 else Pv (i + 1) acc H3)
    (hd:∀acc H,Pv k acc H→F acc H):LCW n (Itr lo k) g tc te σ H F:=by
  have sz:(1000000:Nat) < sizeLine:=by rw [sizeLine_eq]; decide
  refine ⟨fun i m acc H=>m=k - i∧i≤k∧Pv i acc H,⟨k,by simp,Nat.zero_le _,h0⟩,?_⟩
  rintro i m acc H ⟨rfl,hi,p⟩
  have q:=hl i acc H hi p
  by_cases hlt:i < k
  · refine .inr ⟨hlt,by omega,Pv (i + 1),fun acc' H' p'=>⟨k - (i + 1),by omega,rfl,hlt,p'⟩,fun x H' y=>?_⟩
    obtain ⟨e,y⟩:=y
    subst e y
    exact hs i acc _ hlt p
  · have e:i=k:=by omega
    subst e
    exact .inl ⟨Nat.le_refl _,by omega,hd acc H p⟩
end L2
namespace L2
open PySem PySem.Spec PyProof.Rows
section
variable {prog:Program} {w:World} {A:Around} {E:Value→Shared→Prop} {s:Shared}
theorem draw_list {it t:Addr} {items:Array Value} (hne:t≠it):∀(n i:Nat) (s:Shared) (Q:List Value→Shared→Prop),s.heap.IsListIter it t i→s.heap.IsList t items→i + n≤items.size→
    (∀h',h'.IsListIter it t (i + n)→Heap.SameBut it s.heap h'→Q ((items.toList.drop i).take n) { s with heap:=h' })→wpAny (model prog w) A (draw (.ref it) n) Q E s
  | 0,i,s,Q,hit,_,_,hQ=>by
    show wpAny _ _ (pure []) Q E s
    exact wpAny_pure (by simpa using hQ s.heap hit (Heap.SameBut.refl ..))
  | n + 1,i,s,Q,hit,ht,hle,hQ=>by
    have hlt:i < items.size:=by omega
    show wpAny _ _ (pyNext (.ref it) >>= _) Q E s
    refine wpAny_bind (wpAny_pyNext_list_item hit ht (x:=items[i]) (by simp [hlt]) fun h₁ hit₁ hs₁=>?_)
    refine wpAny_bind (wpAny_holding (draw_list hne n (i + 1) _ _ hit₁ (ht.extBut hs₁.extBut hne) (by omega) fun h₂ hit₂ hs₂=>wpAny_pure ?_))
    have hd:items.toList.drop i=items[i] :: items.toList.drop (i + 1):=by simp [List.drop_eq_getElem_cons,hlt]
    have:=hQ h₂ (by rw [show i + (n + 1)=i + 1 + n by omega]; exact hit₂) (hs₁.trans hs₂)
    rw [hd,List.take_succ_cons] at this
    exact this
theorem unpackItems_list {t:Addr} {items:Array Value} {Q:List Value→Shared→Prop} (hh:A.handled=none) (ht:s.heap.IsList t items)
    (hQ:∀h',Heap.ExtBut s.heap.objs.size s.heap h'→Q items.toList { s with heap:=h' }):wpAny (model prog w) A (unpackItems (.ref t) items.size none) Q E s:=by
  have hlt:t≠s.heap.objs.size:=by obtain ⟨o,ho,_⟩:=ht; exact Nat.ne_of_lt (Heap.lt_size ho)
  unfold unpackItems
  refine wpAny_bind ?_
  · unfold notIterableAtAll
    refine wpAny_bind (wpAny_specialOf ht.typeIs slot_list_iter.lookup ?_)
    refine wpAny_pure ?_
    simp only [Bool.false_eq_true,if_false]
    refine wpAny_bind (wpAny_holding (wpAny_pyIter_list ht ?_))
    refine wpAny_bind (wpAny_holding (draw_list hlt items.size 0 _ _ ⟨_,Heap.get?_push_size _ rfl,rfl,rfl⟩ (ht.push _) (by omega) fun h₁ hit₁ hs₁=>?_))
    have hall:List.take items.size (List.drop 0 items.toList)=items.toList:=by
      rw [List.drop_zero]; exact List.take_of_length_le (by simp)
    rw [hall]
    rw [if_neg (by simp)]
    have ht₁:h₁.IsList t items:=(ht.push _).extBut hs₁.extBut hlt
    refine wpAny_bind (wpAny_holding (wpAny_pyNext_list_end hh hit₁ ht₁ (by simp) fun h₂ he₂=>?_))
    simp only [Option.isSome_none,Bool.false_eq_true,if_false]
    refine wpAny_pure (hQ h₂ fun b o hb e=>he₂ b o hb (hs₁.extBut b o hb (Heap.get?_push_of_some _ e)))
theorem assign_Tuple_list {env:Env} {elts:List Expr} {x1} {pos:Pos} {t:Addr} {items:Array Value} {Q:Unit→Shared→Prop} (hh:A.handled=none) (ht:s.heap.IsList t items)
    (hn:(assignEach elts env).length=items.size) (hstar:(assignEach elts env).findIdx? (·.1)=none)
    (h:∀h',Heap.ExtBut s.heap.objs.size s.heap h'→wpAny (model prog w) A (assignInOrder ((assignEach elts env).map (·.2)) items.toList) Q E { s with heap:=h' }) :
    wpAny (model prog w) A (assign (.Tuple elts x1 pos) env (.ref t)) Q E s:=by
  rw [assign_Tuple]
  refine wpAny_bind (wpAny_standAt ?_)
  unfold unpack
  rw [hn,hstar]
  exact wpAny_bind (wpAny_holding (unpackItems_list hh ht h))
end
section
variable {X:Cx} {pos:Pos}
def gLst (K:PySem.W.Frag) (n:Nat) (t:TGs):TG:=fun v σ H Q=>∃a xs,v = .ref a∧SqL K H a xs∧xs.length=n∧t xs σ H Q
theorem pg_lst {es:List Expr} {k:Nat} {t:TGs} {n:Nat} (hc:X.calm=true) (h:PGs X es t)
    (hn:(assignEach es X.env).length=n:=by rfl) (hst:(assignEach es X.env).findIdx? (·.1)=none:=by rfl):PG X (.Tuple es k pos) (gLst X.K n t):=by
  intro pins s σ H v u Q I r hw
  obtain ⟨a,xs,e1,hq,hl,hw⟩:=hw
  subst e1
  cases r
  obtain ⟨its,rv,ht,hz⟩:=I.list hq
  refine assign_Tuple_list (I.ok.hd hc) ht.isList (by simp [hn,←hl,rv.length]) hst fun h' hx=>?_
  have I1:Inv X pins σ H { s with heap:=h' }:=I.kept (t':=s.toks) fun b o e=>hx b o (Nat.ne_of_lt (Heap.lt_size e)) e
  exact h pins _ σ H xs _ Q I1 (by simpa using rv) hw
theorem mt_bitlen:MtR X "int.bit_length" (fun x xs H Q=>∃i,x = .int i∧xs=[]∧Q (.int ((Builtin.Int.intBits i:Nat):Int)) H):=by
  intro pins s σ H x xs v us Q I rx rs h
  obtain ⟨i,rfl,rfl,q⟩:=h
  obtain ⟨t,rfl⟩:=rx
  cases rs
  exact call_int_bit_length ⟨.int _,H,I.tok _,⟨_,rfl⟩,q⟩
def rEqL (K:PySem.W.Frag) (neg:Bool):R2:=fun x y H Q=>∃(a b:Addr) (ns ms:List Int),x = .ref a∧y = .ref b∧SqL K H a (ns.map V.int)∧SqL K H b (ms.map V.int)∧Q (.bl (if neg then !decide (ns=ms) else decide (ns=ms))) H
theorem op_eqL (hu:X.A.units + 64 < cLine):OpR X (compareOp .Eq) (rEqL X.K false):=by
  intro pins s σ H x y v u Q I rx ry h
  obtain ⟨a,b,ns,ms,rfl,rfl,h1,h2,q⟩:=h
  cases rx; cases ry
  obtain ⟨its,rv,pl,_⟩:=I.list h1
  obtain ⟨its',rv',pl',_⟩:=I.list h2
  exact PySem.W.eq_intsK pl.isList (intsAre_of rv) pl'.isList (intsAre_of rv') hu ⟨.bl _,H,I,rfl,q⟩
end
end L2
namespace L2
open PySem PySem.Spec PyProof.Rows
def But (st:Addr) (H H':Hp):Prop:=∀b o,H b=some o→b≠st→H' b=some o
theorem But.refl (st:Addr) (H:Hp):But st H H:=fun _ _ h _=>h
theorem But.trans {st:Addr} {H H1 H2:Hp} (a:But st H H1) (b:But st H1 H2):But st H H2:=fun c o h n=>b c o (a c o h n) n
theorem But.put (st:Addr) (H:Hp) (o:HO):But st H (upd H st o):=fun b u e n=>by rw [upd_ne n]; exact e
theorem Same.but {st:Addr} {H H':Hp} (e:Same H H'):But st H H':=fun b o h _=>e b o h
theorem Same.new {H:Hp} {p:Addr} {o:HO} (h:H p=none):Same H (upd H p o):=fun b u e=>by rw [upd_ne (ne_of_none e h)]; exact e
theorem But.new {st:Addr} {H:Hp} {p:Addr} {o:HO} (h:H p=none):But st H (upd H p o):=(Same.new h).but
theorem nat_of {x:Int} {n:Nat} (h0:0≤x) (h1:x < (n:Int)):∃r:Nat,x=(r:Int)∧r < n:=⟨x.toNat,by omega,by omega⟩
theorem shl1 (m:Nat):(1:Int) * 2 ^ (m:Int).toNat=((2 ^ m:Nat):Int):=by simp
theorem cpow1 {m:Nat} (h:m≤1000):CPow 1 (m:Int):=⟨by omega,by omega,by decide⟩
theorem bitAnd_nat (a b:Nat):Builtin.bitAnd (a:Int) (b:Int)=((a&&&b:Nat):Int):=by
  simp [Builtin.bitAnd]
theorem bitNot_not (x:Int):Builtin.bitNot (Builtin.bitNot x)=x:=by unfold Builtin.bitNot; omega
theorem bitOr_nat (a b:Nat):Builtin.bitOr (a:Int) (b:Int)=((a|||b:Nat):Int):=by
  have ha:¬0≤Builtin.bitNot (a:Int):=by unfold Builtin.bitNot; omega
  have hb:¬0≤Builtin.bitNot (b:Int):=by unfold Builtin.bitNot; omega
  unfold Builtin.bitOr
  simp only [Builtin.bitAnd,ha,hb,decide_false,bitNot_not,Int.toNat_natCast]
theorem two_pow_int (k:Nat):((2:Int) ^ k)=((2 ^ k:Nat):Int):=by simp
end L2
namespace L2
open PySem PySem.Spec PyProof.Rows
def cscB (N xs:List Str) (osc sc:Scope):Bool:=
  decide (sc.kind = .function) && sc.names.all (fun y=>decide (y.2≠.cell)) && sc.names.all (fun y=>decide (y.2≠.local) || decide (sc.names.lookup y.1=some .local)) && xs.all (fun x=>decide (sc.names.lookup x=some .local)) &&
    N.all (fun y=>decide (sc.names.lookup y≠some .local)) && sc.names.all (fun y=>decide (y.2≠.free) || (decide (osc.names.lookup y.1=some .cell) || decide (osc.names.lookup y.1=some .free))) && decide ((xs++N).Nodup)
theorem cs {X:Cx} {xs:List Str} {sc:Scope} (N:List Str) (osc:Scope) (hN:X.N=N) (ho:X.env.scope=osc) (h:cscB N xs osc sc=true):CScope X xs sc:=by
  unfold cscB at h
  simp only [Bool.and_eq_true,List.all_eq_true,decide_eq_true_eq,Bool.or_eq_true] at h
  obtain ⟨⟨⟨⟨⟨⟨h1,h2⟩,h3⟩,h4⟩,h5⟩,h6⟩,h7⟩:=h
  refine ⟨h1,h2,fun y hy e=>?_,h4,by rw [hN]; exact h5,fun y hy e=>?_,by rw [hN]; exact h7⟩
  · rcases h3 y hy with z | z
    · exact absurd e z
    · exact z
  · rcases h6 y hy with z | z
    · exact absurd e z
    · show X.env.scope.names.lookup y.1=_∨X.env.scope.names.lookup y.1=_
      rw [ho]; exact z
end L2
namespace L2
open PySem PySem.Spec PyProof.Rows
theorem mod_lo (x:Int) {m:Int} (h:0 < m):0≤x % m:=Int.emod_nonneg _ (by omega)
theorem mod_hi (x:Int) {m:Int} (h:0 < m):x % m < m:=Int.emod_lt_of_pos _ h
def vN (k:Nat):V:=V.int (k:Int)
def hasB (a k:Nat):Bool:=decide (a / 2 ^ k % 2=1)
def bitsN (a:Nat):Nat:=Builtin.Int.intBits (a:Int)
def colsN (a:Nat):List Nat:=(List.range (bitsN a)).filter (hasB a)
theorem map_int (l:List Nat):(l.map fun (k:Nat)=>(k:Int)).map V.int=l.map vN:=by rw [List.map_map]; rfl
theorem bitsN_le {a:Nat} (h:a < 2 ^ 20):bitsN a≤20:=by
  unfold bitsN Builtin.Int.intBits
  split
  · omega
  · rename_i z
    have h0:a≠0:=by intro e; subst e; exact z rfl
    have:a.log2 < 20:=(Nat.log2_lt h0).mpr h
    show (a:Int).natAbs.log2 + 1≤20
    rw [Int.natAbs_natCast]
    omega
theorem dec_nat (a b:Nat):decide (V.int (a:Int)=V.int (b:Int))=decide (a=b):=by
  rw [dec_int,Bool.eq_iff_iff,beq_iff_eq,decide_eq_true_iff]
  exact Int.ofNat_inj
def spHas:Sp:=fun vs H Q _=>∃a k:Nat,vs=[vN a,vN k]∧Q (.bl (hasB a k)) H
def spCols:Sp:=fun vs H Q _=>∃a:Nat,vs=[vN a]∧a < 2 ^ 20∧∀p,H p=none→Q (.ref p) (upd H p (.lst ((colsN a).map vN)))
def spAllOf:Sp:=fun vs H Q _=>∃m:Nat,vs=[vN m]∧m≤1000∧Q (vN (2 ^ m - 1)) H
theorem has_eq (a k:Nat):decide (V.int (Builtin.bitAnd ((a:Int) / 2 ^ (k:Int).toNat) 1)=V.int 1)=hasB a k:=by
  have e:((a:Int) / 2 ^ (k:Int).toNat)=((a / 2 ^ k:Nat):Int):=by
    rw [Int.toNat_natCast,two_pow_int]; omega
  rw [e,show (1:Int)=((1:Nat):Int) from rfl,bitAnd_nat,dec_nat,Nat.and_one_is_mod]
  rfl
theorem filt_succ (p:Nat→Bool) (i:Nat):(List.range (i + 1)).filter p=(List.range i).filter p++(if p i=true then [i] else []):=by
  rw [List.range_succ,List.filter_append]
  congr 1
  cases h:p i <;> simp [h]
end L2
namespace L2
open PySem PySem.Spec PyProof.Rows
section
variable {X:Cx} {K:PySem.W.Frag}
theorem ix_listK (h:X.K=K):IxR X (rIxL K):=h ▸ ix_list
theorem ix_tupK (h:X.K=K):IxR X (rIxT K):=h ▸ ix_tup
theorem call_lenK (h:X.K=K):CallR X (.builtin "len") (fun xs H Q=>∃p ys,xs=[.ref p]∧(SqL K H p ys∨SqT K H p ys)∧Q (.int ys.length) H):=h ▸ call_len_seq
theorem call_listK (h:X.K=K):CallR X (.type "list") (fun xs H Q=>∃p ys,xs=[.ref p]∧(SqL K H p ys∨SqT K H p ys)∧∀l,H l=none→Q (.ref l) (upd H l (.lst ys))):=h ▸ call_list_of
theorem call_tupleK (h:X.K=K):CallR X (.type "tuple") (fun xs H Q=>∃p ys,xs=[.ref p]∧((SqL K H p ys∧∀l,H l=none→Q (.ref l) (upd H l (.tup ys)))∨(SqT K H p ys∧Q (.ref p) H))):=h ▸ call_tuple_of
theorem op_eqLK (h:X.K=K) (hu:X.A.units + 64 < cLine):OpR X (compareOp .Eq) (rEqL K false):=h ▸ op_eqL hu
theorem pi_listK {tg l:Expr} {tl:TE} (h:X.K=K) (hl:PE X l tl):PI X tg l (iList K tl):=h ▸ pi_list hl
theorem pi_tupK {tg l:Expr} {tl:TE} (h:X.K=K) (hl:PE X l tl):PI X tg l (iTup K tl):=h ▸ pi_tup hl
end
end L2
namespace L2
open PySem PySem.Spec PyProof.Rows
def rN (C:Nat→Nat→Prop) (g:Nat→Nat→V):R2:=fun x y H Q=>∃i j:Nat,x=vN i∧y=vN j∧C i j∧Q (g i j) H
def rN0 (g:Nat→Nat→V):R2:=fun x y H Q=>∃i j:Nat,x=vN i∧y=vN j∧Q (g i j) H
section
variable {X:Cx}
theorem OpR.mono {f:Value→Value→Sem Value} {r r':R2} (h:OpR X f r) (k:∀x y H Q,r' x y H Q→r x y H Q):OpR X f r':=fun pins s σ H x y v u Q I rx ry q=>h pins s σ H x y v u Q I rx ry (k x y H Q q)
theorem op_addN:OpR X (binaryOp .Add) (rN0 fun i j=>vN (i + j)):=op_add.mono fun x y H Q ⟨i,j,h1,h2,q⟩=>⟨i,j,h1,h2,by show Q (V.int ((i:Int) + j)) H; rw [←Int.natCast_add]; exact q⟩
theorem op_subN:OpR X (binaryOp .Sub) (rN (fun i j=>j≤i) fun i j=>vN (i - j)):=op_sub.mono fun x y H Q ⟨i,j,h1,h2,h,q⟩=>⟨i,j,h1,h2,by show Q (V.int ((i:Int) - j)) H; rw [←Int.ofNat_sub h]; exact q⟩
theorem op_shlN:OpR X (binaryOp .LShift) (rN (fun i j=>j≤1000∧i < 2 ^ 64) fun i j=>vN (i * 2 ^ j)):=op_shl.mono fun x y H Q ⟨i,j,h1,h2,h,q⟩=>⟨i,j,h1,h2,⟨by omega,by omega,by rw [Int.natAbs_natCast]; exact h.2⟩,by
  show Q (V.int ((i:Int) * 2 ^ (j:Int).toNat)) H
  rw [Int.toNat_natCast,two_pow_int,←Int.natCast_mul]; exact q⟩
theorem op_shl1:OpR X (binaryOp .LShift) (fun x y H Q=>∃j:Nat,x = .int 1∧y=vN j∧j≤1000∧Q (vN (2 ^ j)) H):=op_shlN.mono fun x y H Q ⟨j,h1,h2,h,q⟩=>⟨1,j,h1,h2,⟨h,by decide⟩,by show Q (vN (1 * 2 ^ j)) H; rw [Nat.one_mul]; exact q⟩
theorem op_shrN:OpR X (binaryOp .RShift) (rN0 fun i j=>vN (i / 2 ^ j)):=op_shr.mono fun x y H Q ⟨i,j,h1,h2,q⟩=>⟨i,j,h1,h2,by omega,by
  show Q (V.int ((i:Int) / 2 ^ (j:Int).toNat)) H
  rw [Int.toNat_natCast,two_pow_int,←Int.natCast_ediv]; exact q⟩
theorem op_andN:OpR X (binaryOp .BitAnd) (rN0 fun i j=>vN (i&&&j)):=op_and.mono fun x y H Q ⟨i,j,h1,h2,q⟩=>⟨i,j,h1,h2,by show Q (V.int (Builtin.bitAnd (i:Int) j)) H; rw [bitAnd_nat]; exact q⟩
theorem op_orN:OpR X (binaryOp .BitOr) (rN0 fun i j=>vN (i|||j)):=op_or.mono fun x y H Q ⟨i,j,h1,h2,q⟩=>⟨i,j,h1,h2,by show Q (V.int (Builtin.bitOr (i:Int) j)) H; rw [bitOr_nat]; exact q⟩
theorem op_eqN:OpR X (compareOp .Eq) (rN0 fun i j=>.bl (decide (i=j))):=op_eq.mono fun x y H Q ⟨i,j,h1,h2,q⟩=>by
  subst h1 h2
  refine ⟨rfl,?_⟩
  show Q (V.bl (decide (V.int (i:Int)=V.int (j:Int)))) H
  rw [dec_nat]; exact q
theorem op_neN:OpR X (compareOp .NotEq) (rN0 fun i j=>.bl (!decide (i=j))):=op_ne.mono fun x y H Q ⟨i,j,h1,h2,q⟩=>by
  subst h1 h2
  refine ⟨rfl,?_⟩
  show Q (V.bl (!decide (V.int (i:Int)=V.int (j:Int)))) H
  rw [dec_nat]; exact q
theorem dlt (i j:Nat):decide ((i:Int) < (j:Int))=decide (i < j):=by rw [decide_eq_decide]; omega
theorem op_ltN:OpR X (compareOp .Lt) (rN0 fun i j=>.bl (decide (i < j))):=op_lt.mono fun x y H Q ⟨i,j,h1,h2,q⟩=>⟨i,j,h1,h2,by show Q (V.bl (decide ((i:Int) < j))) H; rw [dlt]; exact q⟩
theorem op_gtN:OpR X (compareOp .Gt) (rN0 fun i j=>.bl (decide (j < i))):=op_gt.mono fun x y H Q ⟨i,j,h1,h2,q⟩=>⟨i,j,h1,h2,by show Q (V.bl (decide ((j:Int) < i))) H; rw [dlt]; exact q⟩
end
theorem lc_rangeN {k:Nat} {n:Nat} {g:TG} {tc:TT} {te:TE} {σ:St} {H:Hp} {F:List V→Hp→Prop} (Pv:Nat→List V→Hp→Prop) (hn:k≤1000000) (h0:Pv 0 [] H)
    (hl:∀i acc H,i≤k→Pv i acc H→acc.length≤i)
    (hs:∀i acc H,i < k→Pv i acc H→g (vN i) (List.replicate n none++σ) H fun σ2 H2=>σ2.drop n=σ∧tc σ2 H2 fun c H3=>if c=true then te σ2 H3 fun y H4=>Pv (i + 1) (acc++[y]) H4 else Pv (i + 1) acc H3)
    (hd:∀acc H,Pv k acc H→F acc H):LCW n (Itr 0 k) g tc te σ H F:=
  lc_range Pv hn h0 hl (fun i acc H hi p=>by rw [Int.zero_add]; exact hs i acc H hi p) hd
theorem for_rangeN {n:Nat} {g:TG} {tb:TS} {D:Ends} {σ:St} {H:Hp} (Pv:Nat→St→Hp→Prop) (h0:Pv 0 σ H)
    (hs:∀i σ H,i < n→Pv i σ H→g (vN i) σ H fun σ2 H2=>tb { D with nx:=Pv (i + 1),ct:=Pv (i + 1),bk:=D.nx } σ2 H2) (hd:∀σ H,Pv n σ H→D.nx σ H) :
    ∃W:Nat→Nat→St→Hp→Prop,(∃m,W 0 m σ H)∧∀i m σ H,W i m σ H→
      ((Itr 0 n).stop i H∧D.nx σ H)∨((Itr 0 n).go i H∧∃N:St→Hp→Prop,(∀σ' H',N σ' H'→∃m',m' < m∧W (i + 1) m' σ' H')∧∀x H',(Itr 0 n).yld i H x H'→g x σ H' fun σ2 H2=>tb { D with nx:=N,ct:=N,bk:=D.nx } σ2 H2):=
  for_range (lo:=0) Pv h0 (fun i σ H hi p=>by rw [Int.zero_add]; exact hs i σ H hi p) hd
end L2
namespace L2
open PySem PySem.Spec PyProof.Rows
section
variable {X:Cx} {K:PySem.W.Frag}
end
def SqF (K:PySem.W.Frag) (H:Hp) (a:Addr) (ns:List Int):Prop:=(∃o,H a=some (.frz o (.lst (ns.map V.int))))∨
  ∃(o:Obj) (its:Array Value) (n:Nat),K.lookup a=some o∧o.cls = .type "list"∧o.dict=none∧o.data = .seq its n∧its.size≤sizeLine∧Vals (ns.map V.int) its.toList
theorem SqF.sq {K:PySem.W.Frag} {H:Hp} {a:Addr} {ns:List Int} (h:SqF K H a ns):SqL K H a (ns.map V.int):=by
  rcases h with ⟨o,h⟩ | h
  · exact .inl (.inr ⟨o,h⟩)
  · exact .inr h
theorem SqF.of {K:PySem.W.Frag} {H:Hp} {a:Addr} {ns:List Int} (hO:Only H) (h:SqL K H a (ns.map V.int)):SqF K H a ns:=by
  rcases h with (h | ⟨o,h⟩) | h
  · rcases hO a with z | ⟨o,xs,z⟩
    · rw [h] at z; cases z
    · rw [h] at z; cases z
  · exact .inl ⟨o,h⟩
  · exact .inr h
theorem SqF.imp {K:PySem.W.Frag} {H H':Hp} {a:Addr} {ns:List Int} (h:SqF K H a ns) (e:∀o,H a=some (.frz o (.lst (ns.map V.int)))→H' a=some (.frz o (.lst (ns.map V.int)))):SqF K H' a ns:=by
  rcases h with ⟨o,h⟩ | h
  · exact .inl ⟨o,e o h⟩
  · exact .inr h
def STF (K:PySem.W.Frag) (H:Hp) (st:Addr) (ns:List Int) (k:Nat):Prop:=∃sc,H st=some (.lst [.ref sc,.int (k:Int)])∧SqF K H sc ns
theorem STF.seq {K:PySem.W.Frag} {H H':Hp} {st sc:Addr} {ns:List Int} {v:V} (h:H st=some (.lst [.ref sc,v])) (hs:SqF K H sc ns) (b:But st H H'):SqF K H' sc ns:=
  hs.imp fun o z=>b _ _ z fun e=>by
    subst e
    rw [h] at z
    cases z
theorem STF.same {K:PySem.W.Frag} {H H':Hp} {st:Addr} {ns:List Int} {k:Nat} (h:STF K H st ns k) (e:Same H H'):STF K H' st ns k:=by
  obtain ⟨sc,h1,h2⟩:=h
  exact ⟨sc,e _ _ h1,h2.imp fun o z=>e _ _ z⟩
theorem STF.new {K:PySem.W.Frag} {H:Hp} {st p:Addr} {ns:List Int} {k:Nat} {o:HO} (h:STF K H st ns k) (hp:H p=none):STF K (upd H p o) st ns k:=h.same (Same.new hp)
theorem STF.start {K:PySem.W.Frag} {H:Hp} {a p:Addr} {ns:List Int} (h:SqF K H a ns) (hp:H p=none):STF K (upd H p (.lst [.ref a,.int 0])) p ns 0:=
  ⟨a,upd_same,h.imp fun o z=>(Same.new hp) _ _ z⟩
theorem STF.put {K:PySem.W.Frag} {H:Hp} {st p:Addr} {ns:List Int} {k:Nat} {xs ys:List V} (h:STF K H st ns k) (hp:H p=some (.lst xs)) (hn:p≠st):STF K (upd H p (.lst ys)) st ns k:=by
  obtain ⟨sc,h1,h2⟩:=h
  refine ⟨sc,by rw [upd_ne (Ne.symm hn)]; exact h1,h2.imp fun o z=>?_⟩
  rw [upd_ne]
  · exact z
  · intro e
    subst e
    rw [hp] at z
    cases z
theorem STF.some {K:PySem.W.Frag} {H:Hp} {st:Addr} {ns:List Int} {k:Nat} (h:STF K H st ns k):∃o,H st=some o:=by
  obtain ⟨sc,h1,_⟩:=h
  exact ⟨_,h1⟩
theorem But.own {st p:Addr} {H H':Hp} {o:HO} (b:But st H H') (hp:H p=none):But st H (upd H' p o):=fun c u e n=>by
  rw [upd_ne (ne_of_none e hp)]
  exact b c u e n
def spTakeF (K:PySem.W.Frag):Sp:=fun vs H Q _=>∃(st:Addr) (ns:List Int) (k:Nat) (most:Int),vs=[.ref st,.int most]∧STF K H st ns k∧k≤1000000∧ns.length≤63∧0 < most∧
  ∀(r:Int) (H':Hp),0≤r→r < most→STF K H' st ns (k + 1)→But st H H'→Q (.int r) H'
end L2
namespace L2
open PySem PySem.Spec PyProof.Rows
section
variable {X:Cx} {K:PySem.W.Frag}
theorem dInt (i j:Int):decide (V.int i=V.int j)=decide (i=j):=by
  rw [dec_int,Bool.eq_iff_iff,beq_iff_eq,decide_eq_true_iff]
theorem op_eqI:OpR X (compareOp .Eq) (rI0 fun i j=>.bl (decide (i=j))):=op_eq.mono fun x y H Q ⟨i,j,h1,h2,q⟩=>by
  subst h1 h2
  exact ⟨rfl,by rw [dInt]; exact q⟩
theorem op_neI:OpR X (compareOp .NotEq) (rI0 fun i j=>.bl (!decide (i=j))):=op_ne.mono fun x y H Q ⟨i,j,h1,h2,q⟩=>by
  subst h1 h2
  exact ⟨rfl,by rw [dInt]; exact q⟩
theorem all_eq (ns ms:List Int):((List.range (min ns.length ms.length)).all (fun j=>decide (ns.getD j 0=ms.getD j 0)) && ns.length == ms.length)=decide (ns=ms):=by
  rw [Bool.eq_iff_iff,Bool.and_eq_true,List.all_eq_true,beq_iff_eq,decide_eq_true_iff]
  constructor
  · rintro ⟨h,hl⟩
    refine List.ext_getElem hl fun j h1 h2=>?_
    have:=of_decide_eq_true (h j (List.mem_range.mpr (by omega)))
    rw [List.getD_eq_getElem?_getD,List.getElem?_eq_getElem h1,List.getD_eq_getElem?_getD,List.getElem?_eq_getElem h2] at this
    exact this
  · rintro rfl
    exact ⟨fun j _=>decide_eq_true rfl,rfl⟩
theorem all_range (bs:List Bool):((List.range bs.length).all fun i=>bs.getD i true)=bs.all id:=by
  rw [Bool.eq_iff_iff,List.all_eq_true,List.all_eq_true]
  constructor
  · intro h b hb
    obtain ⟨i,hi,rfl⟩:=List.getElem_of_mem hb
    have:=h i (List.mem_range.mpr hi)
    rwa [List.getD_eq_getElem?_getD,List.getElem?_eq_getElem hi] at this
  · intro h i hi
    have hi':=List.mem_range.mp hi
    rw [List.getD_eq_getElem?_getD,List.getElem?_eq_getElem hi']
    exact h _ (List.getElem_mem hi')
theorem call_allK (h:X.K=K) (hc:X.calm=true):CallR X (.builtin "all") (fun xs H Q=>∃(p:Addr) (bs:List Bool),xs=[.ref p]∧SqL K H p (bs.map V.bl)∧Q (.bl (bs.all id)) H):=by
  subst h
  intro pins s σ H xs us Q I r h
  obtain ⟨p,bs,rfl,hq,q⟩:=h
  obtain ⟨u,rfl,rx⟩:=vals1 r
  cases rx
  obtain ⟨its,rv,pl,hz⟩:=I.list hq
  have len:its.length=bs.length:=by rw [←rv.length,List.length_map]
  refine call_all_walk (wpAny_pyIter_list pl.isList ⟨s.heap.objs.size,[s.heap.objs.size,p],[s.heap.objs.size],its.toArray.size,_,_,fun i=>bs.getD i true,rfl,Walks.list (A:=X.A.in1) (I.ok.hd hc) _ p (Nat.ne_of_lt pl.lt) its.toArray,⟨⟨_,Heap.get?_push_size _ rfl,rfl,rfl⟩,pl.isList.push _⟩,fun i v s' Q' E' hP hQ=>?_,fun h' tk hk=>?_⟩)
  · have hP':its[i]? = some v:=by simpa using hP
    have hi:i < bs.length:=by rw [←len]; exact (List.getElem?_eq_some_iff.mp hP').1
    obtain ⟨c,e1,r1⟩:=rv.get (i:=i) (x:=V.bl bs[i]) (by rw [List.getElem?_map,List.getElem?_eq_getElem hi]; rfl)
    rw [hP'] at e1
    obtain rfl:=Option.some.inj e1
    obtain rfl:v=Value.bool bs[i]:=r1
    refine wpAny_truthy_bool ?_
    have hQ':Q' (bs.getD i true) s':=hQ
    rwa [List.getD_eq_getElem?_getD,List.getElem?_eq_getElem hi] at hQ'
  · refine ⟨.bl (bs.all id),H,I.kept fun b o e=>hk b o (fun hm=>?_) (Heap.get?_push_of_some _ e),?_,q⟩
    · rw [List.mem_singleton.mp hm] at e
      exact Nat.lt_irrefl _ (Heap.lt_size e)
    · show _=Value.bool _
      rw [List.size_toArray,len,all_range]
end
end L2
namespace L2
open PySem PySem.Spec PyProof.Rows
section
variable {prog:Program} {w:World} {A:Around} {E:Value→Shared→Prop} {s:Shared}
end
section
variable {X:Cx} {pins:List (Addr × Obj)} {σ:St} {H:Hp} {s:Shared}
theorem Inv.turnedL {t':Nat} {h':Heap} {ch:List Addr} (I:Inv X pins σ H s) (k:∀b o,b∉ch→s.heap.get? b=some o→h'.get? b=some o) (hf:∀b∈ch,FpOk X pins H b):Inv X pins σ H { s with heap:=h',toks:=t' }:=by
  have nit:∀b u,H b=some u→b∉ch:=fun b u e z=>by rw [(hf b z).1] at e; cases e
  refine I.step (g':=s.gens) (d':=s.drawn) (ch:=ch) (fun b hb=>?_) (fun b o _ _ hc e _=>k b o hc e) (fun b o _ _ hc e _=>⟨o.slots,k b o hc e⟩) (fun _ _ _ _ n=>n) (fun b o hc e=>⟨o,k b o hc e⟩) (fun _ _ e=>e) (fun _ _ _ e=>e) (fun b ps e=>⟨#[],by rw [e]; simp⟩) (fun m hm=>?_) (fun b u e=>?_) I.bare
  · obtain ⟨f0,f1,f2,f3,f4,f5⟩:=hf b hb
    exact ⟨f3,f1,f4,f5⟩
  · obtain ⟨o,es,ep,ho,r⟩:=hm
    exact ⟨o,es,ep,k _ o (fun z=>(hf _ z).2.1 rfl) ho,r⟩
  · refine (I.hok b u e).stay (fun c v hc q=>k c v ?_ q) (fun _ q=>q) fun _ _ q=>q
    rcases hc with z | z
    · rw [z]; exact nit b u e
    · exact nit c _ z
end
end L2
namespace L2
open PySem PySem.Spec PyProof.Rows
theorem stf_fresh {K:PySem.W.Frag} {H H1:Hp} {st p:Addr} {ns:List Int} {k:Nat} (S:STF K H1 st ns k) (B:But st H H1) (hp:H1 p=none):H p=none∧p≠st:=by
  have hn:p≠st:=fun e=>by
    obtain ⟨o,z⟩:=S.some
    rw [←e,hp] at z; cases z
  refine ⟨?_,hn⟩
  cases e:H p with
  | none=>rfl
  | some o=>rw [B p o e hn] at hp; cases hp
theorem stf_tup {K:PySem.W.Frag} {H H1:Hp} {st t:Addr} {ns:List Int} {k:Nat} {xs:List V} (S:STF K H st ns k) (B:But st H H1) (h:H t=some (.tup xs)):H1 t=some (.tup xs):=
  B _ _ h fun e=>by
    obtain ⟨sc,h1,_⟩:=S
    rw [←e,h] at h1; cases h1
theorem tup_put {H:Hp} {p:Addr} {xs ys:List V} (hp:H p=some (.lst xs)):∀t zs,H t=some (.tup zs)→(upd H p (.lst ys)) t=some (.tup zs):=fun t zs e=>by
  rw [upd_ne]
  · exact e
  · intro z
    rw [z,hp] at e; cases e
def mixL (r1 r2:List Int) (s:Nat):List Int:=(List.range r1.length).map fun k=>if hasB s k=true then r1.getD k 0 else r2.getD k 0
def alikeL (r1 r2:List Int) (s:Nat):Bool:=((colsN s).map fun c=>decide (r1.getD c 0=r2.getD c 0)).all id
def offL (r1 r2:List Int) (s:Nat):List Nat:=(List.range r1.length).filter fun k=>hasB s k && !decide (r1.getD k 0=r2.getD k 0)
def agreeL (r1 r2:List Int) (s:Nat):Bool:=decide (offL r1 r2 s=[])
theorem getD_int {r:List Int} {k:Nat} (h:k < r.length):(r.map V.int)[k]? = some (V.int (r.getD k 0)):=by
  rw [List.getElem?_map,List.getElem?_eq_getElem h,List.getD_eq_getElem?_getD,List.getElem?_eq_getElem h]; rfl
def spAlike (K:PySem.W.Frag):Sp:=fun vs H Q _=>∃(a b:Addr) (r1 r2:List Int) (s:Nat),vs=[.ref a,.ref b,vN s]∧SqT K H a (r1.map V.int)∧SqT K H b (r2.map V.int)∧s < 2 ^ 20∧(∀c∈colsN s,c < r1.length∧c < r2.length)∧∀H',Same H H'→Q (.bl (alikeL r1 r2 s)) H'
def spMixed (K:PySem.W.Frag):Sp:=fun vs H Q _=>∃(a b:Addr) (r1 r2:List Int) (s:Nat),vs=[.ref a,.ref b,vN s]∧SqT K H a (r1.map V.int)∧SqT K H b (r2.map V.int)∧r1.length=r2.length∧r1.length≤20∧
  ∀p H',Same H H'→H p=none→H' p=some (.tup ((mixL r1 r2 s).map V.int))→Q (.ref p) H'
def spAgree (K:PySem.W.Frag):Sp:=fun vs H Q _=>∃(a b:Addr) (r1 r2:List Int) (s:Nat),vs=[.ref a,.ref b,vN s]∧SqT K H a (r1.map V.int)∧SqT K H b (r2.map V.int)∧r1.length=r2.length∧r1.length≤20∧
  ∀H',Same H H'→Q (.bl (agreeL r1 r2 s)) H'
theorem Same.tupS {K:PySem.W.Frag} {H H':Hp} {a:Addr} {xs:List V} (e:Same H H') (h:SqT K H a xs):SqT K H' a xs:=by
  rcases h with (h | ⟨o,h⟩) | h
  · exact .inl (.inl (e _ _ h))
  · exact .inl (.inr ⟨o,e _ _ h⟩)
  · exact .inr h
end L2
namespace L2
open PySem PySem.Spec PyProof.Rows
section
variable {κ:Type} [DecidableEq κ]
def valV (kvs:List (κ × V)) (k:κ):Option V:=(kvs.find? fun kv=>decide (kv.1=k)).map (·.2)
def putK (kvs:List (κ × V)) (k:κ) (v:V):List (κ × V):=
  if (kvs.any fun kv=>decide (kv.1=k))=true then kvs.map (fun kv=>if kv.1=k then (kv.1,v) else kv) else kvs++[(k,v)]
theorem valV_pos {p:κ × V} {r:List (κ × V)} {k:κ} (e:p.1=k):valV (p :: r) k=some p.2:=by simp [valV,List.find?_cons,e]
theorem valV_neg {p:κ × V} {r:List (κ × V)} {k:κ} (e:¬p.1=k):valV (p :: r) k=valV r k:=by simp [valV,List.find?_cons,e]
theorem valV_any (k:κ):∀kvs:List (κ × V),(kvs.any fun kv=>decide (kv.1=k))=(valV kvs k).isSome
  | []=>rfl
  | p :: r=>by
    rw [List.any_cons]
    by_cases e:p.1=k
    · simp only [valV_pos e,decide_eq_true e,Bool.true_or,Option.isSome_some]
    · rw [valV_neg e,decide_eq_false e,Bool.false_or]; exact valV_any k r
theorem length_putK (kvs:List (κ × V)) (k:κ) (v:V):(putK kvs k v).length≤kvs.length + 1:=by
  unfold putK
  split
  · rw [List.length_map]; omega
  · rw [List.length_append,List.length_cons,List.length_nil]; omega
theorem RelO.isSome_eq {o:Option V} {u:Option Value} (r:RelO o u):o.isSome=u.isSome:=by
  cases o with
  | none=>cases u with
    | none=>rfl
    | some _=>exact (show False from r).elim
  | some _=>cases u with
    | none=>exact (show False from r).elim
    | some _=>rfl
theorem KV.any {kvs:List (κ × V)} {vs:List (κ × Value)} (r:KV kvs vs) (k:κ):(kvs.any fun kv=>decide (kv.1=k))=vs.any fun kv=>decide (kv.1=k):=by
  unfold KV at r
  induction r with
  | nil=>rfl
  | cons h t ih=>rw [List.any_cons,List.any_cons,ih,h.1]
theorem KV.repl {kvs:List (κ × V)} {vs:List (κ × Value)} (r:KV kvs vs) (k:κ) {y:V} {u:Value} (ry:RelV y u) :
    KV (kvs.map fun kv=>if kv.1=k then (kv.1,y) else kv) (vs.map fun kv=>if kv.1=k then (kv.1,u) else kv):=by
  unfold KV at r ⊢
  induction r with
  | nil=>exact .nil
  | @cons p q ps qs h t ih=>
    rw [List.map_cons,List.map_cons]
    refine .cons ?_ ih
    obtain ⟨h1,h2⟩:=h
    by_cases e:p.1=k
    · rw [if_pos e,if_pos (h1.symm.trans e)]; exact ⟨h1,ry⟩
    · rw [if_neg e,if_neg (fun z=>e (h1.trans z))]; exact ⟨h1,h2⟩
theorem KV.put {kvs:List (κ × V)} {vs:List (κ × Value)} (r:KV kvs vs) (k:κ) {y:V} {u:Value} (ry:RelV y u):KV (putK kvs k y) (stored vs k u):=by
  unfold putK stored
  rw [r.any k]
  by_cases e:(vs.any fun kv=>decide (kv.1=k))=true
  · rw [if_pos e,if_pos e]; exact r.repl k ry
  · rw [if_neg e,if_neg e]; exact Paired.snoc r ⟨rfl,ry⟩
theorem KV.length {kvs:List (κ × V)} {vs:List (κ × Value)} (r:KV kvs vs):kvs.length=vs.length:=Paired.length r
end
theorem kV_is {P:Program} {w:World} {k:Key} {u:Value} (r:RelV (kV k) u):(mixKind P w).is k u=true:=by
  cases k with
  | inl i=>obtain ⟨t,e⟩:=(show ∃t,u=Value.int i t from r); subst e; exact mixKind_int P w i t
  | inr x=>obtain ⟨t,e⟩:=(show ∃t,u=Value.str x t from r); subst e; exact mixKind_str P w x t
theorem items_are {P:Program} {w:World}:∀{ks:List Key} {us:List Value},Vals (ks.map kV) us→ItemsAre (mixKind P w) ks us
  | [],_,r=>by rw [List.map_nil] at r; cases r; exact .nil
  | k :: ks,_,r=>by
    rw [List.map_cons] at r
    cases r with
    | cons h t=>exact .cons (kV_is h) (items_are t)
abbrev KT (H:Hp):List (List Key × V)→List (List Key × Addr × Value)→Prop:=Paired fun p q=>p.1=q.1∧H q.2.1=some (.tup (p.1.map kV))∧RelV p.2 q.2.2
theorem KT.val {H:Hp} {kvs:List (List Key × V)} {xs:List (List Key × Addr × Value)} (r:KT H kvs xs) (k:List Key):RelO (valV kvs k) ((atKey xs k).map (·.2)):=by
  induction r with
  | nil=>exact True.intro
  | @cons p q ps qs h t ih=>
    obtain ⟨h1,_,h2⟩:=h
    by_cases e:p.1=k
    · have e':q.1=k:=h1.symm.trans e
      have b:atKey (q :: qs) k=some q.2:=by simp [atKey,List.find?_cons,e']
      rw [valV_pos e,b]; exact h2
    · have e':¬q.1=k:=fun z=>e (h1.trans z)
      have b:atKey (q :: qs) k=atKey qs k:=by simp [atKey,List.find?_cons,e']
      rw [valV_neg e,b]; exact ih
theorem KT.repl {H:Hp} {kvs:List (List Key × V)} {xs:List (List Key × Addr × Value)} (r:KT H kvs xs) (k:List Key) {y:V} {u:Value} (ry:RelV y u) :
    KT H (kvs.map fun kv=>if kv.1=k then (kv.1,y) else kv) (xs.map (putAt k u)):=by
  induction r with
  | nil=>exact .nil
  | @cons p q ps qs h t ih=>
    rw [List.map_cons,List.map_cons]
    refine .cons ?_ ih
    obtain ⟨h1,h2,h3⟩:=h
    unfold putAt
    by_cases e:p.1=k
    · rw [if_pos e,if_pos (h1.symm.trans e)]; exact ⟨h1,h2,ry⟩
    · rw [if_neg e,if_neg (fun z=>e (h1.trans z))]; exact ⟨h1,h2,h3⟩
theorem KT.put {H:Hp} {kvs:List (List Key × V)} {xs:List (List Key × Addr × Value)} (r:KT H kvs xs) (k:List Key) {b:Addr} {y:V} {u:Value} (hb:H b=some (.tup (k.map kV))) (ry:RelV y u) :
    KT H (putK kvs k y) (storedH xs k b u):=by
  have e:(kvs.any fun kv=>decide (kv.1=k))=(atKey xs k).isSome:=by
    rw [valV_any,(r.val k).isSome_eq,Option.isSome_map]
  unfold putK storedH
  rw [e]
  by_cases q:(atKey xs k).isSome=true
  · rw [if_pos q,if_pos q]; exact r.repl k ry
  · rw [if_neg q,if_neg q]; exact Paired.snoc r ⟨rfl,hb,ry⟩
theorem KT.keeps {H H':Hp} {kvs:List (List Key × V)} {xs:List (List Key × Addr × Value)} (r:KT H kvs xs) (ht:∀b ys,H b=some (.tup ys)→H' b=some (.tup ys)):KT H' kvs xs:=
  Paired.mapP r fun _ _ z=>⟨z.1,ht _ _ z.2.1,z.2.2⟩
section
variable {P:Program} {w:World} {H:Hp} {h:Heap} {a:Addr}
theorem rd_of {u:HO} (ok:HOk P w H h) (e:Rd H a u):ObjOk P w H h a u:=e.ok ok
theorem dk_rd {kvs:List (Key × V)} (ok:HOk P w H h) (e:Rd H a (.dK kvs)):kvs.length≤sizeLine∧(a == sysModules)=false∧∃vs,KV kvs vs∧h.DictOf (mixKind P w) a vs:=
  show ObjOk P w H h a (.dK kvs) from rd_of ok e
theorem dk_of {kvs:List (Key × V)} (ok:HOk P w H h) (e:H a=some (.dK kvs)):kvs.length≤sizeLine∧(a == sysModules)=false∧∃vs,KV kvs vs∧h.DictOf (mixKind P w) a vs:=dk_rd ok (.inl e)
theorem key_of {ks:List Key} (ok:HOk P w H h) (e:H a=some (.tup (ks.map kV))):(tupleKind (mixKind P w)).is h ks a:=by
  obtain ⟨_,its,r,o,h1,h2,n,h3⟩:=(show ObjOk P w H h a (.tup (ks.map kV)) from ok a _ e)
  exact ⟨o,its.toArray,n,h1,h2,h3,by simpa using items_are r⟩
theorem dt_rd {kvs:List (List Key × V)} (ok:HOk P w H h) (e:Rd H a (.dT kvs)):kvs.length≤sizeLine∧(a == sysModules)=false∧
    ∃xs,KT H kvs xs∧h.DictOfH (tupleKind (mixKind P w)) a xs:=by
  obtain ⟨z,y,xs,r,o,es,ep,h1,h2,h3,h4,h5⟩:=(show ObjOk P w H h a (.dT kvs) from rd_of ok e)
  refine ⟨z,y,xs,r,o,es,ep,h1,h2,h3,h4,fun x hx=>?_,h5⟩
  have all:∀{l:List (List Key × V)} {m:List (List Key × Addr × Value)},KT H l m→∀x∈m,(tupleKind (mixKind P w)).is h x.1 x.2.1:=by
    intro l m q
    induction q with
    | nil=>intro x hx; exact nomatch hx
    | @cons p q ps qs hq t ih=>
      intro x hx
      rcases List.mem_cons.mp hx with e | hx
      · subst e
        exact key_of ok (by rw [←hq.1]; exact hq.2.1)
      · exact ih x hx
  exact all r x hx
theorem dt_of {kvs:List (List Key × V)} (ok:HOk P w H h) (e:H a=some (.dT kvs)):kvs.length≤sizeLine∧(a == sysModules)=false∧
    ∃xs,KT H kvs xs∧h.DictOfH (tupleKind (mixKind P w)) a xs:=dt_rd ok (.inl e)
end
def DPut (H:Hp) (a:Addr) (y v:V) (H':Hp):Prop:=
  (∃kvs k,H a=some (.dK kvs)∧y=kV k∧kvs.length < sizeLine∧H' = upd H a (.dK (putK kvs k v)))∨
  ∃kvs k b,H a=some (.dT kvs)∧y = .ref b∧H b=some (.tup (k.map kV))∧kvs.length < sizeLine∧H' = upd H a (.dT (putK kvs k v))
theorem DPut.t {H:Hp} {a b:Addr} {kvs:List (List Key × V)} {k:List Key} {v:V} (e:H a=some (.dT kvs)) (eb:H b=some (.tup (k.map kV))) (hl:kvs.length < sizeLine) :
    DPut H a (.ref b) v (upd H a (.dT (putK kvs k v))):=.inr ⟨kvs,k,b,e,rfl,eb,hl,rfl⟩
section
variable {X:Cx} {pins:List (Addr × Obj)} {σ:St} {H:Hp} {s:Shared} {a:Addr} {y v:V} {u r:Value} {o:Option V} {A:Around} {E:Value→Shared→Prop}
theorem Inv.big (I:Inv X pins σ H s):sysModules < s.heap.objs.size:=by
  have h:mainGlobals < s.heap.objs.size:=(I.mod.glob.keeps I.bk).lt
  exact Nat.lt_trans (by decide) h
theorem d_write {h':Heap} {t':Nat} {ob:HO} (I:Inv X pins σ H s) (mu:Mut (H a)) (hs:Heap.SameBut a s.heap h') (he:∃q,h'.get? a=some q) (new:ObjOk X.prog X.w (upd H a ob) h' a ob) :
    Inv X pins σ (upd H a ob) { s with heap:=h',toks:=t' }:=
  I.write (x:=a) (e:=a) mu (.inl rfl) (fun b q hb z=>(hs.2 b hb).trans z) he new
theorem dk_new {P:Program} {w:World} {H':Hp} {h':Heap} {kvs:List (Key × V)} {vs:List (Key × Value)} (z:kvs.length≤sizeLine) (hd:(a == sysModules)=false) (rel:KV kvs vs) (dd:h'.DictOf (mixKind P w) a vs) :
    ObjOk P w H' h' a (.dK kvs):=⟨z,hd,vs,rel,dd⟩
theorem d_setItem {H':Hp} {Q:Unit→Shared→Prop} (hu:A.units + 1 < cLine) (I:Inv X pins σ H s) (g:DPut H a y v H') (ry:RelV y u) (rv:RelV v r) (h:∀s',Inv X pins σ H' s'→Q () s') :
    wpAny (model X.prog X.w) A (setItem (.ref a) u r) Q E s:=by
  rcases g with ⟨kvs,k,e,ey,l,eH⟩ | ⟨kvs,k,b,e,ey,eb,l,eH⟩
  · subst ey eH
    obtain ⟨z,hd,vs,rel,dd⟩:=dk_of I.hok e
    have hz:vs.length≤sizeLine:=by rw [←rel.length]; exact z
    have hl:(putK kvs k v).length≤sizeLine:=by have:=length_putK kvs k v; omega
    refine wpAny_setItem_pairs (hsz:=hz) (kV_is ry) dd fun h' dd' hs=>h _ ?_
    have he:∃q,h'.get? a=some q:=let ⟨q,_,_,hq,_⟩:=dd'; ⟨q,hq⟩
    exact d_write I (by rw [e]; exact True.intro) hs he (dk_new hl hd (rel.put k rv) dd')
  · subst ey eH
    cases (show u=Value.ref b from ry)
    obtain ⟨z,hd,xs,rel,dd⟩:=dt_of I.hok e
    have hz:xs.length≤sizeLine:=by rw [←Paired.length rel]; exact z
    have hl:(putK kvs k v).length≤sizeLine:=by have:=length_putK kvs k v; omega
    refine wpAny_setItem_heap (hsz:=hz) (tupleKind_room_in1 hu) (key_of I.hok eb) dd fun h' dd' hs=>h _ ?_
    obtain ⟨q,es,ep,hq,h2,h3,h4,_,h5⟩:=dd'
    refine d_write I (by rw [e]; exact True.intro) hs ⟨q,hq⟩ ⟨hl,hd,_,(rel.put k eb rv).keeps fun c ys ec=>?_,q,es,ep,hq,h2,h3,h4,h5⟩
    rw [upd_ne (ne_of ec e (fun z=>nomatch z))]
    exact ec
end
section
variable {X:Cx} {pins:List (Addr × Obj)} {σ:St} {H:Hp} {s:Shared} {a:Addr} {kvs:List (Key × V)} {k:Key} {u:Value} {A:Around} {E:Value→Shared→Prop}
end
def sDPut (td ty tv:TE):TS:=fun D σ H=>tv σ H fun v H1=>td σ H1 fun x H2=>ty σ H2 fun y H3=>∃a H4,x = .ref a∧DPut H3 a y v H4∧D.nx σ H4
section
variable {X:Cx} {o i e value:Expr} {pos pos' tpos:Pos} {td ty tv:TE}
theorem ps_dput (hu:X.A.units + 1 < cLine) (ho:PE X o td) (hi:PE X i ty) (hv:PE X value tv) (hs:swapsWith value (some (.Subscript o i pos')) pos.line X.env=pure false) :
    PS X (.Assign [.Subscript o i pos'] value pos) (sDPut td ty tv):=by
  intro pins s σ H D I h
  refine wpAny_Assign_Subscript (thn (hv pins s σ H _ I h) fun r s1 ⟨v,H1,I1,rv,q1⟩=>thn (ho pins s1 σ H1 _ I1 q1) fun u s2 ⟨x,H2,I2,rx,q2⟩=>thn (hi pins s2 σ H2 _ I2 q2) fun iv s3 ⟨y,H3,I3,ry,a,H4,ex,g,q3⟩=>?_) hs
  subst ex
  obtain rfl:u=Value.ref a:=rx
  exact d_setItem hu I3 g ry rv fun s4 I4=>⟨σ,H4,I4,q3⟩
end
theorem dt_empty {P:Program} {w:World} {H:Hp} (h:Heap) (hb:sysModules < h.objs.size):ObjOk P w H (h.push { cls:=.type "dict",data:=.dict #[] }) h.objs.size (.dT []):=
  ⟨Nat.zero_le _,beq_eq_false_iff_ne.mpr (Ne.symm (Nat.ne_of_lt hb)),[],.nil,_,#[],0,Heap.get?_push_size _ rfl,⟨rfl,rfl,rfl⟩,rfl,rfl,List.nodup_nil⟩
def tDNewT:TE:=fun _ H Q=>∀p,H p=none→Q (.ref p) (upd H p (.dT []))
section
variable {X:Cx} {pos:Pos}
theorem pe_dnewT:PE X (.Dict [] [] pos) tDNewT:=fun pins s σ H Q I h=>
  wpAny_Dict_empty ⟨.ref s.heap.objs.size,_,I.laid (a:=s.heap.objs.size) (o:=.dT []) (t':=s.toks) (fun _ _ q=>Heap.get?_push_of_some _ q) (Nat.le_refl _) (dt_empty s.heap I.big),rfl,h _ (I.hok.fresh (Nat.le_refl _))⟩
end
section
variable {X:Cx} {pins:List (Addr × Obj)} {σ:St} {H:Hp} {s:Shared} {a:Addr} {y d:V} {u r:Value} {o:Option V} {A:Around} {E:Value→Shared→Prop}
end
section
variable {X:Cx} {o e f:Expr} {apos cpos:Pos} {td ty tx:TE}
end
section
variable {X:Cx} {pins:List (Addr × Obj)} {σ:St} {H:Hp} {s:Shared} {a:Addr} {kvs:List (Key × V)} {A:Around} {E:Value→Shared→Prop}
end
section
variable {X:Cx} {pins:List (Addr × Obj)} {σ:St} {H:Hp} {s:Shared} {a:Addr} {y:V} {u:Value} {A:Around} {E:Value→Shared→Prop}
end
end L2
namespace L2
open PySem PySem.Spec PyProof.Rows
section
variable {prog:Program} {w:World} {A:Around} {E:Value→Shared→Prop} {s:Shared} {κ:Type} [DecidableEq κ] {kd:HeapKind prog w κ}
end
section
variable {X:Cx} {o e f:Expr} {apos cpos:Pos} {td ty tx:TE}
end
end L2
namespace L2
open PySem PySem.Spec PyProof.Rows
section
variable {prog:Program} {w:World} {A:Around} {E:Value→Shared→Prop} {s:Shared}
end
section
variable {X:Cx} {pins:List (Addr × Obj)} {σ:St} {H:Hp} {s:Shared}
end
end L2
namespace L2
open PySem PySem.Spec PyProof.Rows
section
variable {prog:Program} {w:World} {A:Around} {E:Value→Shared→Prop} {s:Shared}
end
end L2
namespace L2
open PySem PySem.Spec PyProof.Rows
section
variable {X:Cx} {pins:List (Addr × Obj)} {σ:St} {H:Hp}
end
end L2
namespace L2
open PySem PySem.Spec PyProof.Rows
theorem noMulT:fillsNumberSlot (.type "tuple") "mul" = pure false:=by first | (rw [fillsNumberSlot_type]; kernel_rfl) | (unfold fillsNumberSlot; kernel_rfl) | kernel_rfl
theorem repT:seqRepeat? (.type "tuple")=pure (some (.builtin "tuple.__mul__")):=by first | (unfold seqRepeat?; kernel_rfl) | kernel_rfl
theorem rmulT (a:Int) (t:Tok) (l:Addr) (its:Array Value) (n:Nat) (sl:Array (Option Value)) (dd:Option Addr) :
    Meets (Builtin.«int.__rmul__» ⟨[.int a t,.ref l],[]⟩) (fun _ R s=>s.heap.get? l=some { cls:=.type "tuple",dict:=dd,data:=.seq its n,slots:=sl }∧R (.ok (.ret .notImplemented)) s):=
  .of_wp fun prog w A R s h=>by
    obtain ⟨hp,g,d,tk,os⟩:=s; obtain ⟨hl,h⟩:=h
    wp_walk
    exact ⟨_,rfl,h⟩
theorem mulT1 (l:Addr) (its:Array Value) (n:Nat) (u:Tok) (sl:Array (Option Value)) (dd:Option Addr) (hne:its.isEmpty=false) :
    Meets (Builtin.«tuple.__mul__» ⟨[.ref l,.int 1 u],[]⟩) (fun _ R s=>s.heap.get? l=some { cls:=.type "tuple",dict:=dd,data:=.seq its n,slots:=sl }∧R (.ok (.ret (.ref l))) s):=
  .of_wp fun prog w A R s h=>by
    obtain ⟨hp,g,d,tk,os⟩:=s; obtain ⟨hl,h⟩:=h
    have f1:=AutoSeq1.idx_int
    wp_walk using wpAny_loadPart' hl
    exact ⟨_,rfl,h⟩
theorem mulTn (l:Addr) (its:Array Value) (n:Nat) (x:Int) (u:Tok) (sl:Array (Option Value)) (dd:Option Addr) (hne:its.isEmpty=false) (h0:(decide (x < -(2 ^ 63)) || decide (x ≥ 2 ^ 63))=false) (h1:(x == 1)=false) (h2:decide (x≤0)=false)
    (h3:¬(its.size:Int) * x > (2 ^ 63 - 1) / 8) (h4:Builtin.Tuple.tupleTooMany ((its.size:Int) * x)=false) (h5:(List.foldl (fun x1 x2=>x1++x2) #[] (List.replicate x.toNat its)).size≤sizeLine) :
    Meets (Builtin.«tuple.__mul__» ⟨[.ref l,.int x u],[]⟩) (fun _ R s=>s.heap.get? l=some { cls:=.type "tuple",dict:=dd,data:=.seq its n,slots:=sl }∧R (.ok (.ret (.ref s.heap.objs.size))) { s with heap:=s.heap.push { cls:=.type "tuple",data:=.seq (List.foldl (fun x1 x2=>x1++x2) #[] (List.replicate x.toNat its)) } }):=
  .of_wp fun prog w A R s h=>by
    obtain ⟨hp,g,d,tk,os⟩:=s; obtain ⟨hl,h⟩:=h
    have f1:=AutoSeq1.idx_int
    wp_walk using wpAny_loadPart' hl
    refine wpAny_ite_false (decide_eq_false (by rw [h0]; exact Bool.false_ne_true)) ?_
    wp_walk using wpAny_loadPart' hl
    refine wpAny_ite_false (decide_eq_false h3) ?_
    wp_walk using wpAny_loadPart' hl
    exact ⟨_,rfl,h⟩
def rRepT:R2:=fun x y H Q=>∃(l:Addr) (v:V) (k:Nat),x = .ref l∧y=vN k∧H l=some (.tup [v])∧1≤k∧k≤1000∧(k=1→Q (.ref l) H)∧(2≤k→∀p,H p=none→Q (.ref p) (upd H p (.tup (List.replicate k v))))
theorem foldl_one (u:Value):∀(k:Nat),List.foldl (fun x1 x2=>x1++x2) #[] (List.replicate k #[u])=(List.replicate k u).toArray:=fun k=>by
  have h:=foldl_rep [u] k []
  rw [List.nil_append] at h
  refine h.trans ?_
  congr 1
  induction k with
  | zero=>rfl
  | succ k ih=>rw [List.replicate_succ,List.flatten_cons,ih (by
      have h:=foldl_rep [u] k []
      rw [List.nil_append] at h
      exact h),List.replicate_succ]; rfl
theorem vals_rep {v:V} {u:Value} (r:RelV v u):∀k:Nat,Vals (List.replicate k v) (List.replicate k u)
  | 0=>.nil
  | k + 1=>by rw [List.replicate_succ,List.replicate_succ]; exact .cons r (vals_rep r k)
theorem op_repTI {X:Cx} (i:Int):OpR X (binaryOp .Mult) (fun x y H Q=>∃(l:Addr) (v:V),x = .ref l∧y = .int i∧H l=some (.tup [v])∧1≤i∧i≤1000∧(i=1→Q (.ref l) H)∧(2≤i→∀p,H p=none→Q (.ref p) (upd H p (.tup (List.replicate i.toNat v))))):=by
  intro pins s σ H x y v u Q I rx ry h
  obtain ⟨l,w,rfl,rfl,hH,h1,h2,q1,q2⟩:=h
  cases rx
  obtain ⟨t,rfl⟩:=ry
  obtain ⟨_,its,rv,⟨cls,dd,data,sl⟩,e,hc,n,hd⟩:=(show ObjOk X.prog X.w H s.heap l (.tup [w]) from I.hok l _ hH)
  simp only at hc hd
  subst hc hd
  obtain ⟨c,rfl,rc⟩:=vals1 rv
  refine wpAny_binaryOp_repeat_ref (T:="tuple") (U:="int") (by decide) ⟨_,e,rfl⟩ (fun s'=>typeIs_int s' i t) noMulT F.fills_int_mul F.slot_int_rmul repT F.slot_int_index.lookup
    (call_meets F.slot_int_rmul (typeIs_int s i t) F.entry_int_rmul (F.args_int_rmul_2 _ _) (rmulT i t l [c].toArray n sl dd) ⟨e,rfl,⟨_,e,rfl⟩,?_⟩)
  by_cases hi:i=1
  · subst hi
    exact call_meets F.slot_tuple_mul ⟨_,e,rfl⟩ F.entry_tuple_mul (F.args_tuple_mul_2 _ _) (mulT1 l [c].toArray n t sl dd rfl) ⟨e,⟨.ref l,H,I,rfl,q1 rfl⟩⟩
  · have hf:=foldl_one c i.toNat
    have hsz:(1000:Nat)≤sizeLine:=by rw [sizeLine_eq]; decide
    refine call_meets F.slot_tuple_mul ⟨_,e,rfl⟩ F.entry_tuple_mul (F.args_tuple_mul_2 _ _) (mulTn l [c].toArray n i t sl dd rfl (by rw [Bool.or_eq_false_iff,decide_eq_false_iff_not,decide_eq_false_iff_not]; omega) (by rw [beq_eq_false_iff_ne]; exact hi) (by rw [decide_eq_false_iff_not]; omega)
      (by rw [List.size_toArray]; show ¬((1:Nat):Int) * i > _; omega) (by unfold Builtin.Tuple.tupleTooMany; rw [decide_eq_false_iff_not,List.size_toArray]; show ¬((1:Nat):Int) * i > _; omega) (by rw [show ([c].toArray:Array Value) = #[c] from rfl,hf,List.size_toArray,List.length_replicate]; omega)) ⟨e,?_⟩
    rw [show ([c].toArray:Array Value) = #[c] from rfl,hf]
    refine ⟨.ref s.heap.objs.size,_,I.laid (t':=s.toks) (fun b o eb=>Heap.get?_push_of_some _ eb) (Nat.le_refl _) (show ObjOk X.prog X.w _ _ _ (.tup (List.replicate i.toNat w)) from ⟨by rw [List.length_replicate]; omega,_,vals_rep rc i.toNat,⟨_,Heap.get?_push_size _ rfl,rfl,_,rfl⟩⟩),rfl,q2 (by omega) _ I.fresh⟩
theorem op_repT {X:Cx}:OpR X (binaryOp .Mult) rRepT:=fun pins s σ H x y v u Q I rx ry ⟨l,w,k,h1,h2,h3,h4,h5,q1,q2⟩=>
  op_repTI (k:Int) pins s σ H x y v u Q I rx ry ⟨l,w,h1,h2,h3,by omega,by omega,fun e=>q1 (by omega),fun e p hp=>by
    have:=q2 (by omega) p hp
    rw [Int.toNat_natCast]
    exact this⟩
end L2
namespace L2
open PySem PySem.Spec PyProof.Rows
abbrev RW:=Addr × List Int
def seenL (r:List Int) (s:Nat):List Int:=mixL r (List.replicate r.length 0) s
def tks (r:List Int):List Key:=r.map Sum.inl
theorem tks_kV (r:List Int):(tks r).map kV=r.map V.int:=by unfold tks; rw [List.map_map]; rfl
theorem tks_inj:∀{a b:List Int},tks a=tks b→a=b
  | [],[],_=>rfl
  | [],_ :: _,h=>by cases h
  | _ :: _,[],h=>by cases h
  | x :: a,y :: b,h=>by
    have h1:(Sum.inl x:Key)=Sum.inl y:=(List.cons.inj h).1
    have h2:tks a=tks b:=(List.cons.inj h).2
    rw [Sum.inl.inj h1,tks_inj h2]
def refsOf (rs:List RW):List V:=rs.map fun rw=>V.ref rw.1
end L2
namespace L2
open PySem PySem.Spec PyProof.Rows
def RowsOk (H:Hp) (m:Nat) (rws:List RW):Prop:=∀rw∈rws,H rw.1=some (.tup (rw.2.map V.int))∧rw.2.length=m
theorem RowsOk.same {H H':Hp} {m:Nat} {rws:List RW} (r:RowsOk H m rws) (e:Same H H'):RowsOk H' m rws:=fun rw h=>⟨e _ _ (r rw h).1,(r rw h).2⟩
def spNoughts:Sp:=fun vs H Q _=>∃m:Nat,vs=[vN m]∧1≤m∧m≤20∧∀p H',Same H H'→H p=none→H' p=some (.tup ((List.replicate m (0:Int)).map V.int))→Q (.ref p) H'
end L2
namespace L2
open PySem PySem.Spec PyProof.Rows
theorem cols_rng:∀m,m < 8→∀x,x < 2 ^ m→(List.range m).filter (hasB x)=colsN x:=by decide +kernel
theorem mem_cols {m x k:Nat} (hm:m < 8) (hx:x < 2 ^ m):k∈colsN x↔k < m∧hasB x k=true:=by rw [←cols_rng m hm x hx,List.mem_filter,List.mem_range]
theorem alike_iff {r1 r2:List Int} {x m:Nat} (hm:m < 8) (hx:x < 2 ^ m):alikeL r1 r2 x=true↔∀k,k < m→hasB x k=true→r1.getD k 0=r2.getD k 0:=by
  unfold alikeL
  rw [List.all_eq_true]
  constructor
  · intro h k hk hb
    exact of_decide_eq_true (h _ (List.mem_map.mpr ⟨k,(mem_cols hm hx).mpr ⟨hk,hb⟩,rfl⟩))
  · intro h b hb
    obtain ⟨k,hk,rfl⟩:=List.mem_map.mp hb
    obtain ⟨h1,h2⟩:=(mem_cols hm hx).mp hk
    exact decide_eq_true (h k h1 h2)
theorem agree_iff {r1 r2:List Int} {x:Nat}:agreeL r1 r2 x=true↔∀k,k < r1.length→hasB x k=true→r1.getD k 0=r2.getD k 0:=by
  unfold agreeL offL
  rw [decide_eq_true_iff,List.filter_eq_nil_iff]
  constructor
  · intro h k hk hb
    have:=h k (List.mem_range.mpr hk)
    rw [hb,Bool.true_and] at this
    cases hd:decide (r1.getD k 0=r2.getD k 0) with
    | true=>exact of_decide_eq_true hd
    | false=>rw [hd] at this; exact absurd rfl this
  · intro h k hk hb
    rw [Bool.and_eq_true] at hb
    rw [decide_eq_true (h k (List.mem_range.mp hk) hb.1)] at hb
    cases hb.2
theorem mix_len (r1 r2:List Int) (x:Nat):(mixL r1 r2 x).length=r1.length:=by unfold mixL; rw [List.length_map,List.length_range]
theorem mix_get {r1 r2:List Int} {x k:Nat} (h:k < r1.length):(mixL r1 r2 x).getD k 0=if hasB x k=true then r1.getD k 0 else r2.getD k 0:=by
  unfold mixL
  rw [List.getD_eq_getElem?_getD,List.getElem?_map,List.getElem?_range h]
  rfl
theorem ext_getD {r1 r2:List Int} (hl:r1.length=r2.length) (h:∀k,k < r1.length→r1.getD k 0=r2.getD k 0):r1=r2:=by
  refine List.ext_getElem hl fun j j1 j2=>?_
  have:=h j j1
  rwa [List.getD_eq_getElem?_getD,List.getElem?_eq_getElem j1,List.getD_eq_getElem?_getD,List.getElem?_eq_getElem j2] at this
theorem mix_self (r:List Int) (x:Nat):mixL r r x=r:=ext_getD (mix_len r r x) fun k hk=>by
  rw [mix_len] at hk
  rw [mix_get hk]; split <;> rfl
theorem getD_rep (m k:Nat):(List.replicate m (0:Int)).getD k 0=0:=by
  rw [List.getD_eq_getElem?_getD,List.getElem?_replicate]
  split <;> rfl
theorem seen_len (r:List Int) (s:Nat):(seenL r s).length=r.length:=mix_len _ _ _
theorem seen_get {r:List Int} {s k:Nat} (h:k < r.length):(seenL r s).getD k 0=if hasB s k=true then r.getD k 0 else 0:=by
  unfold seenL
  rw [mix_get h,getD_rep]
theorem seen_iff {r1 r2:List Int} {s m:Nat} (h1:r1.length=m) (h2:r2.length=m):seenL r1 s=seenL r2 s↔∀k,k < m→hasB s k=true→r1.getD k 0=r2.getD k 0:=by
  constructor
  · intro h k hk hb
    have e:=congrArg (fun l=>l.getD k 0) h
    replace e:(seenL r1 s).getD k 0=(seenL r2 s).getD k 0:=e
    rw [seen_get (by omega),seen_get (by omega),if_pos hb,if_pos hb] at e
    exact e
  · intro h
    refine ext_getD (by rw [seen_len,seen_len,h1,h2]) fun k hk=>?_
    rw [seen_len] at hk
    rw [seen_get (by omega),seen_get (by omega)]
    split
    · rename_i hb; exact h k (by omega) hb
    · rfl
theorem alike_seen {r1 r2:List Int} {s m:Nat} (hm:m < 8) (hs:s < 2 ^ m) (h1:r1.length=m) (h2:r2.length=m):alikeL r1 r2 s=true↔seenL r1 s=seenL r2 s:=by
  rw [alike_iff hm hs,seen_iff h1 h2]
def SetOk (rws:List RW) (x y:Nat):Prop:=∀a∈rws,∀b∈rws,seenL a.2 x=seenL b.2 x→seenL a.2 y=seenL b.2 y
def DealOk (rws:List RW) (x y:Nat):Prop:=∀a∈rws,∀b∈rws,seenL a.2 x=seenL b.2 x→∃c∈rws,c.2=mixL a.2 b.2 (x|||y)
def wordS (st:Bool):Str:=if st=true then "settle" else "deal"
def RuleAt (H:Hp) (r:Addr) (st:Bool) (x y:Nat):Prop:=H r=some (.tup [.str (wordS st),vN x,vN y])
def ROk (rws:List RW) (st:Bool) (x y:Nat):Prop:=if st=true then SetOk rws x y else DealOk rws x y
structure Rl where
  r:Addr
  st:Bool
  x:Nat
  y:Nat
end L2
namespace L2
open PySem PySem.Spec PyProof.Rows
def onesL (m x:Nat):List Int:=mixL (List.replicate m 1) (List.replicate m 0) x
def bookL (m x:Nat):List (List Int):=if x=0 then [List.replicate m 0] else [List.replicate m 0,onesL m x]
def keptB (st:Bool) (x y d:Nat):Bool:=decide (0 < x&&&d) || decide (y&&&d=0) || (!st && decide (y&&&d=d))
theorem hasB_tb (x k:Nat):hasB x k=x.testBit k:=by
  unfold hasB
  rw [Nat.testBit_eq_decide_div_mod_eq]
theorem and_zero {x d m:Nat} (hd:d < 2 ^ m):x&&&d=0↔∀k,k < m→hasB d k=true→hasB x k=false:=by
  constructor
  · intro h k hk hb
    have e:=congrArg (fun z=>z.testBit k) h
    replace e:(x&&&d).testBit k=(0:Nat).testBit k:=e
    rw [Nat.testBit_and,Nat.zero_testBit,←hasB_tb,←hasB_tb,hb,Bool.and_true] at e
    exact e
  · intro h
    refine Nat.eq_of_testBit_eq fun k=>?_
    rw [Nat.testBit_and,Nat.zero_testBit]
    by_cases hk:k < m
    · cases hb:d.testBit k with
      | false=>rw [Bool.and_false]
      | true=>rw [Bool.and_true,←hasB_tb]; exact h k hk (by rw [hasB_tb]; exact hb)
    · have:d.testBit k=false:=Nat.testBit_lt_two_pow (Nat.lt_of_lt_of_le hd (Nat.pow_le_pow_right (by decide) (by omega)))
      rw [this,Bool.and_false]
theorem and_all {y d m:Nat} (hd:d < 2 ^ m):y&&&d=d↔∀k,k < m→hasB d k=true→hasB y k=true:=by
  constructor
  · intro h k hk hb
    have e:=congrArg (fun z=>z.testBit k) h
    replace e:(y&&&d).testBit k=d.testBit k:=e
    rw [Nat.testBit_and,←hasB_tb,←hasB_tb,hb,Bool.and_true] at e
    exact e
  · intro h
    refine Nat.eq_of_testBit_eq fun k=>?_
    rw [Nat.testBit_and]
    by_cases hk:k < m
    · cases hb:d.testBit k with
      | false=>rw [Bool.and_false]
      | true=>rw [Bool.and_true,←hasB_tb]; exact h k hk (by rw [hasB_tb]; exact hb)
    · have:d.testBit k=false:=Nat.testBit_lt_two_pow (Nat.lt_of_lt_of_le hd (Nat.pow_le_pow_right (by decide) (by omega)))
      rw [this,Bool.and_false]
theorem ones_len (m x:Nat):(onesL m x).length=m:=by unfold onesL; rw [mix_len,List.length_replicate]
theorem ones_get {m x k:Nat} (h:k < m):(onesL m x).getD k 0=if hasB x k=true then 1 else 0:=by
  unfold onesL
  rw [mix_get (by rw [List.length_replicate]; exact h),getD_rep,List.getD_eq_getElem?_getD,List.getElem?_replicate,if_pos h]
  rfl
theorem zeros_get (m k:Nat):(List.replicate m (0:Int)).getD k 0=0:=getD_rep m k
theorem seen_zo {m d x:Nat} (hd:d < 2 ^ m):seenL (List.replicate m 0) x=seenL (onesL m d) x↔x&&&d=0:=by
  rw [seen_iff (m:=m) List.length_replicate (ones_len m d),and_zero hd]
  constructor
  · intro h k hk hb
    cases hx:hasB x k with
    | false=>rfl
    | true=>
      have:=h k hk hx
      rw [zeros_get,ones_get hk,if_pos hb] at this
      cases this
  · intro h k hk hx
    rw [zeros_get,ones_get hk,if_neg]
    intro hb
    rw [h k hk hb] at hx
    cases hx
theorem mix_zo {m d h:Nat} (hd:d < 2 ^ m):(mixL (List.replicate m 0) (onesL m d) h=List.replicate m 0↔h&&&d=d)∧(mixL (List.replicate m 0) (onesL m d) h=onesL m d↔h&&&d=0)∧(mixL (onesL m d) (List.replicate m 0) h=onesL m d↔h&&&d=d)∧(mixL (onesL m d) (List.replicate m 0) h=List.replicate m 0↔h&&&d=0):=by
  have l1:(mixL (List.replicate m 0) (onesL m d) h).length=m:=by rw [mix_len,List.length_replicate]
  have l2:(mixL (onesL m d) (List.replicate m 0) h).length=m:=by rw [mix_len,ones_len]
  have g1:∀k,k < m→(mixL (List.replicate m 0) (onesL m d) h).getD k 0=if hasB h k=true then 0 else if hasB d k=true then 1 else 0:=fun k hk=>by
    rw [mix_get (by rw [List.length_replicate]; exact hk),zeros_get,ones_get hk]
  have g2:∀k,k < m→(mixL (onesL m d) (List.replicate m 0) h).getD k 0=if hasB h k=true then (if hasB d k=true then 1 else 0) else 0:=fun k hk=>by
    rw [mix_get (by rw [ones_len]; exact hk),zeros_get,ones_get hk]
  have use:∀(r t:List Int),r.length=m→t.length=m→(r=t↔∀k,k < m→r.getD k 0=t.getD k 0):=fun r t hr ht=>⟨fun e k _=>by rw [e],fun e=>ext_getD (hr.trans ht.symm) fun k hk=>e k (by omega)⟩
  refine ⟨?_,?_,?_,?_⟩
  · rw [use _ _ l1 List.length_replicate,and_all hd]
    constructor
    · intro e k hk hb
      have:=e k hk
      rw [g1 k hk,zeros_get,hb] at this
      cases hh:hasB h k with
      | true=>rfl
      | false=>rw [hh] at this; simp at this
    · intro e k hk
      rw [g1 k hk,zeros_get]
      cases hb:hasB d k with
      | false=>simp
      | true=>rw [e k hk hb]; rfl
  · rw [use _ _ l1 (ones_len m d),and_zero hd]
    constructor
    · intro e k hk hb
      have:=e k hk
      rw [g1 k hk,ones_get hk,hb] at this
      cases hh:hasB h k with
      | false=>rfl
      | true=>rw [hh] at this; simp at this
    · intro e k hk
      rw [g1 k hk,ones_get hk]
      cases hb:hasB d k with
      | false=>simp
      | true=>rw [e k hk hb]; rfl
  · rw [use _ _ l2 (ones_len m d),and_all hd]
    constructor
    · intro e k hk hb
      have:=e k hk
      rw [g2 k hk,ones_get hk,hb] at this
      cases hh:hasB h k with
      | true=>rfl
      | false=>rw [hh] at this; simp at this
    · intro e k hk
      rw [g2 k hk,ones_get hk]
      cases hb:hasB d k with
      | false=>simp
      | true=>rw [e k hk hb]; rfl
  · rw [use _ _ l2 List.length_replicate,and_zero hd]
    constructor
    · intro e k hk hb
      have:=e k hk
      rw [g2 k hk,zeros_get,hb] at this
      cases hh:hasB h k with
      | false=>rfl
      | true=>rw [hh] at this; simp at this
    · intro e k hk
      rw [g2 k hk,zeros_get]
      cases hb:hasB d k with
      | false=>simp
      | true=>rw [e k hk hb]; rfl
theorem or_and {x y d:Nat} (h:x&&&d=0):(x|||y)&&&d=y&&&d:=by
  rw [Nat.and_comm,Nat.and_or_distrib_left,Nat.and_comm d x,h,Nat.zero_or,Nat.and_comm]
theorem book_keeps {rws:List RW} {m d x y:Nat} {st:Bool} (hd:d < 2 ^ m) (hb:rws.map (·.2)=bookL m d):ROk rws st x y↔keptB st x y d=true:=by
  have mem:∀r,(∃a∈rws,a.2=r)↔r∈bookL m d:=fun r=>by rw [←hb,List.mem_map]
  by_cases h0:d=0
  · -- one row
    have one:∀a∈rws,a.2=List.replicate m 0:=fun a ha=>by
      have:=(mem a.2).mp ⟨a,ha,rfl⟩
      unfold bookL at this
      rw [if_pos h0] at this
      exact List.mem_singleton.mp this
    have k1:keptB st x y d=true:=by unfold keptB; rw [h0,Nat.and_zero]; simp
    rw [k1]
    refine ⟨fun _=>rfl,fun _=>?_⟩
    unfold ROk
    cases st with
    | true=>
      simp only [if_true]
      exact fun a ha b hb' _=>by rw [one a ha,one b hb']
    | false=>
      simp only [Bool.false_eq_true,if_false]
      exact fun a ha b hb' _=>⟨a,ha,by rw [one a ha,one b hb',mix_self]⟩
  · have two:∀a∈rws,a.2=List.replicate m 0∨a.2=onesL m d:=fun a ha=>by
      have:=(mem a.2).mp ⟨a,ha,rfl⟩
      unfold bookL at this
      rw [if_neg h0] at this
      simpa using this
    obtain ⟨z,hz,ez⟩:∃a∈rws,a.2=List.replicate m 0:=(mem _).mpr (by unfold bookL; rw [if_neg h0]; simp)
    obtain ⟨o,ho,eo⟩:∃a∈rws,a.2=onesL m d:=(mem _).mpr (by unfold bookL; rw [if_neg h0]; simp)
    by_cases hx:x&&&d=0
    · have kb:keptB st x y d=(decide (y&&&d=0) || (!st && decide (y&&&d=d))):=by unfold keptB; rw [hx]; simp
      rw [kb]
      unfold ROk
      cases st with
      | true=>
        simp only [if_true,Bool.not_true,Bool.false_and,Bool.or_false,decide_eq_true_iff]
        constructor
        · intro ok
          have:=ok z hz o ho (by rw [ez,eo]; exact (seen_zo hd).mpr hx)
          rw [ez,eo] at this
          exact (seen_zo hd).mp this
        · intro hy a ha b hb' _
          have e:=(seen_zo (m:=m) (x:=y) hd).mpr hy
          rcases two a ha with h1 | h1 <;> rcases two b hb' with h2 | h2 <;> rw [h1,h2]
          · exact e
          · exact e.symm
      | false=>
        simp only [Bool.false_eq_true,if_false,Bool.not_false,Bool.true_and,Bool.or_eq_true,decide_eq_true_iff]
        have oa:=or_and (y:=y) hx
        constructor
        · intro ok
          obtain ⟨c,hc,ec⟩:=ok z hz o ho (by rw [ez,eo]; exact (seen_zo hd).mpr hx)
          rw [ez,eo] at ec
          rcases two c hc with h1 | h1
          · rw [h1] at ec
            have:=(mix_zo (h:=x|||y) hd).1.mp ec.symm
            rw [oa] at this
            exact .inr this
          · rw [h1] at ec
            have:=(mix_zo (h:=x|||y) hd).2.1.mp ec.symm
            rw [oa] at this
            exact .inl this
        · intro hy a ha b hb' _
          rcases two a ha with h1 | h1 <;> rcases two b hb' with h2 | h2 <;> rw [h1,h2]
          · exact ⟨a,ha,by rw [h1,mix_self]⟩
          · rcases hy with hy | hy
            · exact ⟨o,ho,by rw [eo,(mix_zo (h:=x|||y) hd).2.1.mpr (by rw [oa]; exact hy)]⟩
            · exact ⟨z,hz,by rw [ez,(mix_zo (h:=x|||y) hd).1.mpr (by rw [oa]; exact hy)]⟩
          · rcases hy with hy | hy
            · exact ⟨z,hz,by rw [ez,(mix_zo (h:=x|||y) hd).2.2.2.mpr (by rw [oa]; exact hy)]⟩
            · exact ⟨o,ho,by rw [eo,(mix_zo (h:=x|||y) hd).2.2.1.mpr (by rw [oa]; exact hy)]⟩
          · exact ⟨a,ha,by rw [h1,mix_self]⟩
    · have k1:keptB st x y d=true:=by
        unfold keptB
        rw [decide_eq_true (show 0 < x&&&d by omega)]
        simp
      rw [k1]
      refine ⟨fun _=>rfl,fun _=>?_⟩
      have same:∀a∈rws,∀b∈rws,seenL a.2 x=seenL b.2 x→a.2=b.2:=fun a ha b hb' e=>by
        rcases two a ha with h1 | h1 <;> rcases two b hb' with h2 | h2
        · rw [h1,h2]
        · rw [h1,h2] at e; exact absurd ((seen_zo hd).mp e) hx
        · rw [h1,h2] at e; exact absurd ((seen_zo hd).mp e.symm) hx
        · rw [h1,h2]
      unfold ROk
      cases st with
      | true=>
        simp only [if_true]
        exact fun a ha b hb' e=>by rw [same a ha b hb' e]
      | false=>
        simp only [Bool.false_eq_true,if_false]
        exact fun a ha b hb' e=>⟨b,hb',by rw [same a ha b hb' e,mix_self]⟩
end L2
namespace L2
open PySem PySem.Spec PyProof.Rows
section
variable {X:Cx} {K:PySem.W.Frag} {pins:List (Addr × Obj)} {σ:St} {H:Hp} {s:Shared}
theorem map_int_inj:∀{a b:List Int},a.map V.int=b.map V.int→a=b
  | [],[],_=>rfl
  | [],_ :: _,h=>by cases h
  | _ :: _,[],h=>by cases h
  | x :: a,y :: b,h=>by
    have h1:V.int x=V.int y:=(List.cons.inj h).1
    rw [V.int.inj h1,map_int_inj (List.cons.inj h).2]
theorem eqAt_tups {A:Around} {a b:Addr} {ns ms:List Int} (hu:A.units < cLine) (I:Inv X pins σ H s) (ha:H a=some (.tup (ns.map V.int))) (hb:H b=some (.tup (ms.map V.int))):SeqAt.EqAt A s (.ref a) (.ref b) (decide (ns=ms)):=by
  by_cases hab:a=b
  · subst hab
    rw [ha] at hb
    have e:ns=ms:=map_int_inj (HO.tup.inj (Option.some.inj hb))
    rw [decide_eq_true e]
    exact SeqAt.EqAt.same _
  · obtain ⟨its,rv,pl,_⟩:=I.tuple (SqT.of ha)
    obtain ⟨its',rv',pl',_⟩:=I.tuple (SqT.of hb)
    have l1:its.length=ns.length:=by rw [←rv.length,List.length_map]
    have l2:its'.length=ms.length:=by rw [←rv'.length,List.length_map]
    have r:=SeqAt.RcAt.tuples (A:=A) (s:=s) (e:=fun j=>decide (ns.getD j 0=ms.getD j 0)) pl pl' hu (fun j j1 j2=>by
      have j1':j < ns.length:=by rw [←l1]; simpa using j1
      have j2':j < ms.length:=by rw [←l2]; simpa using j2
      obtain ⟨c,hc,rc⟩:=rv.get (i:=j) (x:=V.int ns[j]) (by rw [List.getElem?_map,List.getElem?_eq_getElem j1']; rfl)
      obtain ⟨d,hd,rd⟩:=rv'.get (i:=j) (x:=V.int ms[j]) (by rw [List.getElem?_map,List.getElem?_eq_getElem j2']; rfl)
      have ec:its.toArray[j]=c:=by
        rw [List.getElem?_eq_getElem (by simpa using j1)] at hc
        simpa using hc
      have ed:its'.toArray[j]=d:=by
        rw [List.getElem?_eq_getElem (by simpa using j2)] at hd
        simpa using hd
      have q:=eqAt_V (A:=A.in1) (s:=s) rc rd rfl rfl
      rw [ec,ed]
      have e2:eqV (V.int ns[j]) (V.int ms[j])=decide (ns.getD j 0=ms.getD j 0):=by
        rw [List.getD_eq_getElem?_getD,List.getElem?_eq_getElem j1',List.getD_eq_getElem?_getD,List.getElem?_eq_getElem j2']
        show (ns[j] == ms[j])=decide (ns[j]=ms[j])
        rw [Bool.eq_iff_iff,beq_iff_eq,decide_eq_true_iff]
      rw [←e2]
      exact q)
    rw [List.size_toArray,List.size_toArray,l1,l2,all_eq] at r
    exact SeqAt.EqAt.of_refs hab r
theorem vals_refs:∀{as:List Addr} {us:List Value},Vals (as.map V.ref) us→us=as.map Value.ref
  | [],_,.nil=>rfl
  | a :: as,_,.cons r t=>by
    obtain rfl:=(show _=Value.ref a from r)
    rw [List.map_cons,vals_refs t]
theorem op_notInTK (h:X.K=K) (hu:X.A.units + 64 < cLine):OpR X (compareOp .NotIn) (fun x y H Q=>∃(t l:Addr) (ns:List Int) (rws:List RW),x = .ref t∧y = .ref l∧H t=some (.tup (ns.map V.int))∧SqL K H l (refsOf rws)∧(∀rw0∈rws,H rw0.1=some (.tup (rw0.2.map V.int)))∧
    ∀b:Bool,(b=true↔∀c∈rws,c.2≠ns)→Q (.bl b) H):=by
  subst h
  intro pins s σ H x y v u Q I rx ry h
  obtain ⟨t,l,ns,rws,rfl,rfl,ht,hl,hr,q⟩:=h
  cases rx; cases ry
  obtain ⟨its,rv,pl,hz⟩:=I.list hl
  have eits:its=rws.map fun rw0=>Value.ref rw0.1:=by
    have:Vals ((rws.map (·.1)).map V.ref) its:=by rw [List.map_map]; exact rv
    rw [vals_refs this,List.map_map]
    rfl
  have content:∀a∈rws,∀b∈rws,a.1=b.1→a.2=b.2:=fun a ha b hb e=>by
    have h1:=hr a ha
    rw [e,hr b hb] at h1
    exact (map_int_inj (HO.tup.inj (Option.some.inj h1))).symm
  refine SeqAt.notIn_listAt (fun v=>rws.any fun rw0=>decide (v=Value.ref rw0.1) && decide (rw0.2=ns)) pl.isList (fun w hw=>?_) ?_
  · have hw':w∈rws.map fun rw0=>Value.ref rw0.1:=by rw [←eits]; simpa using hw
    obtain ⟨a,ha,rfl⟩:=List.mem_map.mp hw'
    have e1:(rws.any fun rw0=>decide (Value.ref a.1=Value.ref rw0.1) && decide (rw0.2=ns))=decide (a.2=ns):=by
      rw [Bool.eq_iff_iff,List.any_eq_true,decide_eq_true_iff]
      constructor
      · rintro ⟨b,hb,e⟩
        rw [Bool.and_eq_true] at e
        have eab:a.1=b.1:=Value.ref.inj (of_decide_eq_true e.1)
        rw [content a ha b hb eab]
        exact of_decide_eq_true e.2
      · intro e
        exact ⟨a,ha,by rw [decide_eq_true rfl,decide_eq_true e]; rfl⟩
    show SeqAt.EqAt X.A.in1 s (Value.ref a.1) (Value.ref t) (rws.any fun rw0=>decide (Value.ref a.1=Value.ref rw0.1) && decide (rw0.2=ns))
    rw [e1]
    exact eqAt_tups (show X.A.units + 1 < cLine by omega) I (hr a ha) ht
  · refine ⟨.bl _,H,I,rfl,q _ ?_⟩
    rw [Bool.not_eq_true',eits]
    constructor
    · intro e c hc ec
      have:((rws.map fun rw0=>Value.ref rw0.1).toArray.any fun v=>rws.any fun rw0=>decide (v=Value.ref rw0.1) && decide (rw0.2=ns))=true:=by
        rw [List.any_toArray,List.any_eq_true]
        exact ⟨Value.ref c.1,List.mem_map.mpr ⟨c,hc,rfl⟩,List.any_eq_true.mpr ⟨c,hc,by rw [decide_eq_true rfl,decide_eq_true ec]; rfl⟩⟩
      rw [this] at e
      cases e
    · intro all
      cases e:((rws.map fun rw0=>Value.ref rw0.1).toArray.any fun v=>rws.any fun rw0=>decide (v=Value.ref rw0.1) && decide (rw0.2=ns)) with
      | false=>rfl
      | true=>
        rw [List.any_toArray,List.any_eq_true] at e
        obtain ⟨v,_,hv⟩:=e
        obtain ⟨c,hc,hcc⟩:=List.any_eq_true.mp hv
        rw [Bool.and_eq_true] at hcc
        exact absurd (of_decide_eq_true hcc.2) (all c hc)
end
end L2
namespace L2
open PySem PySem.Spec PyProof.Rows
theorem agree_seen {r1 r2:List Int} {s m:Nat} (h1:r1.length=m) (h2:r2.length=m):agreeL r1 r2 s=true↔seenL r1 s=seenL r2 s:=by
  rw [agree_iff,seen_iff h1 h2,h1]
end L2
namespace L2
open PySem PySem.Spec PyProof.Rows
section
variable {X:Cx} {st:Stmt} {rest:List Stmt} {t u:TS}
theorem pss_cut (P:St→Hp→Prop) (h1:PS X st t) (h2:PSs X rest u):PSs X (st :: rest) (fun D σ H=>t { D with nx:=P } σ H∧∀σ' H',P σ' H'→u D σ' H'):=by
  intro pins s σ H D I h
  refine wpAny_execs_cons (thn (h1 pins s σ H { D with nx:=P } I h.1) fun f s1 q=>?_)
  cases f with
  | next=>
    obtain ⟨σ',H',I',q⟩:=q
    exact h2 pins s1 σ' H' D I' (h.2 σ' H' q)
  | ret v=>exact q
  | brk=>exact q
  | cont=>exact q
end
end L2
namespace L2
open PySem PySem.W PyProof.Rows
namespace ST
section
variable {lt:Nat→Nat→Bool}
section
variable {N:Nat} (h0:0 < N)
include h0
end
end
end ST
end L2
namespace L2
open PySem PySem.W PyProof.Rows
namespace ST
def lexB:List Int→List Int→Bool
  | x :: xs,y :: ys=>if x=y then lexB xs ys else decide (x < y)
  | _,_=>false
theorem lex_as:∀{x y:List Int},lexB x y=true→lexB y x=false
  | [],y,h=>by cases y <;> rfl
  | _ :: _,[],h=>rfl
  | a :: x,b :: y,h=>by
    unfold lexB at h ⊢
    by_cases e:a=b
    · rw [if_pos e] at h
      rw [if_pos e.symm]
      exact lex_as h
    · rw [if_neg e] at h
      rw [if_neg (Ne.symm e)]
      have:=of_decide_eq_true h
      exact decide_eq_false (by omega)
theorem lex_tr:∀{x y z:List Int},x.length=y.length→y.length=z.length→lexB y x=false→lexB z y=false→lexB z x=false
  | [],[],[],_,_,_,_=>rfl
  | a :: x,b :: y,c :: z,h1,h2,h3,h4=>by
    unfold lexB at h3 h4 ⊢
    by_cases e1:b=a
    · subst e1
      rw [if_pos rfl] at h3
      by_cases e2:c=b
      · subst e2
        rw [if_pos rfl] at h4 ⊢
        exact lex_tr (Nat.succ.inj h1) (Nat.succ.inj h2) h3 h4
      · rw [if_neg e2] at h4 ⊢
        exact h4
    · rw [if_neg e1] at h3
      have n1:=of_decide_eq_false h3
      by_cases e2:c=b
      · subst e2
        rw [if_neg e1]
        exact h3
      · rw [if_neg e2] at h4
        have n2:=of_decide_eq_false h4
        rw [if_neg (by omega)]
        exact decide_eq_false (by omega)
theorem lex_total:∀{x y:List Int},x.length=y.length→lexB x y=false→lexB y x=false→x=y
  | [],[],_,_,_=>rfl
  | a :: x,b :: y,h,h1,h2=>by
    unfold lexB at h1 h2
    by_cases e:a=b
    · subst e
      rw [if_pos rfl] at h1 h2
      rw [lex_total (Nat.succ.inj h) h1 h2]
    · rw [if_neg e] at h1
      rw [if_neg (Ne.symm e)] at h2
      have:=of_decide_eq_false h1
      have:=of_decide_eq_false h2
      omega
section
variable {prog:Program} {w:World} {A:Around} {E:Value→Shared→Prop} {s:Shared}
theorem lex_ask {Q:Bool→Shared→Prop}:∀{us vs:List Value} {xs ys:List Int} (i:Nat),IntsAre us xs→IntsAre vs ys→xs.length=ys.length→Q (lexB xs ys) s→KatLex prog w A true false Q (us.zip vs) i s
  | _,_,_,_,_,.nil,.nil,_,q=>q
  | _,_,_,_,i,.cons (vs:=us) (ns:=xs) x t hx,.cons (vs:=vs) (ns:=ys) y u hy,hl,q=>by
    refine kat_cons (wpAny_eqBool_int ?_)
    unfold lexB at q
    by_cases e:x=y
    · subst e
      rw [if_pos rfl] at q
      rw [beq_self_eq_true]
      exact kat_yes (lex_ask (i + 1) hx hy (Nat.succ.inj hl) q)
    · rw [if_neg e] at q
      rw [beq_eq_false_iff_ne.mpr e]
      refine kat_no ?_
      cases c:(true && i == 0) with
      | true=>exact oneLt_int q
      | false=>exact kat_one _ _ (lt_int q)
def RowAt (h:Heap) (m:Nat) (r:Addr × List Int):Prop:=r.2.length=m∧∃o its n,h.get? r.1=some o∧o.cls = .type "tuple"∧o.data = .seq its n∧IntsAre its.toList r.2
theorem row_lt {m:Nat} {a b:Addr × List Int} {Q:Bool→Shared→Prop} (ha:RowAt s.heap m a) (hb:RowAt s.heap m b) (q:Q (lexB a.2 b.2) s):wpAny (model prog w) A (keyLt' (tuples' true) (.ref a.1) (.ref b.1)) Q E s:=by
  obtain ⟨l1,o1,i1,n1,h1,_,d1,r1⟩:=ha
  obtain ⟨l2,o2,i2,n2,h2,_,d2,r2⟩:=hb
  have e1:i1.size=m:=by rw [←Array.length_toList,r1.length,l1]
  have e2:i2.size=m:=by rw [←Array.length_toList,r2.length,l2]
  refine kat_lt h1 d1 h2 d2 ?_
  rw [e1,e2,decide_eq_false (Nat.lt_irrefl _)]
  exact lex_ask 0 r1 r2 (by rw [l1,l2]) q
end
end ST
end L2
namespace L2
open PySem PySem.W PyProof.Rows
namespace SR
def gall:Bool→Keyed→Array Keyed→Nat→Nat→Nat→StateT SortSt Sem (Option Nat):=sortPriv% PySem.Builtin.gallop
def mLo:Array Keyed→Array Keyed→StateT SortSt Sem (Array Keyed):=sortPriv% PySem.Builtin.mergeLo
def mHi:Array Keyed→Array Keyed→StateT SortSt Sem (Array Keyed):=sortPriv% PySem.Builtin.mergeHi
structure TO (L:Keyed→Keyed→Bool):Prop where
  as_:∀{x y},L x y=true→L y x=false
  tr:∀{x y z},L y x=false→L z y=false→L z x=false
section
variable {prog:Program} {w:World} {A:Around} {E:Value→Shared→Prop} {s:Shared} {κ:SortKind} {U:Keyed→Prop} {L:Keyed→Keyed→Bool}
def Asked (prog:Program) (w:World) (A:Around) (s:Shared) (κ:SortKind) (U:Keyed→Prop) (L:Keyed→Keyed→Bool):Prop:=
  ∀x y,U x→U y→wpAny (model prog w) A (keyLt' κ x.1 y.1) (fun b s'=>s' = s∧b=L x y) (fun _ _=>False) s
theorem r_elem {arr:Array Keyed} {i:Nat} {x:Keyed} {Q:Keyed→SortSt→Prop} {st:SortSt} (hx:arr[i]? = some x) (h:Q x st):wpS (model prog w) A E s (elem' arr i) Q st:=by
  rw [elem'_eq,hx]
  exact wpS_pure h
theorem r_lt (H:Asked prog w A s κ U L) {x y:Keyed} {Q:Option Bool→SortSt→Prop} {st:SortSt} (hk:kindOf st=κ) (ux:U x) (uy:U y) (h:Q (some (L x y)) st):wpS (model prog w) A E s (lt' x y) Q st:=by
  rw [lt'_eq]
  refine wpS_bind (wpS_get (wpS_bind (wpS_lift (wpAny_attempt (wpAny_mono (by rw [hk]; exact H x y ux uy) (fun b s' hb=>?_) fun _ _ f=>False.elim f)))))
  obtain ⟨rfl,rfl⟩:=hb
  exact ⟨rfl,wpS_pure h⟩
theorem r_rule {r:String} {Q:Unit→SortSt→Prop} {st:SortSt} (h:Q () st):wpS (model prog w) A E s (liftM (rule r):StateT SortSt Sem Unit) Q st:=wpS_lift (wpAny_rule ⟨rfl,h⟩)
theorem r_bey (H:Asked prog w A s κ U L) {left:Bool} {key x:Keyed} {arr:Array Keyed} {j:Nat} {Q:Option Bool→SortSt→Prop} {st:SortSt} (hk:kindOf st=κ) (uk:U key) (hx:arr[j]? = some x) (ux:U x)
    (h:Q (some (if left=true then L x key else !(L key x))) st):wpS (model prog w) A E s (elem' arr j >>= fun x=>if left=true then lt' x key else lt' key x >>= fun r=>pure (r.map fun c=>!c)) Q st:=by
  refine wpS_bind (r_elem hx ?_)
  cases left with
  | true=>exact r_lt H hk ux uk h
  | false=>exact wpS_bind (r_lt H hk uk ux (wpS_pure h))
theorem r_gall (H:Asked prog w A s κ U L) {left:Bool} {key:Keyed} {arr:Array Keyed} {base n hint:Nat} {b:Nat→Bool} {Q:Option Nat→SortSt→Prop} {st:SortSt} (hk:kindOf st=κ) (uk:U key)
    (hb:∀i,i < n→∃x,arr[base + i]? = some x∧U x∧(if left=true then L x key else !(L key x))=b i) (hm:∀i j,i≤j→j < n→b j=true→b i=true) (hh:hint < n)
    (h:∀k,k≤n→(∀i,i < k→b i=true)→(∀i,k≤i→i < n→b i=false)→Q (some k) st):wpS (model prog w) A E s (gall left key arr base n hint) Q st:=by
  have hf:∀i j,i≤j→j < n→b i=false→b j=false:=fun i j h1 h2 h3=>by
    cases c:b j with
    | false=>rfl
    | true=>rw [hm i j h1 h2 c] at h3; exact h3
  obtain ⟨x0,g1,g2,g3⟩:=hb hint hh
  refine wpS_bind (r_bey H hk uk g1 g2 ?_)
  rw [g3]
  dsimp only
  cases c0:b hint with
  | true=>
    rw [if_pos rfl]
    refine wpS_bind (wpS_mono (wpS_forRange (I:=fun i c st'=>∃la of,c=(none,la,of)∧st' = st∧hint + la < n∧b (hint + la)=true∧la < of∧i + 1≤of)
      (Q:=fun c st'=>∃la of,c=(none,la,of)∧st' = st∧hint + la < n∧b (hint + la)=true∧la < of∧(n - hint≤of∨b (hint + of)=false)) ?_ ?_ ⟨0,1,rfl,rfl,hh,c0,by omega,by omega⟩) ?_)
    · rintro i c st' _ hi ⟨la,of,rfl,rfl,p1,p2,p3,p4⟩
      dsimp only
      by_cases d:of ≥ n - hint
      · rw [if_pos d]
        exact wpS_pure ⟨la,of,rfl,rfl,p1,p2,p3,.inl d⟩
      · rw [if_neg d]
        obtain ⟨x1,k1,k2,k3⟩:=hb (hint + of) (by omega)
        refine wpS_bind (r_bey H hk uk k1 k2 ?_)
        rw [k3]
        cases c1:b (hint + of) with
        | true=>exact wpS_pure ⟨of,2 * of + 1,rfl,rfl,by omega,c1,by omega,by omega⟩
        | false=>exact wpS_pure ⟨la,of,rfl,rfl,p1,p2,p3,.inr c1⟩
    · rintro c st' ⟨la,of,rfl,rfl,p1,p2,p3,p4⟩
      exact ⟨la,of,rfl,rfl,p1,p2,p3,.inl (by omega)⟩
    · rintro c st' ⟨la,of,rfl,rfl,p1,p2,p3,p4⟩
      dsimp only
      obtain ⟨lo,elo⟩:∃lo,hint + la + 1=lo:=⟨_,rfl⟩
      obtain ⟨hi,ehi⟩:∃hi,hint + min of (n - hint)=hi:=⟨_,rfl⟩
      rw [elo,ehi]
      have q1:∀i,i < lo→b i=true:=fun i hi=>hm i (hint + la) (by omega) p1 p2
      have q2:∀i,hi≤i→i < n→b i=false:=fun i h1 h2=>by
        rcases p4 with p4 | p4
        · omega
        · by_cases e:of≤n - hint
          · exact hf (hint + of) i (by omega) h2 p4
          · omega
      have q3:lo≤hi∧hi≤n:=by omega
      clear p1 p2 p3 p4 elo ehi c0
      refine wpS_bind (wpS_mono (wpS_forRange (I:=fun i c st''=>∃lo hi,c=(none,lo,hi)∧st'' = st'∧(∀i,i < lo→b i=true)∧(∀i,hi≤i→i < n→b i=false)∧lo≤hi∧hi≤n∧hi - lo + i≤n)
        (Q:=fun c st''=>∃lo hi,c=(none,lo,hi)∧st'' = st'∧(∀i,i < lo→b i=true)∧(∀i,hi≤i→i < n→b i=false)∧lo=hi∧hi≤n) ?_ ?_ ⟨lo,hi,rfl,rfl,q1,q2,q3.1,q3.2,by omega⟩) ?_)
      · rintro i c st'' _ hi ⟨lo,hi,rfl,rfl,p1,p2,p3,p4,p5⟩
        dsimp only
        by_cases d:lo ≥ hi
        · rw [if_pos d]
          exact wpS_pure ⟨lo,hi,rfl,rfl,p1,p2,by omega,p4⟩
        · rw [if_neg d]
          obtain ⟨x1,k1,k2,k3⟩:=hb (lo + (hi - lo) / 2) (by omega)
          refine wpS_bind (r_bey H hk uk k1 k2 ?_)
          rw [k3]
          cases c1:b (lo + (hi - lo) / 2) with
          | true=>exact wpS_pure ⟨lo + (hi - lo) / 2 + 1,hi,rfl,rfl,fun i hi'=>hm i _ (by omega) (by omega) c1,p2,by omega,p4,by omega⟩
          | false=>exact wpS_pure ⟨lo,lo + (hi - lo) / 2,rfl,rfl,p1,fun i h1 h2=>hf _ i h1 h2 c1,by omega,by omega,by omega⟩
      · rintro c st'' ⟨lo,hi,rfl,rfl,p1,p2,p3,p4,p5⟩
        exact ⟨lo,hi,rfl,rfl,p1,p2,by omega,p4⟩
      · rintro c st'' ⟨lo,hi,rfl,rfl,p1,p2,rfl,p4⟩
        exact wpS_pure (h lo p4 p1 p2)
  | false=>
    rw [if_neg Bool.false_ne_true]
    refine wpS_bind (wpS_mono (wpS_forRange (I:=fun i c st'=>∃la of,c=(none,la,of)∧st' = st∧la≤hint∧b (hint - la)=false∧la < of∧i + 1≤of)
      (Q:=fun c st'=>∃la of,c=(none,la,of)∧st' = st∧la≤hint∧b (hint - la)=false∧la < of∧(hint + 1≤of∨b (hint - of)=true)) ?_ ?_ ⟨0,1,rfl,rfl,by omega,c0,by omega,by omega⟩) ?_)
    · rintro i c st' _ hi ⟨la,of,rfl,rfl,p1,p2,p3,p4⟩
      dsimp only
      by_cases d:of ≥ hint + 1
      · rw [if_pos d]
        exact wpS_pure ⟨la,of,rfl,rfl,p1,p2,p3,.inl d⟩
      · rw [if_neg d]
        obtain ⟨x1,k1,k2,k3⟩:=hb (hint - of) (by omega)
        refine wpS_bind (r_bey H hk uk k1 k2 ?_)
        rw [k3]
        cases c1:b (hint - of) with
        | true=>exact wpS_pure ⟨la,of,rfl,rfl,p1,p2,p3,.inr c1⟩
        | false=>exact wpS_pure ⟨of,2 * of + 1,rfl,rfl,by omega,c1,by omega,by omega⟩
    · rintro c st' ⟨la,of,rfl,rfl,p1,p2,p3,p4⟩
      exact ⟨la,of,rfl,rfl,p1,p2,p3,.inl (by omega)⟩
    · rintro c st' ⟨la,of,rfl,rfl,p1,p2,p3,p4⟩
      dsimp only
      obtain ⟨lo,elo⟩:∃lo,hint + 1 - min of (hint + 1)=lo:=⟨_,rfl⟩
      obtain ⟨hi,ehi⟩:∃hi,hint - la=hi:=⟨_,rfl⟩
      rw [elo,ehi]
      have q1:∀i,i < lo→b i=true:=fun i hi=>by
        rcases p4 with p4 | p4
        · omega
        · exact hm i (hint - of) (by omega) (by omega) p4
      have q2:∀i,hi≤i→i < n→b i=false:=fun i h1 h2=>hf (hint - la) i (by omega) h2 p2
      have q3:lo≤hi∧hi≤n:=by omega
      clear p1 p2 p3 p4 elo ehi c0
      refine wpS_bind (wpS_mono (wpS_forRange (I:=fun i c st''=>∃lo hi,c=(none,lo,hi)∧st'' = st'∧(∀i,i < lo→b i=true)∧(∀i,hi≤i→i < n→b i=false)∧lo≤hi∧hi≤n∧hi - lo + i≤n)
        (Q:=fun c st''=>∃lo hi,c=(none,lo,hi)∧st'' = st'∧(∀i,i < lo→b i=true)∧(∀i,hi≤i→i < n→b i=false)∧lo=hi∧hi≤n) ?_ ?_ ⟨lo,hi,rfl,rfl,q1,q2,q3.1,q3.2,by omega⟩) ?_)
      · rintro i c st'' _ hi ⟨lo,hi,rfl,rfl,p1,p2,p3,p4,p5⟩
        dsimp only
        by_cases d:lo ≥ hi
        · rw [if_pos d]
          exact wpS_pure ⟨lo,hi,rfl,rfl,p1,p2,by omega,p4⟩
        · rw [if_neg d]
          obtain ⟨x1,k1,k2,k3⟩:=hb (lo + (hi - lo) / 2) (by omega)
          refine wpS_bind (r_bey H hk uk k1 k2 ?_)
          rw [k3]
          cases c1:b (lo + (hi - lo) / 2) with
          | true=>exact wpS_pure ⟨lo + (hi - lo) / 2 + 1,hi,rfl,rfl,fun i hi'=>hm i _ (by omega) (by omega) c1,p2,by omega,p4,by omega⟩
          | false=>exact wpS_pure ⟨lo,lo + (hi - lo) / 2,rfl,rfl,p1,fun i h1 h2=>hf _ i h1 h2 c1,by omega,by omega,by omega⟩
      · rintro c st'' ⟨lo,hi,rfl,rfl,p1,p2,p3,p4,p5⟩
        exact ⟨lo,hi,rfl,rfl,p1,p2,by omega,p4⟩
      · rintro c st'' ⟨lo,hi,rfl,rfl,p1,p2,rfl,p4⟩
        exact wpS_pure (h lo p4 p1 p2)
end
end SR
end L2
namespace L2
open PySem PySem.W PyProof.Rows
namespace SR
section
variable {L:Keyed→Keyed→Bool} {la lb out ro:List Keyed} {ia ib na nb k:Nat}
abbrev Le (L:Keyed→Keyed→Bool) (x y:Keyed):Prop:=L y x=false
abbrev Inc (L:Keyed→Keyed→Bool) (l:List Keyed):Prop:=l.Pairwise (Le L)
theorem Le.of_lt (O:TO L) {x y:Keyed} (h:L x y=true):Le L x y:=O.as_ h
theorem Le.trans (O:TO L) {x y z:Keyed} (h:Le L x y) (g:Le L y z):Le L x z:=O.tr h g
theorem Inc.le (S:Inc L la) {i j:Nat} {x y:Keyed} (hi:la[i]? = some x) (hj:la[j]? = some y) (h:i < j):Le L x y:=by
  obtain ⟨h1,e1⟩:=List.getElem?_eq_some_iff.mp hi
  obtain ⟨h2,e2⟩:=List.getElem?_eq_some_iff.mp hj
  have:=List.pairwise_iff_getElem.mp S i j h1 h2 h
  rw [e1,e2] at this
  exact this
theorem irr (O:TO L) (x:Keyed):Le L x x:=by
  show L x x=false
  cases c:L x x with
  | false=>rfl
  | true=>have:=O.as_ c; rw [c] at this; exact this
theorem Inc.le' (O:TO L) (S:Inc L la) {i j:Nat} {x y:Keyed} (hi:la[i]? = some x) (hj:la[j]? = some y) (h:i≤j):Le L x y:=by
  rcases Nat.lt_or_ge i j with c | c
  · exact S.le hi hj c
  · have:i=j:=by omega
    subst this
    rw [hi] at hj
    cases hj
    exact irr O x
theorem mem_drop {l:List Keyed} {i:Nat} {y:Keyed} (h:y∈l.drop i):∃j,i≤j∧l[j]? = some y:=by
  obtain ⟨j,hj⟩:=List.mem_iff_getElem?.mp h
  rw [List.getElem?_drop] at hj
  exact ⟨i + j,by omega,hj⟩
theorem mem_take {l:List Keyed} {n:Nat} {y:Keyed} (h:y∈l.take n):∃j,j < n∧l[j]? = some y:=by
  obtain ⟨j,hj⟩:=List.mem_iff_getElem?.mp h
  rw [List.getElem?_take] at hj
  split at hj
  · exact ⟨j,by assumption,hj⟩
  · cases hj
structure LI (L:Keyed→Keyed→Bool) (la lb out:List Keyed) (ia ib:Nat):Prop where
  perm:out.Perm (la.take ia++lb.take ib)
  srt:Inc L out
  ha:∀x∈out,∀y∈la.drop ia,Le L x y
  hb:∀x∈out,∀y∈lb.drop ib,Le L x y
theorem LI.swap (I:LI L la lb out ia ib):LI L lb la out ib ia:=⟨I.perm.trans List.perm_append_comm,I.srt,I.hb,I.ha⟩
theorem LI.take (Sa:Inc L la) (I:LI L la lb out ia ib) (k:Nat) (h:∀x∈(la.drop ia).take k,∀y∈lb.drop ib,Le L x y):LI L la lb (out++(la.drop ia).take k) (ia + k) ib:=by
  have sd:Inc L (la.drop ia):=List.Pairwise.sublist (List.drop_sublist ..) Sa
  have sc:Inc L ((la.drop ia).take k++(la.drop ia).drop k):=by rw [List.take_append_drop]; exact sd
  have sp:=List.pairwise_append.mp sc
  refine ⟨?_,List.pairwise_append.mpr ⟨I.srt,sp.1,fun x hx y hy=>I.ha x hx y (List.mem_of_mem_take hy)⟩,fun x hx y hy=>?_,fun x hx y hy=>?_⟩
  · rw [List.take_add]
    refine (I.perm.append_right _).trans ?_
    rw [List.append_assoc,List.append_assoc]
    exact List.Perm.append_left _ List.perm_append_comm
  · rw [←List.drop_drop] at hy
    rcases List.mem_append.mp hx with hx | hx
    · exact I.ha x hx y (List.mem_of_mem_drop hy)
    · exact sp.2.2 x hx y hy
  · rcases List.mem_append.mp hx with hx | hx
    · exact I.hb x hx y hy
    · exact h x hx y hy
theorem LI.fin (Sa:Inc L la) (Sb:Inc L lb) (I:LI L la lb out ia ib) (h:∀x∈la.drop ia,∀y∈lb.drop ib,Le L x y):(out++la.drop ia++lb.drop ib).Perm (la++lb)∧Inc L (out++la.drop ia++lb.drop ib):=by
  have J:=I.take Sa (la.length - ia) fun x hx y hy=>h x (List.mem_of_mem_take hx) y hy
  have e1:(la.drop ia).take (la.length - ia)=la.drop ia:=List.take_of_length_le (by simp)
  rw [e1] at J
  have J2:=J.swap.take Sb (lb.length - ib) fun x hx y hy=>by
    rw [List.drop_eq_nil_of_le (by omega)] at hy; cases hy
  rw [List.take_of_length_le (by simp)] at J2
  refine ⟨J2.perm.trans ?_,J2.srt⟩
  rw [List.take_of_length_le (by omega),List.take_of_length_le (by omega)]
  exact List.perm_append_comm
structure HI (L:Keyed→Keyed→Bool) (la lb ro:List Keyed) (na nb:Nat):Prop where
  perm:ro.Perm (la.drop na++lb.drop nb)
  srt:Inc L ro
  ha:∀x∈la.take na,∀y∈ro,Le L x y
  hb:∀x∈lb.take nb,∀y∈ro,Le L x y
theorem HI.swap (I:HI L la lb ro na nb):HI L lb la ro nb na:=⟨I.perm.trans List.perm_append_comm,I.srt,I.hb,I.ha⟩
theorem HI.drop (Sa:Inc L la) (I:HI L la lb ro na nb) (k:Nat) (hk:k≤na) (h:∀x∈lb.take nb,∀y∈(la.take na).drop k,Le L x y):HI L la lb ((la.take na).drop k++ro) k nb:=by
  have sd:Inc L (la.take na):=List.Pairwise.sublist (List.take_sublist ..) Sa
  have sc:Inc L ((la.take na).take k++(la.take na).drop k):=by rw [List.take_append_drop]; exact sd
  have sp:=List.pairwise_append.mp sc
  have ek:(la.take na).take k=la.take k:=by rw [List.take_take,Nat.min_eq_left hk]
  refine ⟨?_,List.pairwise_append.mpr ⟨sp.2.1,I.srt,fun x hx y hy=>I.ha x (List.mem_of_mem_drop hx) y hy⟩,fun x hx y hy=>?_,fun x hx y hy=>?_⟩
  · have e:la.drop k=(la.take na).drop k++la.drop na:=by
      rcases Nat.lt_or_ge la.length na with c | c
      · rw [List.take_of_length_le (by omega),List.drop_eq_nil_of_le (i:=na) (by omega),List.append_nil]
      · conv=>lhs; rw [←List.take_append_drop na la]
        rw [List.drop_append_of_le_length (by rw [List.length_take]; omega)]
    rw [e,List.append_assoc]
    exact I.perm.append_left _
  · rw [←ek] at hx
    rcases List.mem_append.mp hy with hy | hy
    · exact sp.2.2 x hx y hy
    · exact I.ha x (List.mem_of_mem_take hx) y hy
  · rcases List.mem_append.mp hy with hy | hy
    · exact h x hx y hy
    · exact I.hb x hx y hy
theorem HI.fin (Sa:Inc L la) (Sb:Inc L lb) (I:HI L la lb ro na nb) (h:∀x∈la.take na,∀y∈lb.take nb,Le L x y):(la.take na++lb.take nb++ro).Perm (la++lb)∧Inc L (la.take na++lb.take nb++ro):=by
  have J:=I.swap.drop Sb 0 (Nat.zero_le _) fun x hx y hy=>h x hx y (List.mem_of_mem_drop hy)
  have J2:=J.swap.drop Sa 0 (Nat.zero_le _) fun x hx y hy=>by rw [List.take_zero] at hx; cases hx
  rw [List.drop_zero,List.drop_zero] at J2
  rw [List.append_assoc]
  refine ⟨J2.perm.trans ?_,J2.srt⟩
  rw [List.drop_zero,List.drop_zero]
end
end SR
end L2
namespace L2
open PySem PySem.W PyProof.Rows
namespace SR
section
variable {L:Keyed→Keyed→Bool} {a b out:Array Keyed} {ia ib k:Nat} {x y:Keyed}
structure Kp (st st':SortSt):Prop where
  kind:kindOf st' = kindOf st
  arr:arrOf st' = arrOf st
  pend:pendingOf st' = pendingOf st
  failed:failedOf st' = failedOf st
theorem Kp.refl (st:SortSt):Kp st st:=⟨rfl,rfl,rfl,rfl⟩
theorem ex_toList {a:Array Keyed} {i j:Nat}:(a.extract i j).toList=(a.toList.drop i).take (j - i):=by
  simp
theorem ex_all {a:Array Keyed} {i:Nat}:(a.extract i a.size).toList=a.toList.drop i:=by
  rw [ex_toList]; exact List.take_of_length_le (by simp)
theorem get_l {a:Array Keyed} {i:Nat}:a.toList[i]? = a[i]?:=by simp
theorem take1 (h:a[ia]? = some x):(a.toList.drop ia).take 1=[x]:=by
  rw [←get_l] at h
  obtain ⟨h1,h2⟩:=List.getElem?_eq_some_iff.mp h
  rw [List.drop_eq_getElem_cons h1,h2]
  rfl
theorem up (O:TO L) (Sa:Inc L a.toList) (h:a[ia]? = some x) (g:Le L y x):∀z∈a.toList.drop ia,Le L y z:=fun z hz=>by
  obtain ⟨j,hj,ej⟩:=mem_drop hz
  rw [←get_l] at h
  exact g.trans O (Sa.le' O h ej hj)
abbrev Fin (L:Keyed→Keyed→Bool) (a b r:Array Keyed):Prop:=r.toList.Perm (a.toList++b.toList)∧Inc L r.toList
abbrev Lo (L:Keyed→Keyed→Bool) (a b out:Array Keyed) (ia ib:Nat):Prop:=LI L a.toList b.toList out.toList ia ib
theorem Lo.pushA (Sa:Inc L a.toList) (I:Lo L a b out ia ib) (h:a[ia]? = some x) (g:∀y∈b.toList.drop ib,Le L x y):Lo L a b (out.push x) (ia + 1) ib:=by
  have:=LI.take Sa I 1 (by rw [take1 h]; intro z hz; rw [List.mem_singleton] at hz; rw [hz]; exact g)
  rw [take1 h] at this
  show LI L a.toList b.toList (out.push x).toList _ _
  rw [Array.toList_push]
  exact this
theorem Lo.pushB (Sb:Inc L b.toList) (I:Lo L a b out ia ib) (h:b[ib]? = some y) (g:∀x∈a.toList.drop ia,Le L y x):Lo L a b (out.push y) ia (ib + 1):=(Lo.pushA (a:=b) (b:=a) Sb I.swap h g).swap
theorem Lo.chunkA (Sa:Inc L a.toList) (I:Lo L a b out ia ib) (k:Nat) (g:∀i x,i < k→a[ia + i]? = some x→∀y∈b.toList.drop ib,Le L x y):Lo L a b (out++a.extract ia (ia + k)) (ia + k) ib:=by
  have:=LI.take Sa I k (fun x hx=>by
    obtain ⟨j,hj,ej⟩:=mem_take hx
    rw [List.getElem?_drop,get_l] at ej
    exact g j x hj ej)
  show LI L a.toList b.toList (out++a.extract ia (ia + k)).toList _ _
  rw [Array.toList_append,ex_toList,Nat.add_sub_cancel_left]
  exact this
theorem Lo.chunkB (Sb:Inc L b.toList) (I:Lo L a b out ia ib) (k:Nat) (g:∀i y,i < k→b[ib + i]? = some y→∀x∈a.toList.drop ia,Le L y x):Lo L a b (out++b.extract ib (ib + k)) ia (ib + k):=(Lo.chunkA (a:=b) (b:=a) Sb I.swap k g).swap
theorem Lo.done (Sa:Inc L a.toList) (Sb:Inc L b.toList) (I:Lo L a b out ia ib) (h:ia=a.size∨ib=b.size):Fin L a b (out++a.extract ia a.size++b.extract ib b.size):=by
  have:=LI.fin Sa Sb I fun x hx y hy=>by
    rcases h with h | h
    · rw [h,List.drop_eq_nil_of_le (by simp)] at hx; cases hx
    · rw [h,List.drop_eq_nil_of_le (by simp)] at hy; cases hy
  unfold Fin
  rw [Array.toList_append,Array.toList_append,ex_all,ex_all]
  exact this
theorem Lo.last (Sa:Inc L a.toList) (Sb:Inc L b.toList) (h1:∀y∈b.toList,∀x,a[a.size - 1]? = some x→Le L y x) (I:Lo L a b out ia ib) (h:ia + 1=a.size):Fin L a b (out++b.extract ib b.size++a.extract ia a.size):=by
  have:=LI.fin Sb Sa I.swap fun y hy x hx=>by
    obtain ⟨j,hj,ej⟩:=mem_drop hx
    have hl:=(List.getElem?_eq_some_iff.mp ej).1
    rw [Array.length_toList] at hl
    rw [get_l] at ej
    exact h1 y (List.mem_of_mem_drop hy) x (by rw [←ej]; congr 1; omega)
  unfold Fin
  rw [Array.toList_append,Array.toList_append,ex_all,ex_all]
  exact ⟨this.1.trans List.perm_append_comm,this.2⟩
end
section
variable {prog:Program} {w:World} {A:Around} {E:Value→Shared→Prop} {s:Shared} {κ:SortKind} {U:Keyed→Prop} {L:Keyed→Keyed→Bool}
theorem r_right (O:TO L) (H:Asked prog w A s κ U L) {key:Keyed} {a:Array Keyed} {ia hint n:Nat} {Q:Option Nat→SortSt→Prop} {st:SortSt} (hk:kindOf st=κ) (uk:U key) (ua:∀x∈a.toList,U x) (hn:ia + n≤a.size)
    (Sa:∀i j x y,i≤j→j < n→a[ia + i]? = some x→a[ia + j]? = some y→Le L x y) (hh:hint < n)
    (h:∀k,k≤n→(∀i x,i < k→a[ia + i]? = some x→Le L x key)→(∀i x,k≤i→i < n→a[ia + i]? = some x→L key x=true)→Q (some k) st):wpS (model prog w) A E s (gall false key a ia n hint) Q st:=by
  have at_:∀i,i < n→∃x,a[ia + i]? = some x∧U x:=fun i hi=>⟨a[ia + i],Array.getElem?_eq_getElem (by omega),ua _ (by simp)⟩
  refine r_gall H (b:=fun i=>match a[ia + i]? with | some x=>!(L key x) | none=>false) hk uk (fun i hi=>?_) (fun i j hij hj hb=>?_) hh fun k hk1 hk2 hk3=>h k hk1 (fun i x hi ex=>?_) fun i x h1 h2 ex=>?_
  · obtain ⟨x,ex,ux⟩:=at_ i hi
    refine ⟨x,ex,ux,?_⟩
    rw [if_neg Bool.false_ne_true,ex]
  · obtain ⟨x,ex,_⟩:=at_ i (by omega)
    obtain ⟨y,ey,_⟩:=at_ j hj
    try dsimp only at hb ⊢
    rw [ey] at hb
    rw [ex]
    have h1:L key y=false:=by simpa using hb
    have h2:L key x=false:=(Sa i j x y hij hj ex ey).trans O h1
    dsimp only
    rw [h2]
    rfl
  · have:=hk2 i hi
    try dsimp only at this
    rw [ex] at this
    simpa using this
  · have:=hk3 i h1 h2
    try dsimp only at this
    rw [ex] at this
    simpa using this
theorem r_left (O:TO L) (H:Asked prog w A s κ U L) {key:Keyed} {a:Array Keyed} {ia hint n:Nat} {Q:Option Nat→SortSt→Prop} {st:SortSt} (hk:kindOf st=κ) (uk:U key) (ua:∀x∈a.toList,U x) (hn:ia + n≤a.size)
    (Sa:∀i j x y,i≤j→j < n→a[ia + i]? = some x→a[ia + j]? = some y→Le L x y) (hh:hint < n)
    (h:∀k,k≤n→(∀i x,i < k→a[ia + i]? = some x→L x key=true)→(∀i x,k≤i→i < n→a[ia + i]? = some x→Le L key x)→Q (some k) st):wpS (model prog w) A E s (gall true key a ia n hint) Q st:=by
  have at_:∀i,i < n→∃x,a[ia + i]? = some x∧U x:=fun i hi=>⟨a[ia + i],Array.getElem?_eq_getElem (by omega),ua _ (by simp)⟩
  refine r_gall H (b:=fun i=>match a[ia + i]? with | some x=>L x key | none=>false) hk uk (fun i hi=>?_) (fun i j hij hj hb=>?_) hh fun k hk1 hk2 hk3=>h k hk1 (fun i x hi ex=>?_) fun i x h1 h2 ex=>?_
  · obtain ⟨x,ex,ux⟩:=at_ i hi
    refine ⟨x,ex,ux,?_⟩
    rw [if_pos rfl,ex]
  · obtain ⟨x,ex,_⟩:=at_ i (by omega)
    obtain ⟨y,ey,_⟩:=at_ j hj
    try dsimp only at hb ⊢
    rw [ey] at hb
    rw [ex]
    try dsimp only at hb ⊢
    cases c:L x key with
    | true=>rfl
    | false=>
      have c':Le L key x:=c
      have:=c'.trans O (Sa i j x y hij hj ex ey)
      rw [show L y key=false from this] at hb
      exact hb
  · have:=hk2 i hi
    try dsimp only at this
    rw [ex] at this
    exact this
  · have:=hk3 i h1 h2
    try dsimp only at this
    rw [ex] at this
    exact this
theorem sub_inc (O:TO L) {a:Array Keyed} (Sa:Inc L a.toList) {ia n:Nat}:∀i j x y,i≤j→j < n→a[ia + i]? = some x→a[ia + j]? = some y→Le L x y:=fun i j x y hij hj ex ey=>
  Sa.le' O (by rw [get_l]; exact ex) (by rw [get_l]; exact ey) (by omega)
end
end SR
end L2
namespace L2
open PySem PySem.W PyProof.Rows
namespace SR
section
variable {prog:Program} {w:World} {A:Around} {E:Value→Shared→Prop} {s:Shared} {κ:SortKind} {U:Keyed→Prop} {L:Keyed→Keyed→Bool}
theorem r_mLo (O:TO L) (H:Asked prog w A s κ U L) {a b:Array Keyed} {Q:Array Keyed→SortSt→Prop} {st:SortSt} (hk:kindOf st=κ) (ua:∀x∈a.toList,U x) (ub:∀x∈b.toList,U x)
    (Sa:Inc L a.toList) (Sb:Inc L b.toList) (a1:1≤a.size) (b1:1≤b.size) (h0:∀x∈a.toList,∀y,b[0]? = some y→Le L y x) (h1:∀y∈b.toList,∀x,a[a.size - 1]? = some x→Le L y x)
    (h:∀out st',Kp st st'→Fin L a b out→Q out st'):wpS (model prog w) A E s (mLo a b) Q st:=by
  have atA:∀i,i < a.size→∃x,a[i]? = some x∧U x:=fun i hi=>⟨a[i],Array.getElem?_eq_getElem hi,ua _ (by simp)⟩
  have atB:∀i,i < b.size→∃x,b[i]? = some x∧U x:=fun i hi=>⟨b[i],Array.getElem?_eq_getElem hi,ub _ (by simp)⟩
  refine wpS_bind (r_rule ?_)
  dsimp only
  obtain ⟨y0,e0⟩:∃y,b[0]? = some y:=⟨_,Array.getElem?_eq_getElem (by omega)⟩
  refine wpS_bind (r_elem e0 ?_)
  have I0:Lo L a b #[y0] 0 1:=by
    have z:Lo L a b #[] 0 0:=⟨by simp,List.Pairwise.nil,fun x hx=>by simp at hx,fun x hx=>by simp at hx⟩
    exact Lo.pushB Sb z e0 fun x hx=>h0 x (by simpa using hx) y0 e0
  by_cases d1:(1 == b.size)=true
  · rw [if_pos d1]
    exact wpS_pure (h _ st (Kp.refl _) (I0.done Sa Sb (.inr (by simpa using d1))))
  rw [if_neg d1]
  by_cases d2:(0 + 1 == a.size)=true
  · rw [if_pos d2]
    exact wpS_pure (h _ st (Kp.refl _) (I0.last Sa Sb h1 (by simpa using d2)))
  rw [if_neg d2]
  have d1':1≠b.size:=by simpa using d1
  have d2':1≠a.size:=by simpa using d2
  refine wpS_bind (wpS_get ?_)
  refine wpS_bind (wpS_mono (wpS_forRange (I:=fun i c st'=>∃out ia ib mg,c=(none,out,ia,ib,mg)∧Kp st st'∧Lo L a b out ia ib∧ia + 1 < a.size∧ib < b.size∧i + 1≤ia + ib)
    (Q:=fun c st'=>∃r z,c=(some r,z)∧Kp st st'∧Fin L a b r) ?step ?fin ⟨#[y0],0,1,_,rfl,Kp.refl _,I0,by omega,by omega,by omega⟩) ?post)
  case fin=>
    rintro c st' ⟨out,ia,ib,mg,rfl,_,_,p1,p2,p3⟩
    omega
  case post=>
    rintro c st' ⟨r,z,rfl,K,F⟩
    exact wpS_pure (h r st' K F)
  case step=>
    rintro i c st1 _ hi ⟨out,ia,ib,mg,rfl,K1,I1,p1,p2,p3⟩
    dsimp only
    refine wpS_bind (wpS_mono (wpS_forRange (I:=fun j c st'=>∃out ia' ib' ac bc,c=(none,out,ia',ib',ac,bc)∧st' = st1∧Lo L a b out ia' ib'∧ia' + 1 < a.size∧ib' < b.size∧ia + ib + j≤ia' + ib')
      (Q:=fun c st'=>st' = st1∧((∃r z,c=(some r,z)∧Fin L a b r)∨∃out ia' ib' ac bc,c=(none,out,ia',ib',ac,bc)∧Lo L a b out ia' ib'∧ia' + 1 < a.size∧ib' < b.size∧ia + ib + 1≤ia' + ib')) ?step1 ?fin1 ⟨out,ia,ib,0,0,rfl,rfl,I1,p1,p2,by omega⟩) ?post1)
    case fin1=>
      rintro c st' ⟨out,ia',ib',ac,bc,rfl,rfl,I,q1,q2,q3⟩
      exact ⟨rfl,.inr ⟨out,ia',ib',ac,bc,rfl,I,q1,q2,by omega⟩⟩
    case step1=>
      rintro j c st' _ hj ⟨out,ia',ib',ac,bc,rfl,rfl,I,q1,q2,q3⟩
      dsimp only
      obtain ⟨xa,ea,uxa⟩:=atA ia' (by omega)
      obtain ⟨xb,eb,uxb⟩:=atB ib' q2
      refine wpS_bind (r_elem eb (wpS_bind (r_elem ea (wpS_bind (r_lt H (K1.kind.trans hk) uxb uxa ?_)))))
      cases c:L xb xa with
      | true=>
        have J:=Lo.pushB Sb I eb (up O Sa ea (Le.of_lt O c))
        refine wpS_bind (r_elem eb ?_)
        by_cases d:(ib' + 1 == b.size)=true
        · rw [if_pos d]
          exact wpS_pure ⟨rfl,.inl ⟨_,_,rfl,J.done Sa Sb (.inr (by simpa using d))⟩⟩
        · rw [if_neg d]
          have d':ib' + 1≠b.size:=by simpa using d
          split
          · exact wpS_pure ⟨rfl,.inr ⟨_,_,_,_,_,rfl,J,q1,by omega,by omega⟩⟩
          · exact wpS_pure ⟨_,_,_,_,_,rfl,rfl,J,q1,by omega,by omega⟩
      | false=>
        have J:=Lo.pushA Sa I ea (up O Sb eb c)
        refine wpS_bind (r_elem ea ?_)
        by_cases d:(ia' + 1 + 1 == a.size)=true
        · rw [if_pos d]
          exact wpS_pure ⟨rfl,.inl ⟨_,_,rfl,J.last Sa Sb h1 (by simpa using d)⟩⟩
        · rw [if_neg d]
          have d':ia' + 1 + 1≠a.size:=by simpa using d
          split
          · exact wpS_pure ⟨rfl,.inr ⟨_,_,_,_,_,rfl,J,by omega,q2,by omega⟩⟩
          · exact wpS_pure ⟨_,_,_,_,_,rfl,rfl,J,by omega,q2,by omega⟩
    case post1=>
      rintro c st' ⟨rfl,⟨r,⟨z1,z2,z3,z4,z5⟩,rfl,F⟩ | ⟨out,ia',ib',ac,bc,rfl,I2,q1,q2,q3⟩⟩
      · exact wpS_pure ⟨r,_,rfl,K1,F⟩
      · dsimp only
        refine wpS_bind (r_rule ?_)
        refine wpS_bind (wpS_mono (wpS_forRange (I:=fun j c st'=>∃out ja jb mg ac bc,c=(none,out,ja,jb,mg,ac,bc)∧Kp st st'∧Lo L a b out ja jb∧ja + 1 < a.size∧jb < b.size∧ia' + ib'≤ja + jb)
          (Q:=fun c st'=>Kp st st'∧((∃r z,c=(some r,z)∧Fin L a b r)∨∃out ja jb mg ac bc,c=(none,out,ja,jb,mg,ac,bc)∧Lo L a b out ja jb∧ja + 1 < a.size∧jb < b.size∧ia' + ib'≤ja + jb)) ?step2 ?fin2 ⟨out,ia',ib',_,ac,bc,rfl,K1,I2,q1,q2,Nat.le_refl _⟩) ?post2)
        case fin2=>
          rintro c st' ⟨out,ja,jb,mg,ac,bc,rfl,K,I,r1,r2,r3⟩
          exact ⟨K,.inr ⟨out,ja,jb,mg,ac,bc,rfl,I,r1,r2,r3⟩⟩
        case post2=>
          rintro c st' ⟨K,⟨r,⟨z1,z2,z3,z4,z5,z6⟩,rfl,F⟩ | ⟨out,ja,jb,mg,ac,bc,rfl,I,r1,r2,r3⟩⟩
          · exact wpS_pure ⟨r,_,rfl,K,F⟩
          · dsimp only
            exact wpS_bind (wpS_modify (wpS_pure ⟨out,ja,jb,_,rfl,⟨K.kind,K.arr,K.pend,K.failed⟩,I,r1,r2,by omega⟩))
        case step2=>
          rintro j c st' _ hj ⟨out,ja,jb,mg,ac,bc,rfl,K,I,r1,r2,r3⟩
          dsimp only
          obtain ⟨xb,eb,uxb⟩:=atB jb r2
          by_cases cg:mg > 1
          case' pos=>rw [if_pos cg]
          case' neg=>rw [if_neg cg]
          all_goals
            refine wpS_bind (wpS_modify (wpS_bind (r_elem eb ?_)))
            refine wpS_bind (r_right O H (K.kind.trans hk) uxb ua (by omega) (sub_inc O Sa) (by omega) fun k k1 k2 k3=>?_)
            dsimp only
            have up_b:∀y∈b.toList.drop jb,Le L xb y:=up O Sb eb (irr O xb)
            by_cases ck:k > 0
            case' pos=>
              rw [if_pos ck]
              have J:=Lo.chunkA Sa I k fun i x hi ex y hy=>(k2 i x hi ex).trans O (up_b y hy)
              by_cases d:(ja + k + 1 == a.size)=true
              · rw [if_pos d]
                exact wpS_pure ⟨⟨K.kind,K.arr,K.pend,K.failed⟩,.inl ⟨_,_,rfl,J.last Sa Sb h1 (by simpa using d)⟩⟩
              rw [if_neg d]
              by_cases e:(ja + k == a.size)=true
              · rw [if_pos e]
                exact wpS_pure ⟨⟨K.kind,K.arr,K.pend,K.failed⟩,.inl ⟨_,_,rfl,J.done Sa Sb (.inl (by simpa using e))⟩⟩
              rw [if_neg e]
              have f2:ja + k + 1 < a.size:=by
                have d':ja + k + 1≠a.size:=by simpa using d
                have e':ja + k≠a.size:=by simpa using e
                omega
              have g2:∀x∈a.toList.drop (ja + k),Le L xb x:=by
                obtain ⟨xx,ex,_⟩:=atA (ja + k) (by omega)
                exact up O Sa ex (Le.of_lt O (k3 k xx (Nat.le_refl _) (by omega) ex))
              have r3':ia' + ib'≤ja + k + jb:=by omega
              clear d e k2 k3 k1
              generalize out++a.extract ja (ja + k)=out2 at J ⊢
              generalize ja + k=ja2 at J f2 g2 r3' ⊢
            case' neg=>
              rw [if_neg ck]
              have J:=I
              have f2:=r1
              have g2:∀x∈a.toList.drop ja,Le L xb x:=by
                obtain ⟨xx,ex,_⟩:=atA ja (by omega)
                exact up O Sa ex (Le.of_lt O (k3 0 xx (by omega) (by omega) ex))
              have r3':=r3
              clear k2 k3 k1
              generalize out=out2 at J ⊢
              generalize ja=ja2 at J f2 g2 r3' ⊢
            all_goals
              refine wpS_bind (r_elem eb ?_)
              have J2:=Lo.pushB Sb J eb g2
              clear J g2
              by_cases d:(jb + 1 == b.size)=true
              · rw [if_pos d]
                exact wpS_pure ⟨⟨K.kind,K.arr,K.pend,K.failed⟩,.inl ⟨_,_,rfl,J2.done Sa Sb (.inr (by simpa using d))⟩⟩
              rw [if_neg d]
              have d':jb + 1≠b.size:=by simpa using d
              obtain ⟨xa,ea,uxa⟩:=atA ja2 (by omega)
              refine wpS_bind (r_elem ea ?_)
              refine wpS_bind (r_left O H (K.kind.trans hk) uxa ub (by omega) (sub_inc O Sb) (by omega) fun m m1 m2 m3=>?_)
              dsimp only
              have up_a:∀y∈a.toList.drop ja2,Le L xa y:=up O Sa ea (irr O xa)
              generalize out2.push xb=out3 at J2 ⊢
              by_cases cm:m > 0
              case' pos=>
                rw [if_pos cm]
                have J3:=Lo.chunkB Sb J2 m fun i y hi ey x hx=>(Le.of_lt O (m2 i y hi ey)).trans O (up_a x hx)
                by_cases d:(jb + 1 + m == b.size)=true
                · rw [if_pos d]
                  exact wpS_pure ⟨⟨K.kind,K.arr,K.pend,K.failed⟩,.inl ⟨_,_,rfl,J3.done Sa Sb (.inr (by simpa using d))⟩⟩
                rw [if_neg d]
                have f3:jb + 1 + m < b.size:=by
                  have d':jb + 1 + m≠b.size:=by simpa using d
                  omega
                have g3:∀y∈b.toList.drop (jb + 1 + m),Le L xa y:=by
                  obtain ⟨xx,ex,_⟩:=atB (jb + 1 + m) (by omega)
                  exact up O Sb ex (m3 m xx (Nat.le_refl _) (by omega) ex)
                have r4:ia' + ib'≤ja2 + (jb + 1 + m):=by omega
                generalize out3++b.extract (jb + 1) (jb + 1 + m)=out4 at J3 ⊢
                generalize jb + 1 + m=jb2 at J3 f3 g3 r4 ⊢
              case' neg=>
                rw [if_neg cm]
                have J3:=J2
                have f3:jb + 1 < b.size:=by omega
                have g3:∀y∈b.toList.drop (jb + 1),Le L xa y:=by
                  obtain ⟨xx,ex,_⟩:=atB (jb + 1) (by omega)
                  exact up O Sb ex (m3 0 xx (by omega) (by omega) ex)
                have r4:ia' + ib'≤ja2 + (jb + 1):=by omega
                generalize out3=out4 at J3 ⊢
                generalize jb + 1=jb2 at J3 f3 g3 r4 ⊢
              all_goals
                refine wpS_bind (r_elem ea ?_)
                have J4:=Lo.pushA Sa J3 ea g3
                by_cases d:(ja2 + 1 + 1 == a.size)=true
                · rw [if_pos d]
                  exact wpS_pure ⟨⟨K.kind,K.arr,K.pend,K.failed⟩,.inl ⟨_,_,rfl,J4.last Sa Sb h1 (by simpa using d)⟩⟩
                rw [if_neg d]
                have d':ja2 + 1 + 1≠a.size:=by simpa using d
                split
                · exact wpS_pure ⟨⟨K.kind,K.arr,K.pend,K.failed⟩,.inr ⟨_,_,_,_,_,_,rfl,J4,by omega,f3,by omega⟩⟩
                · exact wpS_pure ⟨_,_,_,_,_,_,rfl,⟨K.kind,K.arr,K.pend,K.failed⟩,J4,by omega,f3,by omega⟩
end
end SR
end L2
namespace L2
open PySem PySem.W PyProof.Rows
namespace SR
section
variable {L:Keyed→Keyed→Bool} {a b out:Array Keyed} {na nb k:Nat} {x y:Keyed}
theorem dn (O:TO L) (Sa:Inc L a.toList) (h:a[na - 1]? = some x) (g:Le L x y):∀z∈a.toList.take na,Le L z y:=fun z hz=>by
  obtain ⟨j,hj,ej⟩:=mem_take hz
  rw [←get_l] at h
  exact (Sa.le' O ej h (by omega)).trans O g
theorem drop1 (hn:1≤na) (h:a[na - 1]? = some x):(a.toList.take na).drop (na - 1)=[x]:=by
  rw [←get_l] at h
  obtain ⟨h1,h2⟩:=List.getElem?_eq_some_iff.mp h
  have e:na=(na - 1) + 1:=by omega
  rw [show a.toList.take na=a.toList.take ((na - 1) + 1) by rw [←e],List.take_add_one,h,List.drop_append_of_le_length (by rw [List.length_take]; omega),List.drop_eq_nil_of_le (by rw [List.length_take]; omega)]
  rfl
abbrev Hi (L:Keyed→Keyed→Bool) (a b out:Array Keyed) (na nb:Nat):Prop:=HI L a.toList b.toList out.toList.reverse na nb
theorem Hi.pushA (Sa:Inc L a.toList) (I:Hi L a b out na nb) (hn:1≤na) (h:a[na - 1]? = some x) (g:∀y∈b.toList.take nb,Le L y x):Hi L a b (out.push x) (na - 1) nb:=by
  have:=HI.drop Sa I (na - 1) (by omega) (by rw [drop1 hn h]; intro y hy z hz; rw [List.mem_singleton] at hz; rw [hz]; exact g y hy)
  rw [drop1 hn h] at this
  show HI L a.toList b.toList (out.push x).toList.reverse _ _
  rw [Array.toList_push,List.reverse_append]
  exact this
theorem Hi.pushB (Sb:Inc L b.toList) (I:Hi L a b out na nb) (hn:1≤nb) (h:b[nb - 1]? = some y) (g:∀x∈a.toList.take na,Le L x y):Hi L a b (out.push y) na (nb - 1):=(Hi.pushA (a:=b) (b:=a) Sb I.swap hn h g).swap
theorem Hi.chunkA (Sa:Inc L a.toList) (I:Hi L a b out na nb) (at_:Nat) (h1:at_≤na) (g:∀i x,at_≤i→i < na→a[i]? = some x→∀y∈b.toList.take nb,Le L y x):Hi L a b (out++(a.extract at_ na).reverse) at_ nb:=by
  have e:(a.extract at_ na).toList=(a.toList.take na).drop at_:=by rw [ex_toList,List.take_drop]; congr 2; omega
  have:=HI.drop Sa I at_ h1 (fun y hy x hx=>by
    obtain ⟨j,hj,ej⟩:=mem_drop hx
    rw [List.getElem?_take] at ej
    split at ej
    · rw [get_l] at ej
      exact g j x hj (by assumption) ej y hy
    · cases ej)
  show HI L a.toList b.toList (out++(a.extract at_ na).reverse).toList.reverse _ _
  rw [Array.toList_append,Array.toList_reverse,List.reverse_append,List.reverse_reverse,e]
  exact this
theorem Hi.chunkB (Sb:Inc L b.toList) (I:Hi L a b out na nb) (at_:Nat) (h1:at_≤nb) (g:∀i y,at_≤i→i < nb→b[i]? = some y→∀x∈a.toList.take na,Le L x y):Hi L a b (out++(b.extract at_ nb).reverse) na at_:=(Hi.chunkA (a:=b) (b:=a) Sb I.swap at_ h1 g).swap
theorem ex0 {a:Array Keyed} {n:Nat}:(a.extract 0 n).toList=a.toList.take n:=by rw [ex_toList]; rfl
theorem Hi.done (Sa:Inc L a.toList) (Sb:Inc L b.toList) (I:Hi L a b out na nb) (h:na=0∨nb=0):Fin L a b (a.extract 0 na++b.extract 0 nb++out.reverse):=by
  have:=HI.fin Sa Sb I fun x hx y hy=>by
    rcases h with h | h
    · rw [h] at hx; cases hx
    · rw [h] at hy; cases hy
  unfold Fin
  rw [Array.toList_append,Array.toList_append,ex0,ex0,Array.toList_reverse]
  exact this
theorem Hi.first (Sa:Inc L a.toList) (Sb:Inc L b.toList) (h0:∀x∈a.toList,∀y,b[0]? = some y→Le L y x) (I:Hi L a b out na nb) (h:nb=1):Fin L a b (b.extract 0 nb++a.extract 0 na++out.reverse):=by
  have:=HI.fin Sb Sa I.swap fun y hy x hx=>by
    obtain ⟨j,hj,ej⟩:=mem_take hy
    rw [get_l] at ej
    exact h0 x (List.mem_of_mem_take hx) y (by rw [←ej]; congr 1; omega)
  unfold Fin
  rw [Array.toList_append,Array.toList_append,ex0,ex0,Array.toList_reverse]
  exact ⟨this.1.trans List.perm_append_comm,this.2⟩
end
section
variable {prog:Program} {w:World} {A:Around} {E:Value→Shared→Prop} {s:Shared} {κ:SortKind} {U:Keyed→Prop} {L:Keyed→Keyed→Bool}
theorem z_ {a:Array Keyed} {i:Nat}:a[0 + i]? = a[i]?:=by rw [Nat.zero_add]
theorem r_mHi (O:TO L) (H:Asked prog w A s κ U L) {a b:Array Keyed} {Q:Array Keyed→SortSt→Prop} {st:SortSt} (hk:kindOf st=κ) (ua:∀x∈a.toList,U x) (ub:∀x∈b.toList,U x)
    (Sa:Inc L a.toList) (Sb:Inc L b.toList) (a1:1≤a.size) (b1:1≤b.size) (h0:∀x∈a.toList,∀y,b[0]? = some y→Le L y x) (h1:∀y∈b.toList,∀x,a[a.size - 1]? = some x→Le L y x)
    (h:∀out st',Kp st st'→Fin L a b out→Q out st'):wpS (model prog w) A E s (mHi a b) Q st:=by
  have atA:∀i,i < a.size→∃x,a[i]? = some x∧U x:=fun i hi=>⟨a[i],Array.getElem?_eq_getElem hi,ua _ (by simp)⟩
  have atB:∀i,i < b.size→∃x,b[i]? = some x∧U x:=fun i hi=>⟨b[i],Array.getElem?_eq_getElem hi,ub _ (by simp)⟩
  refine wpS_bind (r_rule ?_)
  dsimp only
  obtain ⟨x0,e0,_⟩:=atA (a.size - 1) (by omega)
  refine wpS_bind (r_elem e0 ?_)
  have I0:Hi L a b #[x0] (a.size - 1) b.size:=by
    have z:Hi L a b #[] a.size b.size:=⟨by simp,List.Pairwise.nil,fun x hx y hy=>by simp at hy,fun x hx y hy=>by simp at hy⟩
    exact Hi.pushA Sa z a1 e0 fun y hy=>h1 y (List.mem_of_mem_take hy) x0 e0
  by_cases d1:(a.size - 1 == 0)=true
  · rw [if_pos d1]
    exact wpS_pure (h _ st (Kp.refl _) (I0.done Sa Sb (.inl (by simpa using d1))))
  rw [if_neg d1]
  by_cases d2:(b.size == 1)=true
  · rw [if_pos d2]
    exact wpS_pure (h _ st (Kp.refl _) (I0.first Sa Sb h0 (by simpa using d2)))
  rw [if_neg d2]
  have d1':a.size - 1≠0:=by simpa using d1
  have d2':b.size≠1:=by simpa using d2
  refine wpS_bind (wpS_get ?_)
  refine wpS_bind (wpS_mono (wpS_forRange (I:=fun i c st'=>∃na nb out mg,c=(none,na,nb,out,mg)∧Kp st st'∧Hi L a b out na nb∧1≤na∧na < a.size∧2≤nb∧nb≤b.size∧i + 1≤(a.size - na) + (b.size - nb))
    (Q:=fun c st'=>∃r z,c=(some r,z)∧Kp st st'∧Fin L a b r) ?step ?fin ⟨_,_,_,_,rfl,Kp.refl _,I0,by omega,by omega,by omega,by omega,by omega⟩) ?post)
  case fin=>
    rintro c st' ⟨na,nb,out,mg,rfl,_,_,p1,p2,p3,p4,p5⟩
    omega
  case post=>
    rintro c st' ⟨r,z,rfl,K,F⟩
    exact wpS_pure (h r st' K F)
  case step=>
    rintro i c st1 _ hi ⟨na,nb,out,mg,rfl,K1,I1,p1,p2,p3,p4,p5⟩
    dsimp only
    refine wpS_bind (wpS_mono (wpS_forRange (I:=fun j c st'=>∃na' nb' out ac bc,c=(none,na',nb',out,ac,bc)∧st' = st1∧Hi L a b out na' nb'∧1≤na'∧na' < a.size∧2≤nb'∧nb'≤b.size∧(a.size - na) + (b.size - nb) + j≤(a.size - na') + (b.size - nb'))
      (Q:=fun c st'=>st' = st1∧((∃r z,c=(some r,z)∧Fin L a b r)∨∃na' nb' out ac bc,c=(none,na',nb',out,ac,bc)∧Hi L a b out na' nb'∧1≤na'∧na' < a.size∧2≤nb'∧nb'≤b.size∧(a.size - na) + (b.size - nb) + 1≤(a.size - na') + (b.size - nb'))) ?step1 ?fin1 ⟨na,nb,out,0,0,rfl,rfl,I1,p1,p2,p3,p4,by omega⟩) ?post1)
    case fin1=>
      rintro c st' ⟨na',nb',out,ac,bc,rfl,rfl,I,q1,q2,q3,q4,q5⟩
      exact ⟨rfl,.inr ⟨na',nb',out,ac,bc,rfl,I,q1,q2,q3,q4,by omega⟩⟩
    case step1=>
      rintro j c st' _ hj ⟨na',nb',out,ac,bc,rfl,rfl,I,q1,q2,q3,q4,q5⟩
      dsimp only
      obtain ⟨xa,ea,uxa⟩:=atA (na' - 1) (by omega)
      obtain ⟨xb,eb,uxb⟩:=atB (nb' - 1) (by omega)
      refine wpS_bind (r_elem eb (wpS_bind (r_elem ea (wpS_bind (r_lt H (K1.kind.trans hk) uxb uxa ?_)))))
      cases c:L xb xa with
      | true=>
        have J:=Hi.pushA Sa I q1 ea (dn O Sb eb (Le.of_lt O c))
        refine wpS_bind (r_elem ea ?_)
        by_cases d:(na' - 1 == 0)=true
        · rw [if_pos d]
          exact wpS_pure ⟨rfl,.inl ⟨_,_,rfl,J.done Sa Sb (.inl (by simpa using d))⟩⟩
        · rw [if_neg d]
          have d':na' - 1≠0:=by simpa using d
          split
          · exact wpS_pure ⟨rfl,.inr ⟨_,_,_,_,_,rfl,J,by omega,by omega,q3,q4,by omega⟩⟩
          · exact wpS_pure ⟨_,_,_,_,_,rfl,rfl,J,by omega,by omega,q3,q4,by omega⟩
      | false=>
        have J:=Hi.pushB Sb I (by omega) eb (dn O Sa ea c)
        refine wpS_bind (r_elem eb ?_)
        by_cases d:(nb' - 1 == 1)=true
        · rw [if_pos d]
          exact wpS_pure ⟨rfl,.inl ⟨_,_,rfl,J.first Sa Sb h0 (by simpa using d)⟩⟩
        · rw [if_neg d]
          have d':nb' - 1≠1:=by simpa using d
          split
          · exact wpS_pure ⟨rfl,.inr ⟨_,_,_,_,_,rfl,J,q1,q2,by omega,by omega,by omega⟩⟩
          · exact wpS_pure ⟨_,_,_,_,_,rfl,rfl,J,q1,q2,by omega,by omega,by omega⟩
    case post1=>
      rintro c st' ⟨rfl,⟨r,⟨z1,z2,z3,z4,z5⟩,rfl,F⟩ | ⟨na',nb',out,ac,bc,rfl,I2,q1,q2,q3,q4,q5⟩⟩
      · exact wpS_pure ⟨r,_,rfl,K1,F⟩
      · dsimp only
        refine wpS_bind (r_rule ?_)
        refine wpS_bind (wpS_mono (wpS_forRange (I:=fun j c st'=>∃ma mb out mg ac bc,c=(none,ma,mb,out,mg,ac,bc)∧Kp st st'∧Hi L a b out ma mb∧1≤ma∧ma≤na'∧2≤mb∧mb≤nb')
          (Q:=fun c st'=>Kp st st'∧((∃r z,c=(some r,z)∧Fin L a b r)∨∃ma mb out mg ac bc,c=(none,ma,mb,out,mg,ac,bc)∧Hi L a b out ma mb∧1≤ma∧ma≤na'∧2≤mb∧mb≤nb')) ?step2 ?fin2 ⟨na',nb',out,_,ac,bc,rfl,K1,I2,q1,Nat.le_refl _,q3,Nat.le_refl _⟩) ?post2)
        case fin2=>
          rintro c st' ⟨ma,mb,out,mg,ac,bc,rfl,K,I,r1,r2,r3,r4⟩
          exact ⟨K,.inr ⟨ma,mb,out,mg,ac,bc,rfl,I,r1,r2,r3,r4⟩⟩
        case post2=>
          rintro c st' ⟨K,⟨r,⟨z1,z2,z3,z4,z5,z6⟩,rfl,F⟩ | ⟨ma,mb,out,mg,ac,bc,rfl,I,r1,r2,r3,r4⟩⟩
          · exact wpS_pure ⟨r,_,rfl,K,F⟩
          · dsimp only
            exact wpS_bind (wpS_modify (wpS_pure ⟨ma,mb,out,_,rfl,⟨K.kind,K.arr,K.pend,K.failed⟩,I,r1,by omega,r3,by omega,by omega⟩))
        case step2=>
          rintro j c st' _ hj ⟨ma,mb,out,mg,ac,bc,rfl,K,I,r1,r2,r3,r4⟩
          dsimp only
          obtain ⟨xb,eb,uxb⟩:=atB (mb - 1) (by omega)
          by_cases cg:mg > 1
          case' pos=>rw [if_pos cg]
          case' neg=>rw [if_neg cg]
          all_goals
            refine wpS_bind (wpS_modify (wpS_bind (r_elem eb ?_)))
            refine wpS_bind (r_right O H (K.kind.trans hk) uxb ua (by omega) (sub_inc O Sa) (by omega) fun t k1 k2 k3=>?_)
            dsimp only
            have dn_b:∀y∈b.toList.take mb,Le L y xb:=dn O Sb eb (irr O xb)
            by_cases ck:ma - t > 0
            case' pos=>
              rw [if_pos ck]
              have J:=Hi.chunkA Sa I t k1 fun i x hi1 hi2 ex y hy=>(dn_b y hy).trans O (Le.of_lt O (k3 i x hi1 hi2 (by rw [z_]; exact ex)))
              by_cases d:(t == 0)=true
              · rw [if_pos d]
                exact wpS_pure ⟨⟨K.kind,K.arr,K.pend,K.failed⟩,.inl ⟨_,_,rfl,J.done Sa Sb (.inl (by simpa using d))⟩⟩
              rw [if_neg d]
              have f2:1≤t:=by
                have d':t≠0:=by simpa using d
                omega
              have g2:∀x∈a.toList.take t,Le L x xb:=fun x hx=>by
                obtain ⟨i,hi,ei⟩:=mem_take hx
                exact k2 i x hi (by rw [z_,←get_l]; exact ei)
              have r2':t≤na':=by omega
              clear d k2 k3 k1
              generalize out++(a.extract t ma).reverse=out2 at J ⊢
              generalize t=ma2 at J f2 g2 r2' ⊢
            case' neg=>
              rw [if_neg ck]
              have J:=I
              have f2:=r1
              have g2:∀x∈a.toList.take ma,Le L x xb:=fun x hx=>by
                obtain ⟨i,hi,ei⟩:=mem_take hx
                exact k2 i x (by omega) (by rw [z_,←get_l]; exact ei)
              have r2':=r2
              clear k2 k3 k1
              generalize out=out2 at J ⊢
              generalize ma=ma2 at J f2 g2 r2' ⊢
            all_goals
              refine wpS_bind (r_elem eb ?_)
              have J2:=Hi.pushB Sb J (by omega) eb g2
              clear J g2
              by_cases d:(mb - 1 == 1)=true
              · rw [if_pos d]
                exact wpS_pure ⟨⟨K.kind,K.arr,K.pend,K.failed⟩,.inl ⟨_,_,rfl,J2.first Sa Sb h0 (by simpa using d)⟩⟩
              rw [if_neg d]
              have d':mb - 1≠1:=by simpa using d
              obtain ⟨xa,ea,uxa⟩:=atA (ma2 - 1) (by omega)
              refine wpS_bind (r_elem ea ?_)
              refine wpS_bind (r_left O H (K.kind.trans hk) uxa ub (by omega) (sub_inc O Sb) (by omega) fun m m1 m2 m3=>?_)
              dsimp only
              have dn_a:∀y∈a.toList.take ma2,Le L y xa:=dn O Sa ea (irr O xa)
              generalize out2.push xb=out3 at J2 ⊢
              by_cases cm:mb - 1 - m > 0
              case' pos=>
                rw [if_pos cm]
                have J3:=Hi.chunkB Sb J2 m m1 fun i y hi1 hi2 ey x hx=>(dn_a x hx).trans O (m3 i y hi1 hi2 (by rw [z_]; exact ey))
                by_cases d:(m == 1)=true
                · rw [if_pos d]
                  exact wpS_pure ⟨⟨K.kind,K.arr,K.pend,K.failed⟩,.inl ⟨_,_,rfl,J3.first Sa Sb h0 (by simpa using d)⟩⟩
                rw [if_neg d]
                by_cases e:(m == 0)=true
                · rw [if_pos e]
                  exact wpS_pure ⟨⟨K.kind,K.arr,K.pend,K.failed⟩,.inl ⟨_,_,rfl,J3.done Sa Sb (.inr (by simpa using e))⟩⟩
                rw [if_neg e]
                have f3:2≤m:=by
                  have d':m≠1:=by simpa using d
                  have e':m≠0:=by simpa using e
                  omega
                have g3:∀y∈b.toList.take m,Le L y xa:=fun y hy=>by
                  obtain ⟨i,hi,ei⟩:=mem_take hy
                  exact Le.of_lt O (m2 i y hi (by rw [z_,←get_l]; exact ei))
                have r4':m≤nb':=by omega
                clear d e m2 m3 m1
                generalize out3++(b.extract m (mb - 1)).reverse=out4 at J3 ⊢
                generalize m=mb2 at J3 f3 g3 r4' ⊢
              case' neg=>
                rw [if_neg cm]
                have J3:=J2
                have f3:2≤mb - 1:=by omega
                have g3:∀y∈b.toList.take (mb - 1),Le L y xa:=fun y hy=>by
                  obtain ⟨i,hi,ei⟩:=mem_take hy
                  exact Le.of_lt O (m2 i y (by omega) (by rw [z_,←get_l]; exact ei))
                have r4':mb - 1≤nb':=by omega
                clear m2 m3 m1
                generalize out3=out4 at J3 ⊢
                generalize mb - 1=mb2 at J3 f3 g3 r4' ⊢
              all_goals
                refine wpS_bind (r_elem ea ?_)
                have J4:=Hi.pushA Sa J3 f2 ea g3
                by_cases d:(ma2 - 1 == 0)=true
                · rw [if_pos d]
                  exact wpS_pure ⟨⟨K.kind,K.arr,K.pend,K.failed⟩,.inl ⟨_,_,rfl,J4.done Sa Sb (.inl (by simpa using d))⟩⟩
                rw [if_neg d]
                have d':ma2 - 1≠0:=by simpa using d
                split
                · exact wpS_pure ⟨⟨K.kind,K.arr,K.pend,K.failed⟩,.inr ⟨_,_,_,_,_,_,rfl,J4,by omega,by omega,f3,by omega⟩⟩
                · exact wpS_pure ⟨_,_,_,_,_,_,rfl,⟨K.kind,K.arr,K.pend,K.failed⟩,J4,by omega,by omega,f3,by omega⟩
end
end SR
end L2
namespace L2
open PySem PySem.W PyProof.Rows
namespace SR
section
variable {L:Keyed→Keyed→Bool}
theorem put_list:∀(l:List Keyed) (k sa:Nat) (xs:Array Keyed),sa + k + l.length≤xs.size→((l.zipIdx k).foldl (fun a (q:Keyed × Nat)=>a.setIfInBounds (sa + q.2) q.1) xs).toList=xs.toList.take (sa + k)++l++xs.toList.drop (sa + k + l.length)
  | [],k,sa,xs,h=>by simp
  | x :: l,k,sa,xs,h=>by
    rw [List.length_cons] at h
    rw [List.zipIdx_cons,List.foldl_cons,put_list l (k + 1) sa _ (by rw [Array.size_setIfInBounds]; omega),Array.toList_setIfInBounds]
    have e1:(xs.toList.set (sa + k) x).take (sa + (k + 1))=xs.toList.take (sa + k)++[x]:=by
      rw [←Nat.add_assoc,List.take_add_one,List.take_set_of_le (Nat.le_refl _),List.getElem?_set_self (by rw [Array.length_toList]; omega)]
      rfl
    have e2:(xs.toList.set (sa + k) x).drop (sa + (k + 1) + l.length)=xs.toList.drop (sa + k + (x :: l).length):=by
      rw [List.drop_set_of_lt (by omega),List.length_cons]
      congr 1
      omega
    rw [e1,e2,List.append_assoc,List.append_assoc,List.append_assoc]
    rfl
theorem join_inc (O:TO L) {ra rb mg:List Keyed} {k n:Nat} {y0 xl:Keyed} (Sa:Inc L ra) (Sb:Inc L rb) (hy:rb[0]? = some y0) (hx:ra[ra.length - 1]? = some xl)
    (c1:∀x∈ra.take k,Le L x y0) (c2:∀y∈rb.drop n,Le L xl y) (hp:mg.Perm (ra.drop k++rb.take n)) (hi:Inc L mg):(ra.take k++mg++rb.drop n).Perm (ra++rb)∧Inc L (ra.take k++mg++rb.drop n):=by
  have y_le:∀y∈rb,Le L y0 y:=fun y h=>by
    obtain ⟨j,hj⟩:=List.mem_iff_getElem?.mp h
    exact Sb.le' O hy hj (Nat.zero_le _)
  have le_x:∀x∈ra,Le L x xl:=fun x h=>by
    obtain ⟨j,hj⟩:=List.mem_iff_getElem?.mp h
    have:=(List.getElem?_eq_some_iff.mp hj).1
    exact Sa.le' O hj hx (by omega)
  have sa:=List.pairwise_append.mp (show Inc L (ra.take k++ra.drop k) by rw [List.take_append_drop]; exact Sa)
  have sb:=List.pairwise_append.mp (show Inc L (rb.take n++rb.drop n) by rw [List.take_append_drop]; exact Sb)
  refine ⟨?_,List.pairwise_append.mpr ⟨List.pairwise_append.mpr ⟨sa.1,hi,fun x hx' y hy'=>?_⟩,sb.2.1,fun x hx' y hy'=>?_⟩⟩
  · refine ((hp.append_left _).append_right _).trans ?_
    conv=>rhs; rw [←List.take_append_drop k ra,←List.take_append_drop n rb]
    simp only [List.append_assoc]
    exact List.Perm.refl _
  · rcases List.mem_append.mp (hp.mem_iff.mp hy') with z | z
    · exact sa.2.2 x hx' y z
    · exact (c1 x hx').trans O (y_le y (List.mem_of_mem_take z))
  · rcases List.mem_append.mp hx' with z | z
    · exact (le_x x (List.mem_of_mem_take z)).trans O (c2 y hy')
    · rcases List.mem_append.mp (hp.mem_iff.mp z) with z | z
      · exact (le_x x (List.mem_of_mem_drop z)).trans O (c2 y hy')
      · exact sb.2.2 x z y hy'
end
section
variable {prog:Program} {w:World} {A:Around} {E:Value→Shared→Prop} {s:Shared} {κ:SortKind} {U:Keyed→Prop} {L:Keyed→Keyed→Bool}
theorem r_set {st1 st:SortSt} {Q:PUnit→SortSt→Prop} (h:Q ⟨⟩ st1):wpS (model prog w) A E s (set st1:StateT SortSt Sem PUnit) Q st:=by
  unfold wpS
  rw [StateT.run_set]
  exact wpAny_pure ⟨rfl,h⟩
theorem pend_join {p:Array (Nat × Nat × Nat)} {u v z:Nat × Nat × Nat} {ps1 ps2:List (Nat × Nat × Nat)} {i:Nat} (hp:p.toList=ps1++u :: v :: ps2) (hi:i=ps1.length):((p.setIfInBounds i z).eraseIdxIfInBounds (i + 1)).toList=ps1++z :: ps2:=by
  have hs:p.size=ps1.length + (ps2.length + 2):=by rw [←Array.length_toList,hp]; simp
  unfold Array.eraseIdxIfInBounds
  rw [dif_pos (by rw [Array.size_setIfInBounds]; omega),Array.toList_eraseIdx,Array.toList_setIfInBounds,hp,hi,List.set_append_right _ _ (Nat.le_refl _),Nat.sub_self,List.set_cons_zero,List.eraseIdx_append_of_length_le (by omega),Nat.add_sub_cancel_left]
  rfl
theorem r_mergeAt (O:TO L) (H:Asked prog w A s κ U L) {i sa na pw sb nb pz:Nat} {ps1 ps2:List (Nat × Nat × Nat)} {P ra rb S:List Keyed} {Q:Bool→SortSt→Prop} {st:SortSt} (hk:kindOf st=κ) (hf:failedOf st=none)
    (hp:(pendingOf st).toList=ps1++(sa,na,pw) :: (sb,nb,pz) :: ps2) (hi:i=ps1.length) (ha:(arrOf st).toList=P++ra++rb++S) (ua:∀x∈(arrOf st).toList,U x)
    (e1:sa=P.length) (e2:na=ra.length) (e3:sb=P.length + ra.length) (e4:nb=rb.length) (a1:1≤ra.length) (b1:1≤rb.length) (Sa:Inc L ra) (Sb:Inc L rb)
    (h:∀(m:List Keyed) (st':SortSt),kindOf st' = κ→failedOf st' = none→(pendingOf st').toList=ps1++(sa,na + nb,pw) :: ps2→(arrOf st').toList=P++m++S→m.Perm (ra++rb)→Inc L m→Q true st'):wpS (model prog w) A E s (mergeAt' i) Q st:=by
  refine wpS_bind (wpS_get ?_)
  have p1:(pendingOf st)[i]? = some (sa,na,pw):=by rw [←Array.getElem?_toList,hp,hi,List.getElem?_append_right (Nat.le_refl _),Nat.sub_self]; rfl
  have p2:(pendingOf st)[i + 1]? = some (sb,nb,pz):=by rw [←Array.getElem?_toList,hp,hi,List.getElem?_append_right (by omega),Nat.add_sub_cancel_left]; rfl
  have hl:(arrOf st).size=P.length + ra.length + rb.length + S.length:=by rw [←Array.length_toList,ha]; simp [Nat.add_assoc]
  have gA:∀j,j < ra.length→(arrOf st)[sa + j]? = ra[j]?:=fun j hj=>by
    rw [←Array.getElem?_toList,ha,List.append_assoc,List.append_assoc,e1,List.getElem?_append_right (by omega),Nat.add_sub_cancel_left,List.getElem?_append_left hj]
  have gB:∀j,j < rb.length→(arrOf st)[sb + j]? = rb[j]?:=fun j hj=>by
    rw [←Array.getElem?_toList,ha,List.append_assoc,e3,List.getElem?_append_right (by rw [List.length_append]; omega),List.length_append,Nat.add_sub_cancel_left,List.getElem?_append_left hj]
  have leA:sa + na≤(arrOf st).size:=by omega
  have leB:sb + nb≤(arrOf st).size:=by omega
  have uA:∀x∈ra,U x:=fun x hx=>ua x (by rw [ha]; simp [hx])
  have uB:∀x∈rb,U x:=fun x hx=>ua x (by rw [ha]; simp [hx])
  obtain ⟨y0,ey⟩:∃y,rb[0]? = some y:=⟨_,List.getElem?_eq_getElem (by omega)⟩
  obtain ⟨xl,ex⟩:∃x,ra[ra.length - 1]? = some x:=⟨_,List.getElem?_eq_getElem (by omega)⟩
  dsimp only
  rw [p1,p2]
  dsimp only
  refine wpS_bind (r_set ?_)
  refine wpS_bind (r_elem (x:=y0) (by rw [←ey,←gB 0 (by omega)]; rfl) ?_)
  have incA:∀i j x y,i≤j→j < na→(arrOf st)[sa + i]? = some x→(arrOf st)[sa + j]? = some y→Le L x y:=fun i j x y hij hj hx hy=>by
    rw [gA i (by omega)] at hx
    rw [gA j (by omega)] at hy
    exact Sa.le' O hx hy hij
  have incB:∀i j x y,i≤j→j < nb→(arrOf st)[sb + i]? = some x→(arrOf st)[sb + j]? = some y→Le L x y:=fun i j x y hij hj hx hy=>by
    rw [gB i (by omega)] at hx
    rw [gB j (by omega)] at hy
    exact Sb.le' O hx hy hij
  refine wpS_bind (r_right O H hk (uB y0 (List.mem_of_getElem? ey)) ua leA incA (by omega) fun k k1 k2 k3=>?_)
  have c1:∀x∈ra.take k,Le L x y0:=fun x hx=>by
    obtain ⟨j,hj,ej⟩:=mem_take hx
    exact k2 j x hj (by rw [gA j (by omega)]; exact ej)
  have d1:∀x∈ra.drop k,Le L y0 x:=fun x hx=>by
    obtain ⟨j,hj,ej⟩:=mem_drop hx
    have:=(List.getElem?_eq_some_iff.mp ej).1
    exact Le.of_lt O (k3 j x hj (by omega) (by rw [gA j (by omega)]; exact ej))
  dsimp only
  have pj:=pend_join (z:=(sa,na + nb,pw)) hp hi
  by_cases c0:(na - k == 0)=true
  · rw [if_pos c0]
    have c0':na - k=0:=by simpa using c0
    have ek:ra.take k=ra:=List.take_of_length_le (by omega)
    obtain ⟨q1,q2⟩:=join_inc O (mg:=rb) (k:=k) (n:=rb.length) Sa Sb ey ex c1 (fun y hy=>by rw [List.drop_eq_nil_of_le (Nat.le_refl _)] at hy; cases hy) (by rw [List.drop_eq_nil_of_le (i:=k) (by omega),List.take_of_length_le (Nat.le_refl _)]; exact List.Perm.refl _) Sb
    rw [ek,List.drop_eq_nil_of_le (Nat.le_refl _),List.append_nil] at q1 q2
    exact wpS_pure (h (ra++rb) _ hk hf pj (by show (arrOf st).toList=_; rw [ha]; simp only [List.append_assoc]) q1 q2)
  rw [if_neg c0]
  have c0':na - k≠0:=by simpa using c0
  refine wpS_bind (r_elem (x:=xl) (by rw [←ex,←gA _ (by omega)]; congr 1; omega) ?_)
  refine wpS_bind (r_left O H hk (uA xl (List.mem_of_getElem? ex)) ua leB incB (by omega) fun n n1 n2 n3=>?_)
  have c2:∀y∈rb.drop n,Le L xl y:=fun y hy=>by
    obtain ⟨j,hj,ej⟩:=mem_drop hy
    have:=(List.getElem?_eq_some_iff.mp ej).1
    exact n3 j y hj (by omega) (by rw [gB j (by omega)]; exact ej)
  have d2:∀y∈rb.take n,Le L y xl:=fun y hy=>by
    obtain ⟨j,hj,ej⟩:=mem_take hy
    exact Le.of_lt O (n2 j y hj (by rw [gB j (by omega)]; exact ej))
  dsimp only
  by_cases c3:(n == 0)=true
  · rw [if_pos c3]
    have c3':n=0:=by simpa using c3
    subst c3'
    obtain ⟨q1,q2⟩:=join_inc O (mg:=ra.drop k) (k:=k) (n:=0) Sa Sb ey ex c1 c2 (by simp) (List.Pairwise.sublist (List.drop_sublist ..) Sa)
    rw [List.take_append_drop,List.drop_zero] at q1 q2
    exact wpS_pure (h (ra++rb) _ hk hf pj (by show (arrOf st).toList=_; rw [ha]; simp only [List.append_assoc]) q1 q2)
  rw [if_neg c3]
  have c3':n≠0:=by simpa using c3
  have xA:((arrOf st).extract (sa + k) sb).toList=ra.drop k:=by
    rw [ex_toList,ha,List.append_assoc,List.append_assoc,e1,←List.drop_drop,List.drop_left,List.drop_append_of_le_length (by omega),e3,show P.length + ra.length - (P.length + k)=(ra.drop k).length by rw [List.length_drop]; omega,List.take_left]
  have xB:((arrOf st).extract sb (sb + n)).toList=rb.take n:=by
    rw [ex_toList,ha,List.append_assoc,e3,show P.length + ra.length=(P++ra).length by rw [List.length_append],List.drop_left,Nat.add_sub_cancel_left,List.take_append_of_le_length (by omega)]
  have zA:((arrOf st).extract (sa + k) sb).size=ra.length - k:=by rw [←Array.length_toList,xA,List.length_drop]
  have zB:((arrOf st).extract sb (sb + n)).size=n:=by rw [←Array.length_toList,xB,List.length_take]; omega
  have key:∀(mg:Array Keyed) (st':SortSt),Kp (SortSt.mk' (kindOf st) (arrOf st) (((pendingOf st).setIfInBounds i (sa,na + nb,pw)).eraseIdxIfInBounds (i + 1)) (gallopOf st) (failedOf st)) st'→
      Fin L ((arrOf st).extract (sa + k) sb) ((arrOf st).extract sb (sb + n)) mg→
      Q true (SortSt.mk' (kindOf st') (List.foldl (fun a (x:Keyed × Nat)=>a.setIfInBounds (sa + k + x.2) x.1) (arrOf st') mg.toList.zipIdx) (pendingOf st') (gallopOf st') (failedOf st')):=fun mg st' K F=>by
    obtain ⟨f1,f2⟩:=F
    rw [xA,xB] at f1
    obtain ⟨q1,q2⟩:=join_inc O (mg:=mg.toList) (k:=k) (n:=n) Sa Sb ey ex c1 c2 f1 f2
    have lm:mg.toList.length=ra.length - k + n:=by rw [f1.length_eq,List.length_append,List.length_drop,List.length_take]; omega
    refine h _ _ (K.kind.trans hk) (K.failed.trans hf) (by show (pendingOf st').toList=_; rw [K.pend]; exact pj) ?_ q1 q2
    show (List.foldl (fun a (x:Keyed × Nat)=>a.setIfInBounds (sa + k + x.2) x.1) (arrOf st') mg.toList.zipIdx).toList=_
    rw [K.arr]
    show (List.foldl (fun a (x:Keyed × Nat)=>a.setIfInBounds (sa + k + x.2) x.1) (arrOf st) (mg.toList.zipIdx 0)).toList=_
    rw [put_list mg.toList 0 (sa + k) (arrOf st) (by omega),Nat.add_zero,lm,ha]
    have t1:(P++ra++rb++S).take (sa + k)=P++ra.take k:=by
      rw [List.append_assoc,List.append_assoc,e1,List.take_length_add_append,List.take_append_of_le_length (by omega)]
    have t2:(P++ra++rb++S).drop (sa + k + (ra.length - k + n))=rb.drop n++S:=by
      rw [show sa + k + (ra.length - k + n)=(P++ra).length + n by rw [List.length_append]; omega,List.append_assoc,←List.drop_drop,List.drop_left,List.drop_append_of_le_length (by omega)]
    rw [t1,t2]
    simp only [List.append_assoc]
  have h0:∀x∈((arrOf st).extract (sa + k) sb).toList,∀y,((arrOf st).extract sb (sb + n))[0]? = some y→Le L y x:=fun x hx y hy=>by
    rw [xA] at hx
    rw [←get_l,xB,List.getElem?_take,if_pos (by omega),ey] at hy
    cases hy
    exact d1 x hx
  have h1:∀y∈((arrOf st).extract sb (sb + n)).toList,∀x,((arrOf st).extract (sa + k) sb)[((arrOf st).extract (sa + k) sb).size - 1]? = some x→Le L y x:=fun y hy x hx=>by
    rw [xB] at hy
    rw [←get_l,xA,zA,List.getElem?_drop,show k + (ra.length - k - 1)=ra.length - 1 by omega,ex] at hx
    cases hx
    exact d2 y hy
  have uX:∀x∈((arrOf st).extract (sa + k) sb).toList,U x:=fun x hx=>by rw [xA] at hx; exact uA x (List.mem_of_mem_drop hx)
  have uY:∀x∈((arrOf st).extract sb (sb + n)).toList,U x:=fun x hx=>by rw [xB] at hx; exact uB x (List.mem_of_mem_take hx)
  have sX:Inc L ((arrOf st).extract (sa + k) sb).toList:=by rw [xA]; exact List.Pairwise.sublist (List.drop_sublist ..) Sa
  have sY:Inc L ((arrOf st).extract sb (sb + n)).toList:=by rw [xB]; exact List.Pairwise.sublist (List.take_sublist ..) Sb
  have s1:1≤((arrOf st).extract (sa + k) sb).size:=by omega
  have s2:1≤((arrOf st).extract sb (sb + n)).size:=by omega
  by_cases c4:na - k≤n
  · rw [if_pos c4]
    refine wpS_bind (r_mLo O H hk uX uY sX sY s1 s2 h0 h1 fun out st' K F=>?_)
    refine wpS_bind (wpS_modify (wpS_bind (wpS_get ?_)))
    have e:(failedOf st').isNone=true:=by rw [show failedOf st' = none from K.failed.trans hf]; rfl
    refine wpS_pure (?_:Q (failedOf st').isNone _)
    rw [e]
    exact key out st' K F
  · rw [if_neg c4]
    refine wpS_bind (r_mHi O H hk uX uY sX sY s1 s2 h0 h1 fun out st' K F=>?_)
    refine wpS_bind (wpS_modify (wpS_bind (wpS_get ?_)))
    have e:(failedOf st').isNone=true:=by rw [show failedOf st' = none from K.failed.trans hf]; rfl
    refine wpS_pure (?_:Q (failedOf st').isNone _)
    rw [e]
    exact key out st' K F
end
end SR
end L2
namespace L2
open PySem PySem.W PyProof.Rows
namespace SR
section
variable {L:Keyed→Keyed→Bool} {xs:Array Keyed} {lo n q:Nat}
def at_ (xs:Array Keyed) (k:Nat):Keyed:=(xs[k]?).getD (Value.none,Value.none)
theorem at_some {k:Nat} (h:k < xs.size):xs[k]? = some (at_ xs k):=by
  unfold at_
  rw [Array.getElem?_eq_getElem h]
  rfl
theorem at_mir {i j:Nat} (hj:j≤xs.size) (k:Nat):at_ (mirror xs i j ((j - i) / 2)) k=if i≤k∧k < j then at_ xs (i + j - 1 - k) else at_ xs k:=by
  unfold at_
  rw [getElem?_mirror_all hj]
  split <;> rfl
theorem at_bub {src d:Nat} (hs:src < xs.size) (hd:d≤src) (k:Nat):at_ (bubble xs src d) k=if k=src - d then at_ xs src else if src - d < k∧k≤src then at_ xs (k - 1) else at_ xs k:=by
  unfold at_
  rw [getElem?_bubble hs d hd]
  split
  · rfl
  · split <;> rfl
def Up (L:Keyed→Keyed→Bool) (xs:Array Keyed) (lo n:Nat):Prop:=∀i j,i < j→j < n→Le L (at_ xs (lo + i)) (at_ xs (lo + j))
def Dn (L:Keyed→Keyed→Bool) (xs:Array Keyed) (lo n:Nat):Prop:=∀i j,i < j→j < n→Le L (at_ xs (lo + j)) (at_ xs (lo + i))
theorem Up.more (O:TO L) (h:Up L xs lo n) (h1:1≤n) (g:Le L (at_ xs (lo + n - 1)) (at_ xs (lo + n))):Up L xs lo (n + 1):=fun i j hij hj=>by
  by_cases c:j < n
  · exact h i j hij c
  · have e:j=n:=by omega
    subst e
    by_cases d:i=j - 1
    · rw [d,show lo + (j - 1)=lo + j - 1 by omega]; exact g
    · have:=h i (j - 1) (by omega) (by omega)
      rw [show lo + (j - 1)=lo + j - 1 by omega] at this
      exact this.trans O g
theorem Dn.more (O:TO L) (h:Dn L xs lo n) (h1:1≤n) (g:Le L (at_ xs (lo + n)) (at_ xs (lo + n - 1))):Dn L xs lo (n + 1):=fun i j hij hj=>by
  by_cases c:j < n
  · exact h i j hij c
  · have e:j=n:=by omega
    subst e
    by_cases d:i=j - 1
    · rw [d,show lo + (j - 1)=lo + j - 1 by omega]; exact g
    · have:=h i (j - 1) (by omega) (by omega)
      rw [show lo + (j - 1)=lo + j - 1 by omega] at this
      exact g.trans O this
structure DI (L:Keyed→Keyed→Bool) (xs:Array Keyed) (lo n q:Nat):Prop where
  q1:q + 1≤n
  dn:Dn L xs lo n
  eq:∀i j,n - (q + 1)≤i→i < n→n - (q + 1)≤j→j < n→Le L (at_ xs (lo + i)) (at_ xs (lo + j))
theorem DI.one (O:TO L) (h1:1≤n) (h:Dn L xs lo n):DI L xs lo n 0:=⟨by omega,h,fun i j a b c d=>by
  have:i=j:=by omega
  rw [this]; exact irr O _⟩
theorem DI.rev (O:TO L) (D:DI L xs lo n q) (hs:lo + n≤xs.size):Dn L (mirror xs (lo + n - (q + 1)) (lo + n) ((lo + n - (lo + n - (q + 1))) / 2)) lo n∧Le L (at_ xs (lo + n - 1)) (at_ (mirror xs (lo + n - (q + 1)) (lo + n) ((lo + n - (lo + n - (q + 1))) / 2)) (lo + n - 1)):=by
  have q1:=D.q1
  have inn:∀i,n - (q + 1)≤i→i < n→∃i',n - (q + 1)≤i'∧i' < n∧at_ (mirror xs (lo + n - (q + 1)) (lo + n) ((lo + n - (lo + n - (q + 1))) / 2)) (lo + i)=at_ xs (lo + i'):=fun i h1 h2=>⟨n - (q + 1) + n - 1 - i,by omega,by omega,by rw [at_mir hs,if_pos (by omega)]; congr 1; omega⟩
  have out:∀i,i < n - (q + 1)→at_ (mirror xs (lo + n - (q + 1)) (lo + n) ((lo + n - (lo + n - (q + 1))) / 2)) (lo + i)=at_ xs (lo + i):=fun i h=>by rw [at_mir hs,if_neg (by omega)]
  refine ⟨fun i j hij hj=>?_,?_⟩
  · by_cases cj:j < n - (q + 1)
    · rw [out i (by omega),out j cj]
      exact D.dn i j hij hj
    · obtain ⟨j',j1,j2,ej⟩:=inn j (by omega) hj
      rw [ej]
      by_cases ci:i < n - (q + 1)
      · rw [out i ci]
        exact D.dn i j' (by omega) j2
      · obtain ⟨i',i1,i2,ei⟩:=inn i (by omega) (by omega)
        rw [ei]
        exact D.eq j' i' j1 j2 i1 i2
  · obtain ⟨i',i1,i2,ei⟩:=inn (n - 1) (by omega) (by omega)
    rw [show lo + n - 1=lo + (n - 1) by omega,ei]
    exact D.eq (n - 1) i' (by omega) (by omega) i1 i2
theorem Dn.turn (D:Dn L xs lo n) (hs:lo + n≤xs.size):Up L (mirror xs lo (lo + n) ((lo + n - lo) / 2)) lo n:=fun i j hij hj=>by
  rw [at_mir hs,at_mir hs,if_pos (by omega),if_pos (by omega)]
  have:=D (n - 1 - j) (n - 1 - i) (by omega) (by omega)
  rw [show lo + (n - 1 - j)=lo + (lo + n) - 1 - (lo + j) by omega,show lo + (n - 1 - i)=lo + (lo + n) - 1 - (lo + i) by omega] at this
  exact this
theorem Up.same (O:TO L) (h:Up L xs lo n) (h1:1≤n) (g:Le L (at_ xs (lo + n - 1)) (at_ xs lo)):∀i j,i < n→j < n→Le L (at_ xs (lo + i)) (at_ xs (lo + j)):=fun i j hi hj=>by
  have top:Le L (at_ xs (lo + i)) (at_ xs (lo + n - 1)):=by
    by_cases c:i=n - 1
    · rw [c,show lo + (n - 1)=lo + n - 1 by omega]; exact irr O _
    · have:=h i (n - 1) (by omega) (by omega)
      rwa [show lo + (n - 1)=lo + n - 1 by omega] at this
  have low:Le L (at_ xs lo) (at_ xs (lo + j)):=by
    by_cases c:j=0
    · rw [c]; exact irr O _
    · exact h 0 j (by omega) hj
  exact (top.trans O g).trans O low
theorem Dn.of_same (hs:lo + n≤xs.size) (h:∀i j,i < n→j < n→Le L (at_ xs (lo + i)) (at_ xs (lo + j))):(∀i j,i < n→j < n→Le L (at_ xs (lo + j)) (at_ (mirror xs lo (lo + n) ((lo + n - lo) / 2)) (lo + i)))∧Dn L (mirror xs lo (lo + n) ((lo + n - lo) / 2)) lo n:=by
  have e:∀i,i < n→∃i',i' < n∧at_ (mirror xs lo (lo + n) ((lo + n - lo) / 2)) (lo + i)=at_ xs (lo + i'):=fun i hi=>⟨n - 1 - i,by omega,by rw [at_mir hs,if_pos (by omega)]; congr 1; omega⟩
  refine ⟨fun i j hi hj=>?_,fun i j hij hj=>?_⟩
  · obtain ⟨i',h1,e1⟩:=e i hi
    rw [e1]; exact h j i' hj h1
  · obtain ⟨i',h1,e1⟩:=e i (by omega)
    obtain ⟨j',h2,e2⟩:=e j hj
    rw [e1,e2]; exact h j' i' h2 h1
end
section
variable {prog:Program} {w:World} {A:Around} {E:Value→Shared→Prop} {s:Shared} {κ:SortKind} {U:Keyed→Prop} {L:Keyed→Keyed→Bool} {lo:Nat} {st0 st:SortSt}
structure Sg (κ:SortKind) (lo:Nat) (st0 st:SortSt):Prop where
  kind:kindOf st=κ
  failed:failedOf st=none
  pend:pendingOf st=pendingOf st0
  perm:(arrOf st).Perm (arrOf st0)
  pre:∀k,k < lo→(arrOf st)[k]? = (arrOf st0)[k]?
theorem Sg.size (G:Sg κ lo st0 st):(arrOf st).size=(arrOf st0).size:=G.perm.size_eq
theorem Sg.mir (G:Sg κ lo st0 st) {i j:Nat} (hi:lo≤i) (hj:j≤(arrOf st).size):Sg κ lo st0 (setArr st (mirror (arrOf st) i j ((j - i) / 2))):=
  ⟨G.kind,G.failed,G.pend,(mirror_perm ..).trans G.perm,fun k hk=>by
    show (mirror (arrOf st) i j ((j - i) / 2))[k]? = _
    rw [getElem?_mirror_all hj,if_neg (by omega)]
    exact G.pre k hk⟩
theorem r_rev {i j:Nat} {Q:Unit→SortSt→Prop} (h:Q () (setArr st (mirror (arrOf st) i j ((j - i) / 2)))):wpS (model prog w) A E s (reverseSlice' i j) Q st:=by
  rw [reverseSlice'_eq]
  exact wpS_modify h
theorem r_move {i j:Nat} {Q:Unit→SortSt→Prop} (h:Q () (setArr st (bubble (arrOf st) i (i - j)))):wpS (model prog w) A E s (moveDown' i j) Q st:=by
  rw [moveDown'_eq]
  exact wpS_modify h
theorem Sg.u (G:Sg κ lo st0 st) (u0:∀x∈(arrOf st0).toList,U x) {k:Nat} (h:k < (arrOf st).size):U (at_ (arrOf st) k):=by
  have:=at_some h
  exact u0 _ ((Array.perm_iff_toList_perm.mp G.perm).mem_iff.mp (by rw [←Array.getElem?_toList] at this; exact List.mem_of_getElem? this))
theorem r_ltAt (H:Asked prog w A s κ U L) (u0:∀x∈(arrOf st0).toList,U x) (G:Sg κ lo st0 st) {i j:Nat} {Q:Option Bool→SortSt→Prop} (hi:i < (arrOf st).size) (hj:j < (arrOf st).size) (h:Q (some (L (at_ (arrOf st) i) (at_ (arrOf st) j))) st):wpS (model prog w) A E s (ltAt' i j) Q st:=by
  rw [ltAt'_eq]
  refine wpS_bind (wpS_get (wpS_bind (r_elem (at_some hi) (wpS_bind (r_elem (at_some hj) ?_)))))
  exact r_lt H G.kind (G.u u0 hi) (G.u u0 hj) h
theorem r_count (O:TO L) (H:Asked prog w A s κ U L) (u0:∀x∈(arrOf st0).toList,U x) {nrem:Nat} {Q:Option Nat→SortSt→Prop} (G:Sg κ lo st0 st) (h1:1≤nrem) (hn:lo + nrem=(arrOf st0).size)
    (h:∀n st',1≤n→n≤nrem→Sg κ lo st0 st'→Up L (arrOf st') lo n→Q (some n) st'):wpS (model prog w) A E s (countRun' lo nrem) Q st:=by
  refine wpS_bind (wpS_mono (wpS_forRange (I:=fun i c st'=>c=(none,i)∧st' = st∧Up L (arrOf st) lo i)
    (Q:=fun c st'=>st' = st∧∃n,c=(none,n)∧1≤n∧n≤nrem∧Up L (arrOf st) lo n∧(n=nrem∨L (at_ (arrOf st) (lo + n)) (at_ (arrOf st) (lo + n - 1))=true)) ?_ ?_ ⟨rfl,rfl,fun i j a b=>by omega⟩) ?_)
  · rintro i c st' h1' h2' ⟨rfl,rfl,up⟩
    refine wpS_bind (r_ltAt H u0 G (by rw [G.size]; omega) (by rw [G.size]; omega) ?_)
    cases c:L (at_ (arrOf st') (lo + i)) (at_ (arrOf st') (lo + i - 1)) with
    | true=>exact wpS_pure ⟨rfl,i,rfl,h1',by omega,up,.inr c⟩
    | false=>exact wpS_pure ⟨rfl,rfl,up.more O h1' c⟩
  · rintro c st' ⟨rfl,rfl,up⟩
    rw [Nat.max_eq_right h1] at up ⊢
    exact ⟨rfl,nrem,rfl,h1,Nat.le_refl _,up,.inl rfl⟩
  · rintro c st' ⟨rfl,n,rfl,n1,n2,up,n3⟩
    dsimp only
    by_cases c0:(n == nrem)=true
    · rw [if_pos c0]
      exact wpS_pure (h n st' n1 n2 G up)
    rw [if_neg c0]
    have c0':n≠nrem:=by simpa using c0
    have sm:L (at_ (arrOf st') (lo + n)) (at_ (arrOf st') (lo + n - 1))=true:=n3.resolve_left c0'
    have z0:=G.size
    by_cases c1:n > 1
    case' pos=>
      rw [if_pos c1]
      refine wpS_bind (r_ltAt H u0 G (by omega) (by omega) ?_)
      dsimp only
      by_cases c2:L (at_ (arrOf st') lo) (at_ (arrOf st') (lo + n - 1))=true
      · rw [if_pos c2]
        exact wpS_pure (h n st' n1 n2 G up)
      rw [if_neg c2]
      refine wpS_bind (r_rev ?_)
      have G2:=G.mir (i:=lo) (j:=lo + n) (Nat.le_refl _) (by omega)
      have sa:=up.same O n1 (Bool.eq_false_iff.mpr c2)
      have D:DI L (arrOf (setArr st' (mirror (arrOf st') lo (lo + n) ((lo + n - lo) / 2)))) lo (n + 1) 0:=by
        obtain ⟨s1,s2⟩:=Dn.of_same (xs:=arrOf st') (lo:=lo) (n:=n) (by omega) sa
        refine DI.one O (by omega) (s2.more O n1 ?_)
        have e1:at_ (mirror (arrOf st') lo (lo + n) ((lo + n - lo) / 2)) (lo + n)=at_ (arrOf st') (lo + n):=by rw [at_mir (by omega),if_neg (by omega)]
        rw [e1]
        have:=s1 (n - 1) (n - 1) (by omega) (by omega)
        rw [show lo + (n - 1)=lo + n - 1 by omega] at this
        exact (Le.of_lt O sm).trans O this
      clear sa c2 sm up G n3 c0 c1
      generalize setArr st' (mirror (arrOf st') lo (lo + n) ((lo + n - lo) / 2))=st2 at G2 D ⊢
    case' neg=>
      rw [if_neg c1]
      have G2:=G
      have D:DI L (arrOf st') lo (n + 1) 0:=DI.one O (by omega) (Dn.more O (fun i j a b=>by omega) n1 (Le.of_lt O sm))
      clear sm up G n3 c0 c1
      generalize st' = st2 at G2 D ⊢
    all_goals
      refine wpS_bind (r_rule ?_)
      refine wpS_bind (wpS_mono (wpS_forRange (I:=fun i c st3=>∃q,c=(none,i,q)∧Sg κ lo st0 st3∧DI L (arrOf st3) lo i q)
        (Q:=fun c st3=>∃m q,c=(none,m,q)∧Sg κ lo st0 st3∧DI L (arrOf st3) lo m q∧m≤nrem) ?step ?fin ⟨0,rfl,G2,D⟩) ?post)
      case fin=>
        rintro c st3 ⟨q,rfl,G3,D3⟩
        rw [Nat.max_eq_right (by omega)] at D3 ⊢
        exact ⟨nrem,q,rfl,G3,D3,Nat.le_refl _⟩
      case step=>
        rintro i c st3 i1 i2 ⟨q,rfl,G3,D3⟩
        dsimp only
        have z3:=G3.size
        have q1:=D3.q1
        refine wpS_bind (r_ltAt H u0 G3 (by omega) (by omega) ?_)
        cases c3:L (at_ (arrOf st3) (lo + i)) (at_ (arrOf st3) (lo + i - 1)) with
        | true=>
          dsimp only
          rw [if_pos rfl]
          by_cases c4:q > 0
          · rw [if_pos c4]
            refine wpS_bind (r_rev (wpS_pure ⟨0,rfl,G3.mir (by omega) (by omega),DI.one O (by omega) ?_⟩))
            obtain ⟨s1,s2⟩:=D3.rev O (by omega)
            refine s1.more O (by omega) ?_
            have e1:at_ (mirror (arrOf st3) (lo + i - (q + 1)) (lo + i) ((lo + i - (lo + i - (q + 1))) / 2)) (lo + i)=at_ (arrOf st3) (lo + i):=by rw [at_mir (by omega),if_neg (by omega)]
            rw [e1]
            exact (Le.of_lt O c3).trans O s2
          · rw [if_neg c4]
            exact wpS_pure ⟨0,rfl,G3,DI.one O (by omega) (D3.dn.more O (by omega) (Le.of_lt O c3))⟩
        | false=>
          dsimp only
          rw [if_neg Bool.false_ne_true]
          refine wpS_bind (r_ltAt H u0 G3 (by omega) (by omega) ?_)
          cases c4:L (at_ (arrOf st3) (lo + i - 1)) (at_ (arrOf st3) (lo + i)) with
          | true=>exact wpS_pure ⟨i,q,rfl,G3,D3,by omega⟩
          | false=>
            refine wpS_pure ⟨q + 1,rfl,G3,by omega,D3.dn.more O (by omega) c4,fun a b a1 a2 b1 b2=>?_⟩
            have lst:∀a,i - (q + 1)≤a→a < i→Le L (at_ (arrOf st3) (lo + a)) (at_ (arrOf st3) (lo + i))∧Le L (at_ (arrOf st3) (lo + i)) (at_ (arrOf st3) (lo + a)):=fun a x1 x2=>by
              have e1:=D3.eq a (i - 1) x1 x2 (by omega) (by omega)
              have e2:=D3.eq (i - 1) a (by omega) (by omega) x1 x2
              rw [show lo + (i - 1)=lo + i - 1 by omega] at e1 e2
              exact ⟨e1.trans O c3,Le.trans O c4 e2⟩
            by_cases ca:a=i
            · by_cases cb:b=i
              · rw [ca,cb]; exact irr O _
              · rw [ca]; exact (lst b (by omega) (by omega)).2
            · by_cases cb:b=i
              · rw [cb]; exact (lst a (by omega) (by omega)).1
              · exact D3.eq a b (by omega) (by omega) (by omega) (by omega)
      case post=>
        rintro c st3 ⟨m,q,rfl,G3,D3,m1⟩
        dsimp only
        have z3:=G3.size
        have q1:=D3.q1
        by_cases c4:q > 0
        case' pos=>
          rw [if_pos c4]
          refine wpS_bind (r_rev ?_)
          have G4:=G3.mir (i:=lo + m - (q + 1)) (j:=lo + m) (by omega) (by omega)
          have D4:Dn L (arrOf (setArr st3 (mirror (arrOf st3) (lo + m - (q + 1)) (lo + m) ((lo + m - (lo + m - (q + 1))) / 2)))) lo m:=(D3.rev O (by omega)).1
          clear D3 G3 z3
          generalize setArr st3 (mirror (arrOf st3) (lo + m - (q + 1)) (lo + m) ((lo + m - (lo + m - (q + 1))) / 2))=st4 at G4 D4 ⊢
        case' neg=>
          rw [if_neg c4]
          have G4:=G3
          have D4:=D3.dn
          clear D3 G3 z3
          generalize st3=st4 at G4 D4 ⊢
        all_goals
          have z4:=G4.size
          refine wpS_bind (r_rev ?_)
          have G5:=G4.mir (i:=lo) (j:=lo + m) (Nat.le_refl _) (by omega)
          have U5:Up L (arrOf (setArr st4 (mirror (arrOf st4) lo (lo + m) ((lo + m - lo) / 2)))) lo m:=D4.turn (by omega)
          clear D4 G4 z4
          generalize setArr st4 (mirror (arrOf st4) lo (lo + m) ((lo + m - lo) / 2))=st5 at G5 U5 ⊢
          have z5:=G5.size
          refine wpS_bind (wpS_mono (wpS_forRange (I:=fun i c st'=>c=(none,i)∧st' = st5∧Up L (arrOf st5) lo i)
            (Q:=fun c st'=>st' = st5∧∃n,c=(none,n)∧1≤n∧n≤nrem∧Up L (arrOf st5) lo n) ?_ ?_ ⟨rfl,rfl,U5⟩) ?_)
          · rintro i c st' h1' h2' ⟨rfl,rfl,up⟩
            refine wpS_bind (r_ltAt H u0 G5 (by dsimp only; omega) (by dsimp only; omega) ?_)
            cases c:L (at_ (arrOf st') (lo + i)) (at_ (arrOf st') (lo + i - 1)) with
            | true=>exact wpS_pure ⟨rfl,i,rfl,by omega,by omega,up⟩
            | false=>exact wpS_pure ⟨rfl,rfl,up.more O (by omega) c⟩
          · rintro c st' ⟨rfl,rfl,up⟩
            rw [Nat.max_eq_right m1] at up ⊢
            exact ⟨rfl,nrem,rfl,h1,Nat.le_refl _,up⟩
          · rintro c st' ⟨rfl,n,rfl,n1,n2,up⟩
            exact wpS_pure (h n st' n1 n2 G5 up)
theorem r_bin (O:TO L) (H:Asked prog w A s κ U L) (u0:∀x∈(arrOf st0).toList,U x) {n ok:Nat} {Q:Bool→SortSt→Prop} (G:Sg κ lo st0 st) (h1:1≤ok) (h2:ok≤n) (hn:lo + n≤(arrOf st0).size) (up:Up L (arrOf st) lo ok)
    (h:∀st',Sg κ lo st0 st'→Up L (arrOf st') lo n→Q true st'):wpS (model prog w) A E s (binarySort' lo n ok) Q st:=by
  refine wpS_bind (wpS_mono (wpS_forRange (I:=fun k c st'=>c=(none,())∧Sg κ lo st0 st'∧Up L (arrOf st') lo k)
    (Q:=fun c st'=>c=(none,())∧Sg κ lo st0 st'∧Up L (arrOf st') lo n) ?_ ?_ ⟨rfl,G,by rw [Nat.max_eq_left h1]; exact up⟩) ?_)
  · rintro k c st' k1 k2 ⟨rfl,G1,U1⟩
    have z1:=G1.size
    refine wpS_bind (wpS_mono (wpS_forRange (I:=fun i c st2=>∃l r,c=(none,l,r)∧st2=st'∧l≤r∧r≤k∧r - l + i≤k∧(∀i,i < l→Le L (at_ (arrOf st') (lo + i)) (at_ (arrOf st') (lo + k)))∧∀i,r≤i→i < k→Le L (at_ (arrOf st') (lo + k)) (at_ (arrOf st') (lo + i)))
      (Q:=fun c st2=>∃l,c=(none,l,l)∧st2=st'∧l≤k∧(∀i,i < l→Le L (at_ (arrOf st') (lo + i)) (at_ (arrOf st') (lo + k)))∧∀i,l≤i→i < k→Le L (at_ (arrOf st') (lo + k)) (at_ (arrOf st') (lo + i))) ?_ ?_ ⟨0,k,rfl,rfl,by omega,by omega,by omega,fun i a=>by omega,fun i a b=>by omega⟩) ?_)
    · rintro i c st2 _ i2 ⟨l,r,rfl,rfl,a1,a2,a3,a4,a5⟩
      dsimp only
      by_cases c0:l ≥ r
      · rw [if_pos c0]
        have:l=r:=by omega
        subst this
        exact wpS_pure ⟨l,rfl,rfl,a2,a4,a5⟩
      · rw [if_neg c0]
        refine wpS_bind (r_ltAt H u0 G1 (by omega) (by omega) ?_)
        cases c1:L (at_ (arrOf st2) (lo + k)) (at_ (arrOf st2) (lo + (l + r) / 2)) with
        | true=>
          refine wpS_pure ⟨l,(l + r) / 2,rfl,rfl,by omega,by omega,by omega,a4,fun i b1 b2=>?_⟩
          by_cases e:i=(l + r) / 2
          · rw [e]; exact Le.of_lt O c1
          · exact (Le.of_lt O c1).trans O (U1 _ i (by omega) b2)
        | false=>
          refine wpS_pure ⟨(l + r) / 2 + 1,r,rfl,rfl,by omega,by omega,by omega,fun i b1=>?_,a5⟩
          by_cases e:i=(l + r) / 2
          · rw [e]; exact c1
          · exact (U1 i ((l + r) / 2) (by omega) (by omega)).trans O c1
    · rintro c st2 ⟨l,r,rfl,rfl,a1,a2,a3,a4,a5⟩
      have:l=r:=by omega
      subst this
      exact ⟨l,rfl,rfl,a2,a4,a5⟩
    · rintro c st2 ⟨l,rfl,rfl,a2,a4,a5⟩
      have hs:lo + k < (arrOf st2).size:=by omega
      have ed:lo + k - (lo + k - (lo + l))=lo + l:=by omega
      refine wpS_bind (r_move (wpS_pure ⟨rfl,⟨G1.kind,G1.failed,G1.pend,(bubble_perm ..).trans G1.perm,fun j hj=>?_⟩,fun i j hij hj=>?_⟩))
      · show (bubble (arrOf st2) (lo + k) (lo + k - (lo + l)))[j]? = _
        rw [getElem?_bubble hs _ (by omega),if_neg (by omega),if_neg (by omega)]
        exact G1.pre j hj
      · show Le L (at_ (bubble (arrOf st2) (lo + k) (lo + k - (lo + l))) (lo + i)) (at_ (bubble (arrOf st2) (lo + k) (lo + k - (lo + l))) (lo + j))
        rw [at_bub hs (by omega),at_bub hs (by omega),ed]
        by_cases b1:j=l
        · rw [if_neg (by omega),if_neg (by omega),if_pos (by omega)]
          exact a4 i (by omega)
        · rw [if_neg (c:=lo + j=lo + l) (by omega)]
          by_cases b2:j < l
          · rw [if_neg (by omega),if_neg (by omega),if_neg (by omega)]
            exact U1 i j hij (by omega)
          · rw [if_pos (c:=lo + l < lo + j∧lo + j≤lo + k) (by omega)]
            by_cases b3:i=l
            · rw [if_pos (by omega),show lo + j - 1=lo + (j - 1) by omega]
              exact a5 (j - 1) (by omega) (by omega)
            · rw [if_neg (by omega)]
              by_cases b4:i < l
              · rw [if_neg (by omega),show lo + j - 1=lo + (j - 1) by omega]
                by_cases b5:i=j - 1
                · omega
                · exact U1 i (j - 1) (by omega) (by omega)
              · rw [if_pos (by omega),show lo + j - 1=lo + (j - 1) by omega,show lo + i - 1=lo + (i - 1) by omega]
                exact U1 (i - 1) (j - 1) (by omega) (by omega)
  · rintro c st' ⟨rfl,G1,U1⟩
    rw [Nat.max_eq_right (by rw [Nat.max_eq_left h1]; exact h2)] at U1
    exact ⟨rfl,G1,U1⟩
  · rintro c st' ⟨rfl,G1,U1⟩
    exact wpS_pure (h st' G1 U1)
end
end SR
end L2
namespace L2
open PySem PySem.W PyProof.Rows
namespace SR
section
variable {L:Keyed→Keyed→Bool}
def Runs (L:Keyed→Keyed→Bool):Nat→List (Nat × Nat × Nat)→List (List Keyed)→Prop
  | _,[],[]=>True
  | o,p :: ps,r :: rs=>p.1=o∧p.2.1=r.length∧1≤r.length∧Inc L r∧Runs L (o + r.length) ps rs
  | _,_,_=>False
theorem Runs.len:∀{o:Nat} {ps:List (Nat × Nat × Nat)} {rs:List (List Keyed)},Runs L o ps rs→ps.length=rs.length∧rs.length≤rs.flatten.length
  | _,[],[],_=>⟨rfl,Nat.le_refl _⟩
  | _,p :: ps,r :: rs,h=>by
    obtain ⟨_,_,h3,_,h5⟩:=h
    obtain ⟨e1,e2⟩:=h5.len
    rw [List.length_cons,List.length_cons,e1,List.flatten_cons,List.length_append]
    exact ⟨rfl,by omega⟩
  | _,[],_ :: _,h=>h.elim
  | _,_ :: _,[],h=>h.elim
theorem Runs.push:∀{o:Nat} {ps:List (Nat × Nat × Nat)} {rs:List (List Keyed)} {r:List Keyed} {z:Nat},Runs L o ps rs→1≤r.length→Inc L r→Runs L o (ps++[(o + rs.flatten.length,r.length,z)]) (rs++[r])
  | o,[],[],r,z,_,h1,h2=>⟨by simp,rfl,h1,h2,trivial⟩
  | o,p :: ps,q :: rs,r,z,h,h1,h2=>by
    obtain ⟨a1,a2,a3,a4,a5⟩:=h
    have:=a5.push (z:=z) h1 h2
    refine ⟨a1,a2,a3,a4,?_⟩
    show Runs L (o + q.length) (ps++_) (rs++[r])
    rw [List.flatten_cons,List.length_append,←Nat.add_assoc]
    exact this
  | _,[],_ :: _,_,_,h,_,_=>h.elim
  | _,_ :: _,[],_,_,h,_,_=>h.elim
theorem Runs.alike:∀{o:Nat} {ps ps':List (Nat × Nat × Nat)} {rs:List (List Keyed)},Runs L o ps rs→ps'.map (fun p=>(p.1,p.2.1))=ps.map (fun p=>(p.1,p.2.1))→Runs L o ps' rs
  | _,[],[],[],_,_=>trivial
  | o,p :: ps,p' :: ps',r :: rs,h,e=>by
    obtain ⟨a1,a2,a3,a4,a5⟩:=h
    rw [List.map_cons,List.map_cons] at e
    injection e with e1 e2
    injection e1 with e3 e4
    exact ⟨e3.trans a1,e4.trans a2,a3,a4,a5.alike e2⟩
  | _,p :: ps,[],_,_,e=>by simp at e
  | _,[],p' :: ps',_,_,e=>by simp at e
  | _,[],_,_ :: _,h,_=>h.elim
  | _,_ :: _,_,[],h,_=>h.elim
theorem Runs.cut:∀{i o:Nat} {ps:List (Nat × Nat × Nat)} {rs:List (List Keyed)},Runs L o ps rs→i + 1 < ps.length→∃ps1 u v ps2 rs1 ra rb rs2,ps=ps1++u :: v :: ps2∧i=ps1.length∧rs=rs1++ra :: rb :: rs2∧u.1=o + rs1.flatten.length∧u.2.1=ra.length∧v.1=o + rs1.flatten.length + ra.length∧v.2.1=rb.length∧1≤ra.length∧1≤rb.length∧Inc L ra∧Inc L rb∧
    ∀m:List Keyed,m.length=ra.length + rb.length→Inc L m→Runs L o (ps1++(u.1,u.2.1 + v.2.1,u.2.2) :: ps2) (rs1++m :: rs2)
  | 0,o,u :: v :: ps,ra :: rb :: rs,h,_=>by
    obtain ⟨a1,a2,a3,a4,b1,b2,b3,b4,b5⟩:=h
    refine ⟨[],u,v,ps,[],ra,rb,rs,rfl,rfl,rfl,by simpa using a1,a2,by simpa using b1,b2,a3,b3,a4,b4,fun m e hm=>⟨a1,by rw [e,a2,b2],by omega,hm,?_⟩⟩
    rw [e,←Nat.add_assoc]
    exact b5
  | i + 1,o,p :: ps,r :: rs,h,hi=>by
    obtain ⟨a1,a2,a3,a4,a5⟩:=h
    obtain ⟨ps1,u,v,ps2,rs1,ra,rb,rs2,e1,e2,e3,c1,c2,c3,c4,c5,c6,c7,c8,c9⟩:=a5.cut (i:=i) (by rw [List.length_cons] at hi; omega)
    refine ⟨p :: ps1,u,v,ps2,r :: rs1,ra,rb,rs2,by rw [e1]; rfl,by rw [List.length_cons,e2],by rw [e3]; rfl,?_,c2,?_,c4,c5,c6,c7,c8,fun m e hm=>⟨a1,a2,a3,a4,c9 m e hm⟩⟩
    · rw [c1,List.flatten_cons,List.length_append,Nat.add_assoc]
    · rw [c3,List.flatten_cons,List.length_append,Nat.add_assoc o]
  | _,_,[],_,_,hi=>by simp at hi
  | 0,_,[_],_,_,hi=>by simp at hi
  | 0,_,_ :: _ :: _,[],h,_=>h.elim
  | 0,_,_ :: _ :: _,[_],h,_=>h.2.2.2.2.elim
  | _ + 1,_,_ :: _,[],h,_=>h.elim
end
section
variable {prog:Program} {w:World} {A:Around} {E:Value→Shared→Prop} {s:Shared} {κ:SortKind} {U:Keyed→Prop} {L:Keyed→Keyed→Bool} {a₀:Array Keyed} {R:List Keyed} {st:SortSt}
structure St (L:Keyed→Keyed→Bool) (κ:SortKind) (a₀:Array Keyed) (R:List Keyed) (st:SortSt):Prop where
  kind:kindOf st=κ
  failed:failedOf st=none
  perm:(arrOf st).Perm a₀
  ex:∃rs,(arrOf st).toList=rs.flatten++R∧Runs L 0 (pendingOf st).toList rs
theorem St.u (S:St L κ a₀ R st) (u0:∀x∈a₀.toList,U x):∀x∈(arrOf st).toList,U x:=fun x hx=>u0 x ((Array.perm_iff_toList_perm.mp S.perm).mem_iff.mp hx)
theorem r_join (O:TO L) (H:Asked prog w A s κ U L) (u0:∀x∈a₀.toList,U x) (S:St L κ a₀ R st) {i:Nat} (hi:i + 1 < (pendingOf st).size) {Q:Bool→SortSt→Prop}
    (h:∀st',St L κ a₀ R st'→(pendingOf st').size + 1=(pendingOf st).size→Q true st'):wpS (model prog w) A E s (mergeAt' i) Q st:=by
  obtain ⟨rs,e,r⟩:=S.ex
  obtain ⟨ps1,⟨sa,na,pw⟩,⟨sb,nb,pz⟩,ps2,rs1,ra,rb,rs2,e1,e2,e3,c1,c2,c3,c4,c5,c6,c7,c8,c9⟩:=r.cut (i:=i) (by rw [Array.length_toList]; exact hi)
  rw [Nat.zero_add] at c1 c3
  refine r_mergeAt O H S.kind S.failed e1 e2 (P:=rs1.flatten) (ra:=ra) (rb:=rb) (S:=rs2.flatten++R) (by rw [e,e3]; simp) (S.u u0) c1 c2 c3 c4 c5 c6 c7 c8 fun m st' k1 k2 k3 k4 k5 k6=>h st' ⟨k1,k2,?_,?_⟩ ?_
  · refine (Array.perm_iff_toList_perm.mpr ?_).trans S.perm
    rw [k4,e,e3]
    simp only [List.flatten_append,List.flatten_cons,List.append_assoc]
    have:(m++(rs2.flatten++R)).Perm (ra++(rb++(rs2.flatten++R))):=by
      rw [←List.append_assoc ra]
      exact k5.append_right _
    exact this.append_left _
  · refine ⟨rs1++m :: rs2,?_,?_⟩
    · rw [k4]; simp
    · rw [k3]
      exact c9 m (by rw [k5.length_eq,List.length_append]) k6
  · rw [←Array.length_toList,k3,←Array.length_toList,e1]
    simp [Nat.add_assoc]
theorem ite_or {c:Prop} [Decidable c] {a b:Nat}:(if c then a else b)=a∨(if c then a else b)=b:=by
  split
  · exact .inl rfl
  · exact .inr rfl
theorem r_ite {α:Type} {c:Prop} [Decidable c] {x y:StateT SortSt Sem α} {Q:α→SortSt→Prop} (h1:c→wpS (model prog w) A E s x Q st) (h2:¬c→wpS (model prog w) A E s y Q st):wpS (model prog w) A E s (if c then x else y) Q st:=by
  split
  · exact h1 (by assumption)
  · exact h2 (by assumption)
theorem St.seg (S:St L κ a₀ R st) {lo:Nat} {st2:SortSt} (e:lo + R.length=a₀.size) (G:Sg κ lo st st2):St L κ a₀ ((arrOf st2).toList.drop lo) st2:=by
  obtain ⟨rs,e1,r⟩:=S.ex
  refine ⟨G.kind,G.failed,G.perm.trans S.perm,rs,?_,by rw [G.pend]; exact r⟩
  have hl:lo=rs.flatten.length:=by
    have:=S.perm.size_eq
    rw [←Array.length_toList,e1,List.length_append] at this
    omega
  have:(arrOf st2).toList.take lo=rs.flatten:=by
    have h2:(arrOf st).toList.take lo=rs.flatten:=by rw [e1,hl,List.take_left]
    rw [←h2]
    apply List.ext_getElem?
    intro k
    rw [List.getElem?_take,List.getElem?_take]
    split
    · rw [Array.getElem?_toList,Array.getElem?_toList]
      exact G.pre k (by assumption)
    · rfl
  rw [←this,List.take_append_drop]
theorem St.push (S:St L κ a₀ R st) {lo n:Nat} (e:lo + R.length=a₀.size) (h1:1≤n) (h2:n≤R.length) (hi:Inc L (R.take n)):St L κ a₀ (R.drop n) (setPending st ((pendingOf st).push (lo,n,0))):=by
  obtain ⟨rs,e1,r⟩:=S.ex
  have hl:lo=rs.flatten.length:=by
    have:=S.perm.size_eq
    rw [←Array.length_toList,e1,List.length_append] at this
    omega
  refine ⟨S.kind,S.failed,S.perm,rs++[R.take n],?_,?_⟩
  · show (arrOf st).toList=_
    rw [e1]
    simp
  · show Runs L 0 ((pendingOf st).push (lo,n,0)).toList _
    have hn:(R.take n).length=n:=by rw [List.length_take]; omega
    have:=r.push (r:=R.take n) (z:=0) (by omega) hi
    rw [Nat.zero_add,←hl,hn] at this
    rw [Array.toList_push]
    exact this
theorem St.mod (S:St L κ a₀ R st) (k pw:Nat):St L κ a₀ R (setPending st ((pendingOf st).modify k fun x=>(x.1,x.2.1,pw))):=by
  obtain ⟨rs,e1,r⟩:=S.ex
  refine ⟨S.kind,S.failed,S.perm,rs,e1,r.alike ?_⟩
  show List.map _ ((pendingOf st).modify k fun x=>(x.1,x.2.1,pw)).toList=_
  apply List.ext_getElem?
  intro j
  rw [List.getElem?_map,List.getElem?_map,Array.getElem?_toList,Array.getElem?_toList,Array.getElem?_modify]
  split
  · cases (pendingOf st)[j]? <;> rfl
  · rfl
theorem inc_of_up {xs:Array Keyed} {lo n:Nat} (h:Up L xs lo n) (hn:lo + n≤xs.size):Inc L ((xs.toList.drop lo).take n):=by
  refine List.pairwise_iff_getElem.mpr fun i j hi hj hij=>?_
  rw [List.length_take] at hi hj
  have at':∀k (hk:k < ((xs.toList.drop lo).take n).length),((xs.toList.drop lo).take n)[k]=at_ xs (lo + k):=fun k hk=>by
    rw [List.length_take,List.length_drop,Array.length_toList] at hk
    have:=at_some (xs:=xs) (k:=lo + k) (by omega)
    rw [List.getElem_take,List.getElem_drop]
    rw [←Array.getElem?_toList] at this
    exact (List.getElem?_eq_some_iff.mp this).2
  rw [at' i (by rw [List.length_take]; omega),at' j (by rw [List.length_take]; omega)]
  exact h i j hij (by omega)
theorem r_runs (O:TO L) (H:Asked prog w A s κ U L) (u0:∀x∈a₀.toList,U x) {Q:Unit→SortSt→Prop} (h:∀st',(arrOf st').Perm a₀→failedOf st' = none→Inc L (arrOf st').toList→Q () st'):wpS (model prog w) A E s sortRuns' Q (SortSt.mk' κ a₀ #[] 7 none):=by
  refine wpS_bind (wpS_get ?_)
  dsimp only
  refine wpS_bind (wpS_mono (wpS_forRange (I:=fun i c st=>∃lo R,c=(none,lo)∧St L κ a₀ R st∧lo + R.length=a₀.size∧(i≤lo∨lo=a₀.size))
    (Q:=fun c st=>∃lo,c=(none,lo)∧St L κ a₀ [] st) ?step ?fin ⟨0,a₀.toList,rfl,⟨rfl,rfl,Array.Perm.refl _,[],by simp [arrOf],trivial⟩,by simp,.inl (Nat.le_refl _)⟩) ?post)
  case fin=>
    rintro c st ⟨lo,R,rfl,S,e1,e2⟩
    have:R=[]:=List.eq_nil_of_length_eq_zero (by
      have:(arrOf (SortSt.mk' κ a₀ #[] 7 none)).size=a₀.size:=rfl
      rcases e2 with e2 | e2
      · have e3:a₀.size≤lo:=Nat.le_trans (Nat.le_max_right 0 _) e2
        omega
      · omega)
    subst this
    exact ⟨lo,rfl,S⟩
  case post=>
    rintro c st ⟨lo,rfl,S⟩
    dsimp only
    have s0:(pendingOf st).size≤a₀.size:=by
      obtain ⟨rs,e1,r⟩:=S.ex
      have:=S.perm.size_eq
      rw [←Array.length_toList,e1,List.append_nil] at this
      have l2:=r.len
      rw [Array.length_toList] at l2
      omega
    refine wpS_bind (wpS_mono (wpS_forRange (I:=fun i c st=>c=(none,())∧St L κ a₀ [] st∧((pendingOf st).size + i≤a₀.size∨(pendingOf st).size≤1)) (Q:=fun c st=>c=(none,())∧St L κ a₀ [] st∧(pendingOf st).size≤1) ?_ ?_ ⟨rfl,S,.inl s0⟩) ?_)
    · rintro i c st1 _ hi ⟨rfl,S1,e⟩
      refine wpS_bind (wpS_get ?_)
      by_cases c1:(pendingOf st1).size≤1
      · rw [if_pos c1]
        exact wpS_pure ⟨rfl,S1,c1⟩
      rw [if_neg c1]
      have key:∀j,j=(pendingOf st1).size - 2 - 1∨j=(pendingOf st1).size - 2→j + 1 < (pendingOf st1).size:=fun j hj=>by omega
      refine wpS_bind (r_join O H u0 S1 (key _ ite_or) fun st2 S2 e2=>?_)
      simp only [Bool.not_true,Bool.false_eq_true,if_false]
      exact wpS_pure ⟨rfl,S2,by omega⟩
    · rintro c st1 ⟨rfl,S1,e⟩
      have:a₀.size≤max 0 (arrOf (SortSt.mk' κ a₀ #[] 7 none)).size:=Nat.le_max_right ..
      exact ⟨rfl,S1,by
        rcases e with e | e
        · have:(pendingOf st1).size + a₀.size≤a₀.size:=Nat.le_trans (Nat.add_le_add_left this _) e
          omega
        · exact e⟩
    · rintro c st1 ⟨rfl,S1,e⟩
      refine wpS_pure (h st1 S1.perm S1.failed ?_)
      obtain ⟨rs,e1,r⟩:=S1.ex
      have l2:=r.len.1
      rw [Array.length_toList] at l2
      rw [e1,List.append_nil]
      match rs,l2 with
      | [],_=>exact List.Pairwise.nil
      | [x],_=>
        have:Inc L x:=by
          revert r
          cases (pendingOf st1).toList with
          | nil=>exact fun r=>r.elim
          | cons p ps=>exact fun r=>r.2.2.2.1
        simpa using this
      | _ :: _ :: l,l2=>rw [List.length_cons,List.length_cons] at l2; omega
  case step=>
    rintro i c st _ hi ⟨lo,R,rfl,S,e1,e2⟩
    dsimp only
    generalize (sortPriv% PySem.Builtin.minRun:Nat→Nat→Nat→Nat) a₀.size a₀.size 0=mr
    by_cases c0:lo ≥ a₀.size
    · rw [if_pos c0]
      have:R=[]:=List.eq_nil_of_length_eq_zero (by omega)
      subst this
      exact wpS_pure ⟨lo,rfl,S⟩
    rw [if_neg c0]
    have sz:(arrOf st).size=a₀.size:=S.perm.size_eq
    have e2':i≤lo:=by omega
    refine wpS_bind (r_count O H (S.u u0) ⟨S.kind,S.failed,rfl,Array.Perm.refl _,fun _ _=>rfl⟩ (by omega) (by omega) fun n st1 n1 n2 G1 up1=>?_)
    dsimp only
    refine r_ite (fun c1=>?a) (fun c1=>?b)
    case' a=>
      refine wpS_bind (r_rule (wpS_bind (r_bin O H (S.u u0) G1 n1 (by omega) (by omega) up1 fun st2 G2 up2=>?_)))
      simp only [Bool.not_true,Bool.false_eq_true,if_false]
      have f1:1≤min (a₀.size - lo) mr:=by omega
      have f2:lo + min (a₀.size - lo) mr≤a₀.size:=by omega
      clear up1 G1 n1 n2 c1
      generalize min (a₀.size - lo) mr=m at f1 f2 up2 ⊢
    case' b=>
      have G2:=G1
      have up2:=up1
      have f1:=n1
      have f2:lo + n≤a₀.size:=by omega
      clear up1 G1 n1 n2 c1
      generalize st1=st2 at G2 up2 ⊢
      generalize n=m at f1 f2 up2 ⊢
    all_goals
      have S2:=S.seg e1 G2
      have z2:(arrOf st2).size=a₀.size:=G2.size.trans sz
      have lR:((arrOf st2).toList.drop lo).length=a₀.size - lo:=by rw [List.length_drop,Array.length_toList,z2]
      have iR:=inc_of_up up2 (by omega)
      have done_:∀st3,St L κ a₀ ((arrOf st2).toList.drop lo) st3→wpS (model prog w) A E s (modify fun s=>setPending s ((pendingOf s).push (lo,m,0))) (fun _ st'=>∃lo' R',((none,lo + m):Option Unit × Nat)=(none,lo')∧St L κ a₀ R' st'∧lo' + R'.length=a₀.size∧(i + 1≤lo'∨lo' = a₀.size)) st3:=fun st3 S3=>
        wpS_modify ⟨lo + m,_,rfl,S3.push (by omega) f1 (by omega) iR,by rw [List.length_drop]; omega,by omega⟩
      refine wpS_bind (wpS_get ?_)
      rcases hb:(pendingOf st2).back? with _ | ⟨s1,n1,z⟩
      · exact wpS_bind (wpS_mono (done_ st2 S2) fun _ st' hst=>wpS_pure hst)
      · dsimp only
        refine wpS_bind (wpS_mono (wpS_forRange (I:=fun i c st3=>c=(none,())∧St L κ a₀ ((arrOf st2).toList.drop lo) st3) (Q:=fun c st3=>c=(none,())∧St L κ a₀ ((arrOf st2).toList.drop lo) st3) ?_ ?_ ⟨rfl,S2⟩) ?_)
        · rintro j c st3 _ _ ⟨rfl,S3⟩
          refine wpS_bind (wpS_get ?_)
          by_cases c2:(pendingOf st3).size > 1
          · rw [if_pos c2]
            have hp:(pendingOf st3)[(pendingOf st3).size - 2]? = some (pendingOf st3)[(pendingOf st3).size - 2]:=Array.getElem?_eq_getElem (by omega)
            rw [hp]
            generalize (pendingOf st3)[(pendingOf st3).size - 2]=q
            obtain ⟨q1,q2,q3⟩:=q
            dsimp only
            refine r_ite (fun _=>wpS_pure ⟨rfl,S3⟩) fun _=>?_
            have key:∀j,j=(pendingOf st3).size - 2→j + 1 < (pendingOf st3).size:=fun j hj=>by omega
            refine wpS_bind (r_join O H u0 S3 (key _ rfl) fun st4 S4 _=>?_)
            simp only [Bool.not_true,Bool.false_eq_true,if_false]
            exact wpS_pure ⟨rfl,S4⟩
          · rw [if_neg c2]
            exact wpS_pure ⟨rfl,S3⟩
        · rintro c st3 ⟨rfl,S3⟩
          exact ⟨rfl,S3⟩
        · rintro c st3 ⟨rfl,S3⟩
          dsimp only
          refine wpS_bind (wpS_modify ?_)
          exact wpS_bind (wpS_mono (done_ _ (S3.mod _ _)) fun _ st' hst=>wpS_pure hst)
end
end SR
end L2
namespace L2
open PySem PySem.Spec PySem.W PyProof.Rows
namespace ST
section
variable {prog:Program} {w:World} {A:Around} {E:Value→Shared→Prop} {s:Shared} {L a:Addr} {mm:Str→Option Value} {m:Nat} {rows:List (Addr × List Int)}
abbrev rf (r:Addr × List Int):Value:=.ref r.1
theorem RowAt.keep {h h':Heap} {r:Addr × List Int} (x:RowAt h m r) (e:∀o,h.get? r.1=some o→h'.get? r.1=some o):RowAt h' m r:=by
  obtain ⟨l,o,its,n,h1,h2⟩:=x
  exact ⟨l,o,its,n,e o h1,h2⟩
theorem RowAt.first {h:Heap} (hm:1≤m):∀{rows:List (Addr × List Int)},(∀r∈rows,RowAt h m r)→∃fs:List Value,fs.length=rows.length∧KatTups h (rows.map rf) fs∧∀v∈fs,∃i t,v = .int i t
  | [],_=>⟨[],rfl,.nil,fun v h=>by cases h⟩
  | r :: rows,hr=>by
    obtain ⟨fs,e,t,hv⟩:=RowAt.first hm (rows:=rows) fun x hx=>hr x (List.mem_cons_of_mem _ hx)
    obtain ⟨l,o,its,n,h1,h2,h3,h4⟩:=hr r (List.mem_cons_self ..)
    have:∃i t,its[0]? = some (Value.int i t):=by
      rw [←Array.getElem?_toList]
      revert h4 l
      generalize its.toList=us
      generalize r.2=zs
      intro l h4
      cases h4 with
      | nil=>exact absurd l (by simp; omega)
      | cons i t _=>exact ⟨i,t,rfl⟩
    obtain ⟨i,t0,e0⟩:=this
    refine ⟨.int i t0 :: fs,by rw [List.length_cons,List.length_cons,e],KatTups.cons h1 h2 h3 e0 t,fun v hv'=>?_⟩
    rcases List.mem_cons.mp hv' with z | z
    · exact ⟨i,t0,z⟩
    · exact hv v z
def RUp (rows:List (Addr × List Int)):Prop:=rows.Pairwise fun x y=>lexB y.2 x.2=false
theorem row_ne {r:Addr × List Int} {o:Obj} {b:Addr} (x:RowAt s.heap m r) (hb:s.heap.get? b=some o) (hc:o.cls≠.type "tuple"):r.1≠b:=fun z=>by
  obtain ⟨_,o',_,_,h1,h2,_⟩:=x
  rw [z,hb] at h1
  cases h1
  exact hc h2
theorem perm_map' {α β:Type} {f:α→β} {l:List β} {xs:List α} (h:l.Perm (xs.map f)):∃ys:List α,ys.Perm xs∧l=ys.map f:=by
  generalize e:xs.map f=l2 at h
  induction h generalizing xs with
  | nil=>exact ⟨[],by rw [List.map_eq_nil_iff.mp e],rfl⟩
  | cons x h ih=>
    obtain ⟨y,ys,rfl,rfl,e'⟩:=List.map_eq_cons_iff.mp e
    obtain ⟨zs,p,rfl⟩:=ih e'
    exact ⟨y :: zs,p.cons y,rfl⟩
  | swap x y l=>
    obtain ⟨a,as,rfl,rfl,e'⟩:=List.map_eq_cons_iff.mp e
    obtain ⟨b,bs,rfl,rfl,rfl⟩:=List.map_eq_cons_iff.mp e'
    exact ⟨b :: a :: bs,List.Perm.swap ..,rfl⟩
  | trans h1 h2 ih1 ih2=>
    obtain ⟨ys,p,rfl⟩:=ih2 e
    obtain ⟨zs,p',e'⟩:=ih1 rfl
    exact ⟨zs,p'.trans p,e'⟩
theorem zip_same:∀rows:List (Addr × List Int),(rows.map rf).zip (rows.map rf)=rows.map fun r=>(rf r,rf r)
  | []=>rfl
  | r :: rows=>by rw [List.map_cons,List.zip_cons_cons,zip_same rows]; rfl
def keyK (m:Nat) (rows:List (Addr × List Int)) (x:Keyed):List Int:=match x.1 with
  | .ref a=>((rows.find? fun r=>r.1 == a).map (·.2)).getD (List.replicate m 0)
  | _=>List.replicate m 0
theorem keyK_len (hr:∀r∈rows,r.2.length=m) (x:Keyed):(keyK m rows x).length=m:=by
  unfold keyK
  split
  · cases e:rows.find? fun r=>r.1 == _ with
    | none=>exact List.length_replicate
    | some r=>exact hr r (List.mem_of_find?_eq_some e)
  · exact List.length_replicate
theorem keyK_ord (hr:∀r∈rows,r.2.length=m):SR.TO fun x y=>lexB (keyK m rows x) (keyK m rows y):=
  ⟨fun h=>lex_as h,fun {x y z} h1 h2=>lex_tr (by rw [keyK_len hr,keyK_len hr]) (by rw [keyK_len hr,keyK_len hr]) h1 h2⟩
theorem keyK_of {h:Heap} (hr:∀r∈rows,RowAt h m r) {r:Addr × List Int} (hm:r∈rows):keyK m rows (rf r,rf r)=r.2:=by
  show ((rows.find? fun q=>q.1 == r.1).map (·.2)).getD (List.replicate m 0)=r.2
  cases e:rows.find? fun q=>q.1 == r.1 with
  | none=>exact absurd (List.find?_eq_none.mp e r hm) (by simp)
  | some q=>
    have e1:q.1=r.1:=by simpa using List.find?_some e
    obtain ⟨_,o1,i1,n1,g1,_,d1,r1⟩:=hr q (List.mem_of_find?_eq_some e)
    obtain ⟨_,o2,i2,n2,g2,_,d2,r2⟩:=hr r hm
    rw [e1,g2] at g1
    cases g1
    rw [d2] at d1
    cases d1
    show q.2=r.2
    rw [←r1.nums,←r2.nums]
theorem sort_many {c:Nat} {P:PySem.Fin→Shared→Prop} (hm:1≤m) (ho:s.heap.get? a=some (seqObj "list" (rows.map rf).toArray c)) (hr:∀r∈rows,RowAt s.heap m r) (h2:2≤rows.length) (h64:rows.length < 1000)
    (h:∀h' rows' c',rows'.Perm rows→RUp rows'→h'.get? a=some (seqObj "list" (rows'.map rf).toArray c')→(∀b o,b≠a→s.heap.get? b=some o→h'.get? b=some o)→P (.done (.ret .none)) { s with heap:=h' }) :
    wpAny (model prog w) A (Builtin.«list.sort» ⟨[.ref a],[]⟩) P E s:=by
  have lv:(rows.map rf).length=rows.length:=List.length_map ..
  have sz:¬((rows.map rf).toArray).size < 2:=by rw [List.size_toArray,lv]; omega
  have few:((rows.map rf).toArray).size≤sizeLine:=by rw [List.size_toArray,lv]; exact Nat.le_trans (Nat.le_of_lt h64) (by decide)
  obtain ⟨c1,o1⟩:∃c1,(s.heap.update a (Obj.mapSeq fun _=>(#[]:Array Value))).get? a=some (seqObj "list" #[] c1):=⟨_,get?_update_seq ho _⟩
  have o3:=Heap.get?_push_of_some { cls:=.type "list",data:=.seq #[] } (Heap.get?_push_of_some { cls:=.type "tuple",data:=.seq (rows.map rf).toArray } o1)
  have k3:∀b o,b≠a→s.heap.get? b=some o→(((s.heap.update a (Obj.mapSeq fun _=>(#[]:Array Value))).push { cls:=.type "tuple",data:=.seq (rows.map rf).toArray }).push { cls:=.type "list",data:=.seq #[] }).get? b=some o:=fun b o nb e=>
    Heap.get?_push_of_some _ (Heap.get?_push_of_some _ (by rw [Heap.get?_update_ne _ _ _ _ nb]; exact e))
  rw [list_sort_plain]
  refine wpAny_bind (listItems_at ho rfl (wpAny_bind (listUpdate_at ho rfl (wpAny_bind (seqEpoch_at o1 rfl (wpAny_bind (wpAny_newTuple (wpAny_bind (wpAny_newList (wpAny_holding ?_) (Nat.zero_le _))) few)))) few (Nat.zero_le _))))
  dsimp only
  rw [if_neg sz]
  generalize ((s.heap.update a (Obj.mapSeq fun _=>(#[]:Array Value))).push { cls:=.type "tuple",data:=.seq (rows.map rf).toArray }).push { cls:=.type "list",data:=.seq #[] }=h3 at o3 k3
  have r3:∀r∈rows,RowAt h3 m r:=fun r hr'=>(hr r hr').keep fun o e=>k3 _ o (row_ne (hr r hr') ho fun z=>absurd (Value.type.inj z) (by decide)) e
  obtain ⟨fs,lf,tf,hf⟩:=RowAt.first hm r3
  refine wpAny_bind (kat_kind (s:={ s with heap:=h3 }) (T:=.type "int") tf (by omega) (fun v hv=>?_) (by rfl) ?_)
  · obtain ⟨i,t,rfl⟩:=hf v hv
    exact Looks.of_pure rfl
  rw [show (Value.type "int" != Value.type "tuple")=true from by decide,if_neg sz]
  have za:(((rows.map rf).toArray).zip ((rows.map rf).toArray)).toList=rows.map fun r=>(rf r,rf r):=by
    rw [Array.toList_zip,List.toList_toArray]
    exact zip_same rows
  refine wpAny_bind (wpAny_mono (SR.r_runs (s:={ s with heap:=h3 }) (κ:=tuples' true) (U:=fun x=>∃r∈rows,x=(rf r,rf r)) (keyK_ord (rows:=rows) fun r hr'=>(hr r hr').1) (fun x y ux uy=>?_) (fun x hx=>?_) (Q:=fun _ st=>failedOf st=none∧∃rows',(arrOf st).map (·.2)=(rows'.map rf).toArray∧rows'.Perm rows∧RUp rows') fun st' pe fl inc=>⟨fl,?_⟩) ?_ fun _ _ e=>e)
  · obtain ⟨r,hr1,rfl⟩:=ux
    obtain ⟨r',hr2,rfl⟩:=uy
    refine row_lt (s:={ s with heap:=h3 }) (r3 r hr1) (r3 r' hr2) ⟨rfl,?_⟩
    dsimp only
    rw [keyK_of r3 hr1,keyK_of r3 hr2]
  · rw [za] at hx
    obtain ⟨r,hr1,rfl⟩:=List.mem_map.mp hx
    exact ⟨r,hr1,rfl⟩
  · have pl:=Array.perm_iff_toList_perm.mp pe
    rw [za] at pl
    obtain ⟨rows',p',e'⟩:=perm_map' pl
    refine ⟨rows',?_,p',?_⟩
    · apply Array.toList_inj.mp
      rw [Array.toList_map,e',List.map_map]
      rfl
    · unfold RUp
      have:=inc
      rw [e',SR.Inc,List.pairwise_map] at this
      refine this.imp_of_mem fun {x y} hx hy h=>?_
      have h':lexB (keyK m rows (rf y,rf y)) (keyK m rows (rf x,rf x))=false:=h
      rw [keyK_of r3 (p'.mem_iff.mp hx),keyK_of r3 (p'.mem_iff.mp hy)] at h'
      exact h'
  · rintro ⟨⟨⟩,st⟩ s' ⟨rfl,fl,rows',ar,pr,up⟩
    dsimp only
    rw [ar,fl]
    have few':((rows'.map rf).toArray).size≤sizeLine:=by rw [List.size_toArray,List.length_map,pr.length_eq]; exact Nat.le_trans (Nat.le_of_lt h64) (by decide)
    refine wpAny_bind (seqEpoch_at o3 rfl (wpAny_bind (listUpdate_at o3 rfl ?_ (Nat.zero_le _) (Nat.le_succ_of_le few'))))
    rw [if_neg (by simp)]
    refine wpAny_pure (h _ rows' _ pr up (get?_update_seq o3 _) fun b o nb e=>?_)
    rw [Heap.get?_update_ne _ _ _ _ nb]
    exact k3 b o nb e
theorem sort_few {c:Nat} {P:PySem.Fin→Shared→Prop} (ho:s.heap.get? a=some (seqObj "list" (rows.map rf).toArray c)) (h2:rows.length < 2)
    (h:∀h' c',h'.get? a=some (seqObj "list" (rows.map rf).toArray c')→(∀b o,b≠a→s.heap.get? b=some o→h'.get? b=some o)→P (.done (.ret .none)) { s with heap:=h' }) :
    wpAny (model prog w) A (Builtin.«list.sort» ⟨[.ref a],[]⟩) P E s:=by
  have lv:(rows.map rf).length=rows.length:=List.length_map ..
  have sz:((rows.map rf).toArray).size < 2:=by rw [List.size_toArray,lv]; exact h2
  have few:((rows.map rf).toArray).size≤sizeLine:=Nat.le_trans (Nat.le_of_lt sz) (by decide)
  have zz:Array.map (fun x=>x.snd) (((rows.map rf).toArray).zip ((rows.map rf).toArray))=(rows.map rf).toArray:=by
    apply Array.toList_inj.mp
    rw [Array.toList_map,Array.toList_zip,List.toList_toArray]
    exact List.map_snd_zip (Nat.le_refl _)
  obtain ⟨c1,o1⟩:∃c1,(s.heap.update a (Obj.mapSeq fun _=>(#[]:Array Value))).get? a=some (seqObj "list" #[] c1):=⟨_,get?_update_seq ho _⟩
  rw [list_sort_plain]
  refine wpAny_bind (listItems_at ho rfl (wpAny_bind (listUpdate_at ho rfl (wpAny_bind (seqEpoch_at o1 rfl (wpAny_bind (wpAny_newTuple (wpAny_bind (wpAny_newList (wpAny_holding ?_) (Nat.zero_le _))) few)))) few (Nat.zero_le _))))
  dsimp only
  rw [if_pos sz]
  refine wpAny_bind (wpAny_pure ?_)
  rw [if_pos sz]
  refine wpAny_bind (wpAny_pure ?_)
  dsimp only
  rw [show arrOf (SortSt.mk' general' (((rows.map rf).toArray).zip ((rows.map rf).toArray)) #[] 7 none)=((rows.map rf).toArray).zip ((rows.map rf).toArray) from rfl,zz]
  have o3:=Heap.get?_push_of_some { cls:=.type "list",data:=.seq #[] } (Heap.get?_push_of_some { cls:=.type "tuple",data:=.seq (rows.map rf).toArray } o1)
  refine wpAny_bind (seqEpoch_at o3 rfl (wpAny_bind (listUpdate_at o3 rfl ?_ (Nat.zero_le _) (Nat.le_succ_of_le few))))
  rw [if_neg (by simp)]
  refine wpAny_pure (h _ _ (get?_update_seq o3 _) fun b o nb e=>?_)
  rw [Heap.get?_update_ne _ _ _ _ nb]
  refine Heap.get?_push_of_some _ (Heap.get?_push_of_some _ ?_)
  rw [Heap.get?_update_ne _ _ _ _ nb]
  exact e
theorem sort_rows {c:Nat} {P:PySem.Fin→Shared→Prop} (hm:1≤m) (ho:s.heap.get? a=some (seqObj "list" (rows.map rf).toArray c)) (hr:∀r∈rows,RowAt s.heap m r) (h64:rows.length < 1000)
    (h:∀h' rows' c',rows'.Perm rows→RUp rows'→h'.get? a=some (seqObj "list" (rows'.map rf).toArray c')→(∀b o,b≠a→s.heap.get? b=some o→h'.get? b=some o)→P (.done (.ret .none)) { s with heap:=h' }) :
    wpAny (model prog w) A (Builtin.«list.sort» ⟨[.ref a],[]⟩) P E s:=by
  by_cases c2:2≤rows.length
  · exact sort_many hm ho hr c2 h64 h
  · refine sort_few ho (by omega) fun h' c' e1 e2=>h h' rows c' (List.Perm.refl _) ?_ e1 e2
    unfold RUp
    match rows,c2 with
    | [],_=>exact List.Pairwise.nil
    | [r],_=>exact List.pairwise_singleton _ _
    | _ :: _ :: l,c2=>exact absurd (by simp) c2
end
end ST
end L2
namespace L2
open PySem PySem.Spec PySem.W PyProof.Rows
namespace ST
section
variable {prog:Program} {w:World} {A:Around} {E:Value→Shared→Prop} {s:Shared} {m:Nat} {S:List (Addr × List Int)→Prop}
theorem sorted_src {src:Value} {Q:Value→Shared→Prop} (hm:1≤m)
    (col:∀Q':List Value→Shared→Prop,(∀rows h1 tk,S rows→(∀r∈rows,RowAt s.heap m r)→rows.length < 1000→s.heap.objs.size≤h1.objs.size→(∀b o,s.heap.get? b=some o→h1.get? b=some o)→Q' (rows.map rf) { s with heap:=h1,toks:=tk })→wpAny (model prog w) A.in1 (collect src) Q' E s)
    (h:∀a h' tk rows rows' c,S rows→(∀r∈rows,RowAt s.heap m r)→rows'.Perm rows→RUp rows'→rows.length < 1000→s.heap.objs.size≤a→h'.get? a=some (seqObj "list" (rows'.map rf).toArray c)→(∀b o,s.heap.get? b=some o→h'.get? b=some o)→Q (.ref a) { s with heap:=h',toks:=tk }) :
    wpAny (model prog w) A (call (.builtin "sorted") [src]) Q E s:=by
  refine Calls.call_function_entry kind_sorted plain_sorted entry_sorted (args_sorted1 _) ?_
  unfold Builtin.«sorted»
  refine wpAny_bind (m:=checkCount "sorted" 1 1 _) (wpAny_pure (wpAny_bind (col _ fun rows h1 tk hS hr h64 le keep=>?_)))
  have lv:(rows.map rf).length=rows.length:=List.length_map ..
  refine wpAny_bind (wpAny_newList ?_ (by rw [lv]; exact Nat.le_trans (Nat.le_of_lt h64) (by decide)))
  dsimp only
  have ho:(h1.push { cls:=.type "list",data:=.seq (rows.map rf).toArray }).get? h1.objs.size=some (seqObj "list" (rows.map rf).toArray 0):=Heap.get?_push_size _ rfl
  refine wpAny_bind (wpAny_holding (wpAny_call_entry slot_list_sort ⟨_,ho,rfl⟩ entry_list_sort (sort_rows (s:={ s with heap:=h1.push { cls:=.type "list",data:=.seq (rows.map rf).toArray },toks:=tk }) hm ho (fun r hr'=>(hr r hr').keep fun o e=>Heap.get?_push_of_some _ (keep _ o e)) h64 fun h' rows' c' pr up ho' k'=>⟨_,rfl,?_⟩) (args_list_sort _)))
  exact wpAny_pure ⟨_,rfl,h _ h' _ rows rows' c' hS hr pr up h64 le ho' fun b o e=>k' b o (Nat.ne_of_lt (Heap.lt_size (keep b o e))) (Heap.get?_push_of_some _ (keep b o e))⟩
end
end ST
end L2
namespace L2
open PySem
namespace ST
def nth (t:SetTable) (p:SetTable.Probe):Nat→SetTable.Probe
  | 0=>p
  | n + 1=>nth t (t.advance p) n
theorem nth_succ (t:SetTable):∀(n:Nat) (p:SetTable.Probe),nth t p (n + 1)=t.advance (nth t p n)
  | 0,_=>rfl
  | n + 1,p=>nth_succ t n (t.advance p)
theorem nth_add (t:SetTable):∀(a b:Nat) (p:SetTable.Probe),nth t p (a + b)=nth t (nth t p a) b
  | 0,b,p=>by rw [Nat.zero_add]; rfl
  | a + 1,b,p=>by rw [show a + 1 + b=(a + b) + 1 by omega]; exact nth_add t a b (t.advance p)
def beg (t:SetTable) (i q:Nat):SetTable.Probe:=⟨i,SetTable.runEnd t.mask i - i,i,q,none⟩
theorem start_beg (t:SetTable) (h:Int):t.probeStart h=beg t (SetTable.bits h % (t.mask + 1)) (SetTable.bits h):=rfl
theorem run_le (m i:Nat):SetTable.runEnd m i - i≤9:=by
  unfold SetTable.runEnd
  split <;> omega
theorem adv_in {t:SetTable} {p:SetTable.Probe} (h:0 < p.more):t.advance p={ p with j:=p.j + 1,more:=p.more - 1 }:=by
  unfold SetTable.advance
  rw [if_pos h]
theorem adv_out {t:SetTable} {p:SetTable.Probe} (h:p.more=0) (d:p.dummy=none):t.advance p=beg t ((p.i * 5 + 1 + p.perturb / 32) % (t.mask + 1)) (p.perturb / 32):=by
  unfold SetTable.advance
  rw [if_neg (by omega)]
  unfold SetTable.leap beg
  rw [d]
theorem nth_run (t:SetTable) (i q:Nat):∀k,k≤SetTable.runEnd t.mask i - i→nth t (beg t i q) k=⟨i + k,SetTable.runEnd t.mask i - i - k,i,q,none⟩
  | 0,_=>rfl
  | k + 1,h=>by
    rw [nth_succ,nth_run t i q k (by omega),adv_in (by show 0 < SetTable.runEnd t.mask i - i - k; omega)]
    show (⟨i + k + 1,SetTable.runEnd t.mask i - i - k - 1,i,q,none⟩:SetTable.Probe)=_
    rw [show i + k + 1=i + (k + 1) by omega,show SetTable.runEnd t.mask i - i - k - 1=SetTable.runEnd t.mask i - i - (k + 1) by omega]
theorem nth_leap (t:SetTable) (i q:Nat):nth t (beg t i q) (SetTable.runEnd t.mask i - i + 1)=beg t ((i * 5 + 1 + q / 32) % (t.mask + 1)) (q / 32):=by
  rw [nth_succ,nth_run t i q _ (Nat.le_refl _),adv_out (by show SetTable.runEnd t.mask i - i - (SetTable.runEnd t.mask i - i)=0; omega) rfl]
theorem leaps (t:SetTable):∀(k i q:Nat),i≤t.mask→∃n i',n≤10 * k∧i'≤t.mask∧nth t (beg t i q) n=beg t i' (q / 32 ^ k)
  | 0,i,q,hi=>⟨0,i,Nat.zero_le _,hi,by rw [Nat.pow_zero,Nat.div_one]; rfl⟩
  | k + 1,i,q,hi=>by
    have h1:=run_le t.mask i
    have h2:(i * 5 + 1 + q / 32) % (t.mask + 1)≤t.mask:=Nat.le_of_lt_succ (Nat.mod_lt _ (Nat.succ_pos _))
    obtain ⟨n,i',hn,hi',e⟩:=leaps t k _ (q / 32) h2
    refine ⟨SetTable.runEnd t.mask i - i + 1 + n,i',by omega,hi',?_⟩
    rw [nth_add,nth_leap,e,Nat.div_div_eq_div_mul,Nat.pow_succ,Nat.mul_comm 32]
theorem adv_mask {t u:SetTable} (h:t.mask=u.mask) (p:SetTable.Probe):t.advance p=u.advance p:=by
  unfold SetTable.advance
  rw [h]
theorem nth_mask {t u:SetTable} (h:t.mask=u.mask):∀(n:Nat) (p:SetTable.Probe),nth t p n=nth u p n
  | 0,_=>rfl
  | n + 1,p=>by
    show nth t (t.advance p) n=nth u (u.advance p) n
    rw [adv_mask h,nth_mask h n]
def it (m:Nat):Nat→Nat→Nat
  | 0,i=>i
  | k + 1,i=>it m k ((i * 5 + 1) % (m + 1))
theorem it_add (m:Nat):∀(a b i:Nat),it m (a + b) i=it m b (it m a i)
  | 0,b,i=>by rw [Nat.zero_add]; rfl
  | a + 1,b,i=>by rw [show a + 1 + b=(a + b) + 1 by omega]; exact it_add m a b _
def meets (m j:Nat):Nat→Nat→Bool
  | 0,_=>false
  | n + 1,i=>Nat.beq i j || meets m j n ((i * 5 + 1) % (m + 1))
theorem meets_it (m j:Nat):∀(n i:Nat),meets m j n i=true→∃k,k < n∧it m k i=j
  | 0,i,h=>by cases h
  | n + 1,i,h=>by
    unfold meets at h
    rcases Bool.or_eq_true_iff.mp h with h | h
    · exact ⟨0,Nat.succ_pos _,Nat.eq_of_beq_eq_true h⟩
    · obtain ⟨k,hk,e⟩:=meets_it m j n _ h
      exact ⟨k + 1,Nat.succ_lt_succ hk,e⟩
def whole (m:Nat):Bool:=(List.range (m + 1)).all (fun j=>meets m j (m + 1) 0) && Nat.beq (it m (m + 1) 0) 0
theorem whole7:whole 7=true:=by decide +kernel
theorem whole31:whole 31=true:=by decide +kernel
theorem whole127:whole 127=true:=by decide +kernel
theorem whole511:whole 511=true:=by decide +kernel
def Small (t:SetTable):Prop:=t.mask=7∨t.mask=31∨t.mask=127∨t.mask=511
theorem whole_of {m:Nat} (h:m=7∨m=31∨m=127∨m=511):whole m=true:=by
  rcases h with rfl | rfl | rfl | rfl
  · exact whole7
  · exact whole31
  · exact whole127
  · exact whole511
theorem it_all {m:Nat} (h:whole m=true) {i j:Nat} (hi:i≤m) (hj:j≤m):∃k,k≤m∧it m k i=j:=by
  obtain ⟨h1,h2⟩:=Bool.and_eq_true_iff.mp h
  have per:it m (m + 1) 0=0:=Nat.eq_of_beq_eq_true h2
  obtain ⟨a,ha,ea⟩:=meets_it m i _ _ (List.all_eq_true.mp h1 i (List.mem_range.mpr (Nat.lt_succ_of_le hi)))
  obtain ⟨b,hb,eb⟩:=meets_it m j _ _ (List.all_eq_true.mp h1 j (List.mem_range.mpr (Nat.lt_succ_of_le hj)))
  by_cases c:a≤b
  · refine ⟨b - a,by omega,?_⟩
    rw [←ea,←it_add,show a + (b - a)=b by omega,eb]
  · refine ⟨b + (m + 1) - a,by omega,?_⟩
    rw [←ea,←it_add,show a + (b + (m + 1) - a)=(m + 1) + b by omega,it_add,per,eb]
theorem leaps0 (t:SetTable):∀(k i:Nat),∃n,n≤10 * k∧nth t (beg t i 0) n=beg t (it t.mask k i) 0
  | 0,i=>⟨0,Nat.zero_le _,rfl⟩
  | k + 1,i=>by
    have h1:=run_le t.mask i
    obtain ⟨n,hn,e⟩:=leaps0 t k ((i * 5 + 1) % (t.mask + 1))
    refine ⟨SetTable.runEnd t.mask i - i + 1 + n,by omega,?_⟩
    rw [nth_add,nth_leap,Nat.zero_div,Nat.add_zero,e]
    rfl
theorem bits_lt (h:Int):SetTable.bits h < 2 ^ 64:=by
  unfold SetTable.bits
  have h1:=Int.emod_nonneg h (show (2 ^ 64:Int)≠0 by decide)
  have h2:=Int.emod_lt_of_pos h (show (0:Int) < 2 ^ 64 by decide)
  omega
theorem covers {t:SetTable} (s:Small t) (h:Int) {j:Nat} (hj:j≤t.mask):∃n,n < 10 * SetTable.turns t.mask∧(nth t (t.probeStart h) n).j=j:=by
  obtain ⟨n,i,hn,hi,e⟩:=leaps t 13 (SetTable.bits h % (t.mask + 1)) (SetTable.bits h) (Nat.le_of_lt_succ (Nat.mod_lt _ (Nat.succ_pos _)))
  have q0:SetTable.bits h / 32 ^ 13=0:=Nat.div_eq_of_lt (Nat.lt_of_lt_of_le (bits_lt h) (by decide))
  rw [q0] at e
  obtain ⟨k,hk,ek⟩:=it_all (whole_of s) hi hj
  obtain ⟨n',hn',e'⟩:=leaps0 t k i
  refine ⟨n + n',?_,?_⟩
  · unfold SetTable.turns
    omega
  · rw [start_beg,nth_add,e,e',ek]
    rfl
end ST
end L2
namespace L2
open PySem
namespace ST
def Rise (xs:Array Nat):Prop:=∀a b,a < b→b < xs.size→xs.getD a 0 < xs.getD b 0
theorem getD_any {xs:Array Nat} {k:Nat} (h:k < xs.size) (a b:Nat):xs.getD k a=xs.getD k b:=by
  rw [Array.getD_eq_getD_getElem?,Array.getD_eq_getD_getElem?,Array.getElem?_eq_getElem h]
  rfl
theorem getD_at {xs:Array Nat} {k j:Nat} (h:xs[k]? = some j) (a:Nat):xs.getD k a=j:=by
  rw [Array.getD_eq_getD_getElem?,h]
  rfl
theorem at_getD {xs:Array Nat} {k:Nat} (h:k < xs.size):xs[k]? = some (xs.getD k 0):=by
  rw [Array.getD_eq_getD_getElem?,Array.getElem?_eq_getElem h]
  rfl
structure Bel (xs:Array Nat) (j r:Nat):Prop where
  le:r≤xs.size
  lo:∀k,k < r→xs.getD k 0 < j
  hi:∀k,r≤k→k < xs.size→j≤xs.getD k 0
theorem below_go {xs:Array Nat} (R:Rise xs) {j:Nat}:∀(n lo hi:Nat),hi - lo≤n→lo≤hi→hi≤xs.size→(∀k,k < lo→xs.getD k 0 < j)→(∀k,hi≤k→k < xs.size→j≤xs.getD k 0)→Bel xs j (SetTable.below.go xs j n lo hi)
  | 0,lo,hi,h1,h2,h3,h4,h5=>by
    unfold SetTable.below.go
    exact ⟨by omega,h4,fun k a b=>h5 k (by omega) b⟩
  | n + 1,lo,hi,h1,h2,h3,h4,h5=>by
    unfold SetTable.below.go
    by_cases c:lo < hi
    · rw [if_pos c]
      have hm:(lo + hi) / 2 < xs.size:=by omega
      dsimp only
      rw [getD_any hm j 0]
      by_cases d:xs.getD ((lo + hi) / 2) 0 < j
      · rw [if_pos d]
        refine below_go R n _ hi (by omega) (by omega) h3 (fun k hk=>?_) h5
        by_cases e:k=(lo + hi) / 2
        · rw [e]; exact d
        · exact Nat.lt_trans (R k _ (by omega) hm) d
      · rw [if_neg d]
        refine below_go R n lo _ (by omega) (by omega) (by omega) h4 fun k a b=>?_
        by_cases e:k=(lo + hi) / 2
        · rw [e]; omega
        · have:=R ((lo + hi) / 2) k (by omega) b
          omega
    · rw [if_neg c]
      exact ⟨by omega,h4,fun k a b=>h5 k (by omega) b⟩
theorem below_ok {xs:Array Nat} (R:Rise xs) (j:Nat):Bel xs j (SetTable.below xs j):=
  below_go R _ 0 _ (by omega) (Nat.zero_le _) (Nat.le_refl _) (fun k h=>absurd h (Nat.not_lt_zero _)) fun k a b=>by omega
theorem below_at {xs:Array Nat} (R:Rise xs) {i j:Nat} (h:xs[i]? = some j):SetTable.below xs j=i:=by
  have B:=below_ok R j
  have hi:i < xs.size:=(Array.getElem?_eq_some_iff.mp h).1
  have e:=getD_at h 0
  rcases Nat.lt_trichotomy (SetTable.below xs j) i with c | c | c
  · have h1:=B.hi _ (Nat.le_refl _) (by omega)
    have h2:=R _ _ c hi
    omega
  · exact c
  · have:=B.lo i c
    omega
def On (t:SetTable) (j:Nat):Prop:=∃i:Nat,t.place[i]? = some j
theorem slot_on {t:SetTable} (R:Rise t.place) {i j:Nat} (h:t.place[i]? = some j):t.slot j = .live i:=by
  unfold SetTable.slot
  dsimp only
  rw [below_at R h,h,if_pos (by simp)]
theorem has_nil (j:Nat):SetTable.has #[] j=false:=by
  unfold SetTable.has
  rfl
theorem slot_off {t:SetTable} (d:t.dummies = #[]) {j:Nat} (h:¬On t j):t.slot j = .empty:=by
  unfold SetTable.slot
  dsimp only
  have:(t.place[SetTable.below t.place j]? == some j)=false:=by
    rw [beq_eq_false_iff_ne]
    exact fun e=>h ⟨_,e⟩
  rw [this,d,has_nil]
  rfl
theorem nth_dummy {t:SetTable}:∀(n:Nat) {p:SetTable.Probe},p.dummy=none→(nth t p n).dummy=none
  | 0,_,h=>h
  | n + 1,p,h=>by
    refine nth_dummy n ?_
    unfold SetTable.advance
    split
    · exact h
    · exact h
theorem go_empty {t:SetTable} {hashAt:Nat→Int} {h:Int} (R:Rise t.place) (d:t.dummies = #[]):∀(fuel e:Nat) (p:SetTable.Probe),p.dummy=none→e < fuel→¬On t (nth t p e).j→(∀m,m < e→∃i,t.place[i]? = some (nth t p m).j∧hashAt i≠h)→
    SetTable.probe.go t hashAt h fuel p=some (.empty (nth t p e).j none)
  | 0,_,_,_,hf,_,_=>absurd hf (Nat.not_lt_zero _)
  | fuel + 1,0,p,hd,_,he,_=>by
    unfold SetTable.probe.go
    rw [slot_off d (show ¬On t p.j from he)]
    show some (SetTable.Met.empty p.j p.dummy)=_
    rw [hd]
    rfl
  | fuel + 1,e + 1,p,hd,hf,he,hm=>by
    obtain ⟨i,hi,hh⟩:=hm 0 (Nat.succ_pos _)
    unfold SetTable.probe.go
    rw [slot_on R (show t.place[i]? = some p.j from hi)]
    show (if (hashAt i == h)=true then _ else _)=_
    rw [if_neg (by rw [beq_iff_eq]; exact hh)]
    exact go_empty R d fuel e (t.advance p) (nth_dummy 1 hd) (Nat.lt_of_succ_lt_succ hf) he fun m h'=>hm (m + 1) (Nat.succ_lt_succ h')
theorem go_cand {t:SetTable} {hashAt:Nat→Int} {h:Int} (R:Rise t.place):∀(fuel k i:Nat) (p:SetTable.Probe),k < fuel→t.place[i]? = some (nth t p k).j→hashAt i=h→(∀m,m < k→∃i,t.place[i]? = some (nth t p m).j∧hashAt i≠h)→
    SetTable.probe.go t hashAt h fuel p=some (.candidate (nth t p k).j i (nth t p (k + 1)))
  | 0,_,_,_,hf,_,_,_=>absurd hf (Nat.not_lt_zero _)
  | fuel + 1,0,i,p,_,hi,hh,_=>by
    unfold SetTable.probe.go
    rw [slot_on R (show t.place[i]? = some p.j from hi)]
    show (if (hashAt i == h)=true then _ else _)=_
    rw [if_pos (by rw [beq_iff_eq]; exact hh)]
    rfl
  | fuel + 1,k + 1,i,p,hf,hi,hh,hm=>by
    obtain ⟨i',hi',hh'⟩:=hm 0 (Nat.succ_pos _)
    unfold SetTable.probe.go
    rw [slot_on R (show t.place[i']? = some p.j from hi')]
    show (if (hashAt i' == h)=true then _ else _)=_
    rw [if_neg (by rw [beq_iff_eq]; exact hh')]
    exact go_cand R fuel k i (t.advance p) (Nat.lt_of_succ_lt_succ hf) hi hh fun m h'=>hm (m + 1) (Nat.succ_lt_succ h')
structure TB (t:SetTable) (hs:List Int):Prop where
  dum:t.dummies = #[]
  len:t.place.size=hs.length
  rise:Rise t.place
  top:∀(i j:Nat),t.place[i]? = some j→j≤t.mask
  reach:∀(i:Nat) (h:Int),hs[i]? = some h→∃n,t.place[i]? = some (nth t (t.probeStart h) n).j∧∀m,m < n→On t (nth t (t.probeStart h) m).j
structure TOk (t:SetTable) (hs:List Int):Prop extends TB t hs where
  small:t.mask=7∧hs.length≤4∨t.mask=31∧hs.length≤18∨t.mask=127∧hs.length≤76∨t.mask=511∧hs.length≤306
theorem TOk.sm {t:SetTable} {hs:List Int} (T:TOk t hs):Small t:=by
  rcases T.small with ⟨h,_⟩ | ⟨h,_⟩ | ⟨h,_⟩ | ⟨h,_⟩
  · exact Or.inl h
  · exact Or.inr (Or.inl h)
  · exact Or.inr (Or.inr (Or.inl h))
  · exact Or.inr (Or.inr (Or.inr h))
theorem nd_sub {α:Type} [DecidableEq α]:∀{A B:List α},A.Nodup→(∀x∈A,x∈B)→A.length≤B.length
  | [],_,_,_=>Nat.zero_le _
  | a :: A,B,nd,h=>by
    obtain ⟨n1,n2⟩:=List.nodup_cons.mp nd
    have h1:a∈B:=h a (List.mem_cons_self ..)
    have h2:A.length≤(B.erase a).length:=nd_sub n2 fun x hx=>(List.mem_erase_of_ne (fun (e:x=a)=>n1 (e ▸ hx))).mpr (h x (List.mem_cons_of_mem _ hx))
    rw [List.length_erase_of_mem h1] at h2
    have h3:0 < B.length:=List.length_pos_of_mem h1
    rw [List.length_cons]
    omega
theorem TOk.free {t:SetTable} {hs:List Int} (T:TOk t hs):∃j,j≤t.mask∧¬On t j:=Classical.byContradiction fun no=>by
  have all:∀x∈List.range (t.mask + 1),x∈t.place.toList:=fun x hx=>Classical.byContradiction fun n=>no ⟨x,Nat.le_of_lt_succ (List.mem_range.mp hx),fun ⟨i,hi⟩=>n (by
    rw [←Array.getElem?_toList] at hi
    exact List.mem_of_getElem? hi)⟩
  have:=nd_sub List.nodup_range all
  rw [List.length_range,Array.length_toList,T.len] at this
  rcases T.small with ⟨h1,h2⟩ | ⟨h1,h2⟩ | ⟨h1,h2⟩ | ⟨h1,h2⟩ <;> omega
theorem least {P:Nat→Prop}:∀(N n:Nat),n < N→P n→∃k,k≤n∧P k∧∀m,m < k→¬P m
  | 0,_,h,_=>absurd h (Nat.not_lt_zero _)
  | N + 1,n,hn,hp=>by
    by_cases c:∃m,m < n∧P m
    · obtain ⟨m,hm,pm⟩:=c
      obtain ⟨k,a,b,e⟩:=least N m (by omega) pm
      exact ⟨k,by omega,b,e⟩
    · exact ⟨n,Nat.le_refl _,hp,fun m hm pm=>c ⟨m,hm,pm⟩⟩
theorem TOk.first {t:SetTable} {hs:List Int} (T:TOk t hs) (h:Int):∃e,e < 10 * SetTable.turns t.mask∧¬On t (nth t (t.probeStart h) e).j∧(nth t (t.probeStart h) e).j≤t.mask∧∀m,m < e→On t (nth t (t.probeStart h) m).j:=by
  obtain ⟨j,hj,nj⟩:=T.free
  obtain ⟨n,hn,en⟩:=covers T.sm h hj
  obtain ⟨k,h1,h2,h3⟩:=least (P:=fun n=>¬On t (nth t (t.probeStart h) n).j) _ n (Nat.lt_succ_self n) (by rw [en]; exact nj)
  refine ⟨k,by omega,h2,nth_le t k h,fun m hm=>Classical.byContradiction fun z=>h3 m hm z⟩
where
  nth_le (t:SetTable) (k:Nat) (h:Int):(nth t (t.probeStart h) k).j≤t.mask:=by
    have key:∀(k:Nat) (p:SetTable.Probe),p.j + p.more≤t.mask→(nth t p k).j≤t.mask:=fun k=>by
      induction k with
      | zero=>intro p hp; exact Nat.le_trans (Nat.le_add_right _ _) hp
      | succ k ih=>
        intro p hp
        refine ih (t.advance p) ?_
        unfold SetTable.advance
        split
        · show p.j + 1 + (p.more - 1)≤t.mask
          omega
        · show (SetTable.leap t.mask p.i p.perturb).1 + (SetTable.runEnd t.mask (SetTable.leap t.mask p.i p.perturb).1 - (SetTable.leap t.mask p.i p.perturb).1)≤t.mask
          have:(SetTable.leap t.mask p.i p.perturb).1≤t.mask:=Nat.le_of_lt_succ (Nat.mod_lt _ (Nat.succ_pos _))
          generalize (SetTable.leap t.mask p.i p.perturb).1=i at this ⊢
          unfold SetTable.runEnd
          split <;> omega
    refine key k _ ?_
    show SetTable.bits h % (t.mask + 1) + (SetTable.runEnd t.mask (SetTable.bits h % (t.mask + 1)) - SetTable.bits h % (t.mask + 1))≤t.mask
    have:SetTable.bits h % (t.mask + 1)≤t.mask:=Nat.le_of_lt_succ (Nat.mod_lt _ (Nat.succ_pos _))
    generalize SetTable.bits h % (t.mask + 1)=i at this ⊢
    unfold SetTable.runEnd
    split <;> omega
end ST
end L2
namespace L2
open PySem
namespace ST
def insL {α:Type} (l:List α) (p:Nat) (x:α):List α:=l.take p++x :: l.drop p
theorem insL_get {α:Type} {l:List α} {p:Nat} (hp:p≤l.length) (x:α) (k:Nat):(insL l p x)[k]? = if k < p then l[k]? else if k=p then some x else l[k - 1]?:=by
  unfold insL
  have lt:(l.take p).length=p:=by rw [List.length_take]; omega
  by_cases c:k < p
  · rw [if_pos c,List.getElem?_append_left (by omega),List.getElem?_take_of_lt c]
  · rw [if_neg c,List.getElem?_append_right (by omega),lt]
    by_cases d:k=p
    · rw [if_pos d,d,Nat.sub_self]; rfl
    · rw [if_neg d]
      obtain ⟨m,rfl⟩:∃m,k=p + 1 + m:=⟨k - (p + 1),by omega⟩
      rw [show p + 1 + m - p=m + 1 by omega,List.getElem?_cons_succ,List.getElem?_drop,show p + 1 + m - 1=p + m by omega]
theorem insL_len {α:Type} {l:List α} {p:Nat} (hp:p≤l.length) (x:α):(insL l p x).length=l.length + 1:=by
  unfold insL
  rw [List.length_append,List.length_take,List.length_cons,List.length_drop]
  omega
theorem insL_perm {α:Type} (l:List α) (p:Nat) (x:α):(insL l p x).Perm (x :: l):=by
  unfold insL
  refine List.perm_middle.trans ?_
  rw [List.take_append_drop]
theorem insL_map {α β:Type} (f:α→β) (l:List α) (p:Nat) (x:α):(insL l p x).map f=insL (l.map f) p (f x):=by
  unfold insL
  rw [List.map_append,List.map_cons,List.map_take,List.map_drop]
theorem ins_list {α:Type} (xs:Array α) (p:Nat) (x:α):(SetTable.insertAt xs p x).toList=insL xs.toList p x:=SetTable.toList_insertAt xs p x
theorem ins_get {xs:Array Nat} {p:Nat} (hp:p≤xs.size) (x k:Nat):(SetTable.insertAt xs p x)[k]? = if k < p then xs[k]? else if k=p then some x else xs[k - 1]?:=by
  rw [←Array.getElem?_toList,ins_list,insL_get (by rw [Array.length_toList]; exact hp),Array.getElem?_toList,Array.getElem?_toList]
theorem ins_size {α:Type} {xs:Array α} {p:Nat} (hp:p≤xs.size) (x:α):(SetTable.insertAt xs p x).size=xs.size + 1:=by
  rw [←Array.length_toList,ins_list,insL_len (by rw [Array.length_toList]; exact hp),Array.length_toList]
theorem rise_iff {xs:Array Nat}:Rise xs↔∀(a b x y:Nat),a < b→xs[a]? = some x→xs[b]? = some y→x < y:=by
  constructor
  · intro R a b x y h hx hy
    have:=R a b h (Array.getElem?_eq_some_iff.mp hy).1
    rw [getD_at hx,getD_at hy] at this
    exact this
  · intro h a b hab hb
    exact h a b _ _ hab (at_getD (by omega)) (at_getD hb)
theorem rise_ins {xs:Array Nat} (R:Rise xs) {j:Nat} (no:∀i:Nat,xs[i]?≠some j):Rise (SetTable.insertAt xs (SetTable.below xs j) j):=by
  have B:=below_ok R j
  rw [rise_iff] at R ⊢
  intro a b x y hab hx hy
  rw [ins_get B.le] at hx hy
  generalize SetTable.below xs j=p at B hx hy
  have lo:∀(k z:Nat),k < p→xs[k]? = some z→z < j:=fun k z hk hz=>by
    have:=B.lo k hk
    rwa [getD_at hz] at this
  have hi:∀(k z:Nat),p≤k→xs[k]? = some z→j < z:=fun k z hk hz=>by
    have:=B.hi k hk (Array.getElem?_eq_some_iff.mp hz).1
    rw [getD_at hz] at this
    exact Nat.lt_of_le_of_ne this fun e=>no k (e ▸ hz)
  by_cases c1:a < p
  · rw [if_pos c1] at hx
    by_cases c2:b < p
    · rw [if_pos c2] at hy
      exact R a b x y hab hx hy
    · rw [if_neg c2] at hy
      by_cases c3:b=p
      · rw [if_pos c3] at hy
        cases hy
        exact lo a x c1 hx
      · rw [if_neg c3] at hy
        exact R a (b - 1) x y (by omega) hx hy
  · rw [if_neg c1] at hx
    rw [if_neg (by omega),if_neg (by omega)] at hy
    by_cases c2:a=p
    · rw [if_pos c2] at hx
      cases hx
      exact hi (b - 1) y (by omega) hy
    · rw [if_neg c2] at hx
      exact R (a - 1) (b - 1) x y (by omega) hx hy
theorem put_dum {t:SetTable} (d:t.dummies = #[]) (j:Nat):(t.put j).1={ t with place:=SetTable.insertAt t.place (SetTable.below t.place j) j }:=by
  unfold SetTable.put
  dsimp only
  rw [d,has_nil]
  simp
theorem put_at (t:SetTable) (j:Nat):(t.put j).2=SetTable.below t.place j:=rfl
theorem on_ins {t:SetTable} {p j k:Nat} (hp:p≤t.place.size) (h:On t k):On { t with place:=SetTable.insertAt t.place p j } k:=by
  obtain ⟨i,hi⟩:=h
  by_cases c:i < p
  · exact ⟨i,by show (SetTable.insertAt t.place p j)[i]? = _; rw [ins_get hp,if_pos c]; exact hi⟩
  · exact ⟨i + 1,by show (SetTable.insertAt t.place p j)[i + 1]? = _; rw [ins_get hp,if_neg (by omega),if_neg (by omega)]; exact hi⟩
theorem TB.put {t:SetTable} {hs:List Int} (T:TB t hs) {h:Int} {e:Nat} (h1:¬On t (nth t (t.probeStart h) e).j) (h2:(nth t (t.probeStart h) e).j≤t.mask) (h3:∀m,m < e→On t (nth t (t.probeStart h) m).j) :
    TB (t.put (nth t (t.probeStart h) e).j).1 (insL hs (t.put (nth t (t.probeStart h) e).j).2 h):=by
  have B:=below_ok T.rise (nth t (t.probeStart h) e).j
  rw [put_dum T.dum,put_at]
  obtain ⟨j,ej⟩:∃j,j=(nth t (t.probeStart h) e).j:=⟨_,rfl⟩
  rw [←ej] at B h1 h2 ⊢
  obtain ⟨p,ep⟩:∃p,p=SetTable.below t.place j:=⟨_,rfl⟩
  rw [←ep] at B ⊢
  have hp:=B.le
  have hp':p≤hs.length:=by rw [←T.len]; exact hp
  refine ⟨T.dum,?_,?_,?_,?_⟩
  · show (SetTable.insertAt t.place p j).size=_
    rw [ins_size hp,insL_len hp',T.len]
  · show Rise (SetTable.insertAt t.place p j)
    rw [ep]
    exact rise_ins T.rise fun i hi=>h1 ⟨i,hi⟩
  · intro i k hk
    have hk':(SetTable.insertAt t.place p j)[i]? = some k:=hk
    rw [ins_get hp] at hk'
    split at hk'
    · exact T.top _ _ hk'
    · split at hk'
      · cases hk'; exact h2
      · exact T.top _ _ hk'
  · intro i g hg
    rw [insL_get hp'] at hg
    have same:∀n p',nth { t with place:=SetTable.insertAt t.place p j } p' n=nth t p' n:=fun n p'=>nth_mask (t:={ t with place:=SetTable.insertAt t.place p j }) (u:=t) rfl n p'
    have old:∀i',hs[i']? = some g→∀i:Nat,(SetTable.insertAt t.place p j)[i]? = t.place[i']?→∃n,({ t with place:=SetTable.insertAt t.place p j }:SetTable).place[i]? = some (nth { t with place:=SetTable.insertAt t.place p j } (SetTable.probeStart { t with place:=SetTable.insertAt t.place p j } g) n).j∧∀m,m < n→On { t with place:=SetTable.insertAt t.place p j } (nth { t with place:=SetTable.insertAt t.place p j } (SetTable.probeStart { t with place:=SetTable.insertAt t.place p j } g) m).j:=fun i' hi' i ei=>by
      obtain ⟨n,a,b⟩:=T.reach i' g hi'
      refine ⟨n,?_,fun m hm=>?_⟩
      · rw [same]
        exact ei.trans a
      · rw [same]
        exact on_ins hp (b m hm)
    by_cases c1:i < p
    · rw [if_pos c1] at hg
      exact old i hg i (by rw [ins_get hp,if_pos c1])
    · rw [if_neg c1] at hg
      by_cases c2:i=p
      · rw [if_pos c2] at hg
        cases hg
        refine ⟨e,?_,fun m hm=>?_⟩
        · rw [same]
          show (SetTable.insertAt t.place p j)[i]? = some (nth t (t.probeStart h) e).j
          rw [ins_get hp,if_neg c1,if_pos c2,ej]
        · rw [same]
          exact on_ins hp (h3 m hm)
      · rw [if_neg c2] at hg
        exact old (i - 1) hg i (by rw [ins_get hp,if_neg c1,if_neg c2])
end ST
end L2
namespace L2
open PySem
namespace ST
abbrev tM (M:Nat):SetTable:=⟨M,#[],#[],0,true,0,true⟩
abbrev Big (M:Nat):Prop:=M=7∨M=31∨M=127∨M=511
section
variable {M:Nat}
def lp (M:Nat):Nat→Nat→Nat→Nat × Nat
  | 0,i,q=>(i,q)
  | k + 1,i,q=>lp M k ((i * 5 + 1 + q / 32) % (M + 1)) (q / 32)
theorem lp_add:∀(a b i q:Nat),lp M (a + b) i q=lp M b (lp M a i q).1 (lp M a i q).2
  | 0,b,i,q=>by rw [Nat.zero_add]; rfl
  | a + 1,b,i,q=>by rw [show a + 1 + b=(a + b) + 1 by omega]; exact lp_add a b _ _
theorem lp_q:∀(k i q:Nat),(lp M k i q).2=q / 32 ^ k
  | 0,i,q=>by rw [Nat.pow_zero,Nat.div_one]; rfl
  | k + 1,i,q=>by
    show (lp M k _ (q / 32)).2=_
    rw [lp_q,Nat.div_div_eq_div_mul,Nat.pow_succ,Nat.mul_comm 32]
theorem lp_lt:∀(k i q:Nat),i < M + 1→(lp M k i q).1 < M + 1
  | 0,i,q,h=>h
  | k + 1,i,q,h=>lp_lt k _ _ (Nat.mod_lt _ (Nat.succ_pos _))
theorem lp_it:∀(k i:Nat),(lp M k i 0).1=it M k i
  | 0,i=>rfl
  | k + 1,i=>by
    show (lp M k ((i * 5 + 1 + 0 / 32) % (M + 1)) (0 / 32)).1=_
    rw [Nat.zero_div,Nat.add_zero,lp_it]
    rfl
theorem lp_covers (hM:Big M) (h:Int) {j:Nat} (hj:j < M + 1):∃k,k < SetTable.turns M∧(lp M k (SetTable.bits h % (M + 1)) (SetTable.bits h)).1=j:=by
  have q0:SetTable.bits h / 32 ^ 13=0:=Nat.div_eq_of_lt (Nat.lt_of_lt_of_le (bits_lt h) (by decide))
  have l1:=lp_lt (M:=M) 13 (SetTable.bits h % (M + 1)) (SetTable.bits h) (Nat.mod_lt _ (Nat.succ_pos _))
  have e1:=lp_q (M:=M) 13 (SetTable.bits h % (M + 1)) (SetTable.bits h)
  rw [q0] at e1
  obtain ⟨k,hk,e⟩:=it_all (whole_of hM) (Nat.le_of_lt_succ l1) (Nat.le_of_lt_succ hj)
  refine ⟨13 + k,by unfold SetTable.turns; omega,?_⟩
  rw [lp_add,e1,lp_it]
  exact e
theorem runM (i:Nat) (h:i < M + 1):SetTable.runEnd M i < M + 1∧i≤SetTable.runEnd M i:=by
  unfold SetTable.runEnd
  split <;> omega
theorem free_ok {owner:Array (Option Nat)} (sz:owner.size=M + 1):∀(fuel i q:Nat),i < M + 1→(∃k,k < fuel∧owner[(lp M k i q).1]? = some none)→
    ∃e,SetTable.layClean.free M owner fuel i q=some (nth (tM M) (beg (tM M) i q) e).j∧owner[(nth (tM M) (beg (tM M) i q) e).j]? = some none∧∀m,m < e→∃k:Nat,owner[(nth (tM M) (beg (tM M) i q) m).j]? = some (some k)
  | 0,i,q,hi,⟨k,hk,_⟩=>absurd hk (Nat.not_lt_zero _)
  | fuel + 1,i,q,hi,⟨k,hk,ek⟩=>by
    obtain ⟨r1,r2⟩:=runM i hi
    have pos:∀c,c≤SetTable.runEnd M i - i→(nth (tM M) (beg (tM M) i q) c).j=i + c:=fun c hc=>by rw [nth_run (tM M) i q c hc]
    have val:∀c,c≤SetTable.runEnd M i - i→∃o,owner[i + c]? = some o∧owner.getD (i + c) (some 0)=o:=fun c hc=>by
      have hb:i + c < owner.size:=by omega
      exact ⟨owner[i + c],Array.getElem?_eq_getElem hb,by rw [Array.getD_eq_getD_getElem?,Array.getElem?_eq_getElem hb]; rfl⟩
    unfold SetTable.layClean.free
    cases hf:(List.range (SetTable.runEnd M i + 1 - i)).find? fun k=>(owner.getD (i + k) (some 0)).isNone with
    | some c=>
      obtain ⟨a,b,d⟩:=List.find?_range_eq_some.mp hf
      have hc:c≤SetTable.runEnd M i - i:=by have:=List.mem_range.mp b; omega
      refine ⟨c,?_,?_,fun m hm=>?_⟩
      · show some (i + c)=_
        rw [pos c hc]
      · rw [pos c hc]
        obtain ⟨o,e1,e2⟩:=val c hc
        rw [e2] at a
        rw [e1,Option.isNone_iff_eq_none.mp a]
      · rw [pos m (by omega)]
        obtain ⟨o,e1,e2⟩:=val m (by omega)
        have:=d m hm
        rw [e2] at this
        cases o with
        | none=>simp at this
        | some k=>exact ⟨k,e1⟩
    | none=>
      have no:=List.find?_range_eq_none.mp hf
      have full:∀c,c≤SetTable.runEnd M i - i→∃k:Nat,owner[i + c]? = some (some k):=fun c hc=>by
        obtain ⟨o,e1,e2⟩:=val c hc
        have:=no c (by omega)
        rw [e2] at this
        cases o with
        | none=>simp at this
        | some k=>exact ⟨k,e1⟩
      have k1:k≠0:=fun z=>by
        subst z
        obtain ⟨k',e'⟩:=full 0 (Nat.zero_le _)
        have e2:owner[i]? = some none:=ek
        rw [Nat.add_zero] at e'
        rw [e'] at e2
        cases e2
      obtain ⟨k',rfl⟩:∃k',k=k' + 1:=⟨k - 1,by omega⟩
      obtain ⟨e,a,b,d⟩:=free_ok sz fuel ((i * 5 + 1 + q / 32) % (M + 1)) (q / 32) (Nat.mod_lt _ (Nat.succ_pos _)) ⟨k',by omega,ek⟩
      have jump:∀m,nth (tM M) (beg (tM M) i q) (SetTable.runEnd M i - i + 1 + m)=nth (tM M) (beg (tM M) ((i * 5 + 1 + q / 32) % (M + 1)) (q / 32)) m:=fun m=>by
        rw [nth_add]
        show nth (tM M) (nth (tM M) (beg (tM M) i q) (SetTable.runEnd (tM M).mask i - i + 1)) m=_
        rw [nth_leap]
      refine ⟨SetTable.runEnd M i - i + 1 + e,?_,?_,fun m hm=>?_⟩
      · rw [jump]
        exact a
      · rw [jump]
        exact b
      · by_cases c:m≤SetTable.runEnd M i - i
        · rw [pos m c]
          exact full m c
        · obtain ⟨m',rfl⟩:∃m',m=SetTable.runEnd M i - i + 1 + m':=⟨m - (SetTable.runEnd M i - i + 1),by omega⟩
          rw [jump]
          exact d m' (by omega)
structure LInv (M:Nat) (owner:Array (Option Nat)) (l:List Int):Prop where
  size:owner.size=M + 1
  val:∀(j k:Nat),owner[j]? = some (some k)→k < l.length
  uni:∀(j j' k:Nat),owner[j]? = some (some k)→owner[j']? = some (some k)→j=j'
  rch:∀(k:Nat) (h:Int),l[k]? = some h→∃n,owner[(nth (tM M) ((tM M).probeStart h) n).j]? = some (some k)∧∀m,m < n→∃k':Nat,owner[(nth (tM M) ((tM M).probeStart h) m).j]? = some (some k')
theorem LInv.begin:LInv M (Array.replicate (M + 1) none) []:=by
  have no:∀j k:Nat,(Array.replicate (M + 1) (none:Option Nat))[j]?≠some (some k):=fun j k e=>by
    rw [Array.getElem?_replicate] at e
    split at e <;> cases e
  exact ⟨by simp,fun j k h=>absurd h (no j k),fun j _ k h _=>absurd h (no j k),fun k h e=>by cases e⟩
theorem LInv.room {owner:Array (Option Nat)} {l:List Int} (L:LInv M owner l) (hl:l.length < M + 1):∃j,j < M + 1∧owner[j]? = some none:=Classical.byContradiction fun no=>by
  have all:∀j,j < M + 1→∃k,owner[j]? = some (some k):=fun j hj=>by
    have hb:j < owner.size:=by rw [L.size]; exact hj
    cases e:owner[j] with
    | none=>exact absurd ⟨j,hj,by rw [Array.getElem?_eq_getElem hb,e]⟩ no
    | some k=>exact ⟨k,by rw [Array.getElem?_eq_getElem hb,e]⟩
  have key:∀j,j < M + 1→∀k,owner[j]? = some (some k)→(owner.getD j none).getD 0=k:=fun j _ k e=>by rw [Array.getD_eq_getD_getElem?,e]; rfl
  have nd:((List.range (M + 1)).map fun j=>(owner.getD j none).getD 0).Nodup:=by
    unfold List.Nodup
    rw [List.pairwise_map]
    refine List.Pairwise.imp_of_mem ?_ (List.pairwise_lt_range (n:=M + 1))
    intro a b ha hb hab e
    obtain ⟨ka,ea⟩:=all a (List.mem_range.mp ha)
    obtain ⟨kb,eb⟩:=all b (List.mem_range.mp hb)
    rw [key a (List.mem_range.mp ha) ka ea,key b (List.mem_range.mp hb) kb eb] at e
    subst e
    have:=L.uni a b ka ea eb
    omega
  have sub:∀x∈(List.range (M + 1)).map (fun j=>(owner.getD j none).getD 0),x∈List.range l.length:=fun x hx=>by
    obtain ⟨j,hj,rfl⟩:=List.mem_map.mp hx
    obtain ⟨k,e⟩:=all j (List.mem_range.mp hj)
    rw [key j (List.mem_range.mp hj) k e]
    exact List.mem_range.mpr (L.val j k e)
  have:=nd_sub nd sub
  rw [List.length_map,List.length_range,List.length_range] at this
  omega
theorem LInv.next (hM:Big M) {owner:Array (Option Nat)} {l:List Int} (L:LInv M owner l) (hl:l.length < M + 1) (h:Int):∃j,SetTable.layClean.free M owner (SetTable.turns M) (SetTable.bits h % (M + 1)) (SetTable.bits h)=some j∧LInv M (owner.setIfInBounds j (some l.length)) (l++[h]):=by
  obtain ⟨j,hj,ej⟩:=L.room hl
  obtain ⟨k,hk,e⟩:=lp_covers hM h hj
  obtain ⟨n,a,b,d⟩:=free_ok L.size (SetTable.turns M) _ _ (Nat.mod_lt _ (Nat.succ_pos _)) ⟨k,hk,by rw [e]; exact ej⟩
  refine ⟨_,a,?_⟩
  have st:(tM M).probeStart h=beg (tM M) (SetTable.bits h % (M + 1)) (SetTable.bits h):=rfl
  rw [←st] at a b d ⊢
  generalize hs:(nth (tM M) ((tM M).probeStart h) n).j=s at a b
  have sb:s < owner.size:=(Array.getElem?_eq_some_iff.mp b).1
  have get:∀c,(owner.setIfInBounds s (some l.length))[c]? = if c=s then some (some l.length) else owner[c]?:=fun c=>by
    rw [Array.getElem?_setIfInBounds]
    by_cases z:s=c
    · subst z; simp [sb]
    · rw [if_neg z,if_neg (Ne.symm z)]
  have keep:∀c k',owner[c]? = some (some k')→(owner.setIfInBounds s (some l.length))[c]? = some (some k'):=fun c k' e'=>by
    rw [get,if_neg (fun z=>by rw [z,b] at e'; cases e')]
    exact e'
  refine ⟨by rw [Array.size_setIfInBounds]; exact L.size,fun c k' e'=>?_,fun c c' k' e1 e2=>?_,fun k' g e'=>?_⟩
  · rw [get] at e'
    rw [List.length_append,List.length_singleton]
    split at e'
    · cases e'; omega
    · have:=L.val c k' e'; omega
  · rw [get] at e1 e2
    split at e1
    · rename_i z1
      cases e1
      split at e2
      · rename_i z2; omega
      · have:=L.val _ _ e2; omega
    · split at e2
      · cases e2
        have:=L.val _ _ e1; omega
      · exact L.uni _ _ _ e1 e2
  · by_cases c:k' < l.length
    · rw [List.getElem?_append_left c] at e'
      obtain ⟨n',x,y⟩:=L.rch k' g e'
      exact ⟨n',keep _ _ x,fun m hm=>(y m hm).imp fun k e=>keep _ _ e⟩
    · have hk':k' = l.length:=by
        have:=(List.getElem?_eq_some_iff.mp e').1
        rw [List.length_append,List.length_singleton] at this
        omega
      subst hk'
      rw [List.getElem?_append_right (Nat.le_refl _),Nat.sub_self] at e'
      cases e'
      exact ⟨n,by rw [hs,get,if_pos rfl],fun m hm=>(d m hm).imp fun k e=>keep _ _ e⟩
theorem lay_list (hM:Big M) {f:Option (Array (Option Nat) × Nat)→Int→Option (Array (Option Nat) × Nat)} (hf:∀owner k h j,SetTable.layClean.free M owner (SetTable.turns M) (SetTable.bits h % (M + 1)) (SetTable.bits h)=some j→f (some (owner,k)) h=some (owner.setIfInBounds j (some k),k + 1)) :
    ∀(rest done:List Int) (owner:Array (Option Nat)),LInv M owner done→done.length + rest.length≤M→∃owner',rest.foldl f (some (owner,done.length))=some (owner',(done++rest).length)∧LInv M owner' (done++rest)
  | [],done,owner,L,_=>⟨owner,by rw [List.append_nil]; rfl,by rw [List.append_nil]; exact L⟩
  | h :: rest,done,owner,L,hl=>by
    rw [List.length_cons] at hl
    obtain ⟨j,a,b⟩:=L.next hM (by omega) h
    obtain ⟨o',c,d⟩:=lay_list hM hf rest (done++[h]) _ b (by rw [List.length_append,List.length_singleton]; omega)
    rw [List.append_assoc] at c d
    refine ⟨o',?_,d⟩
    rw [List.foldl_cons,hf _ _ _ _ a]
    rw [List.length_append,List.length_singleton] at c
    exact c
theorem lay_map (hM:Big M) {f:Option (Array (Option Nat) × Nat)→Int→Option (Array (Option Nat) × Nat)} (hf:∀owner k h j,SetTable.layClean.free M owner (SetTable.turns M) (SetTable.bits h % (M + 1)) (SetTable.bits h)=some j→f (some (owner,k)) h=some (owner.setIfInBounds j (some k),k + 1))
    (hs:List Int) (hl:hs.length≤M):∃owner,Option.map (fun x=>x.fst) (hs.foldl f (some (Array.replicate (M + 1) none,0)))=some owner∧LInv M owner hs:=by
  obtain ⟨o,a,b⟩:=lay_list hM hf hs [] _ LInv.begin (by simpa using hl)
  exact ⟨o,by rw [show (some (Array.replicate (M + 1) (none:Option Nat),0))=some (Array.replicate (M + 1) none,([]:List Int).length) from rfl,a]; rfl,b⟩
theorem lay_ok (hM:Big M) (hs:List Int) (hl:hs.length≤M):∃owner,SetTable.layClean M hs.toArray=some owner∧LInv M owner hs:=by
  unfold SetTable.layClean
  rw [←Array.foldl_toList,List.toList_toArray]
  refine lay_map hM (fun owner k h j e=>?_) hs hl
  show Option.bind (SetTable.layClean.free M owner (SetTable.turns M) (SetTable.bits h % (M + 1)) (SetTable.bits h)) _=_
  rw [e]
  rfl
theorem laid_of {owner:Array (Option Nat)} {hs:List Int} (L:LInv M owner hs) {f:Nat→Option (Nat × Nat)} (hf:∀j x,j < M + 1→(f j=some x↔x.1=j∧owner[j]? = some (some x.2))) (finger moves:Nat) (led plain:Bool) :
    ((((List.range (M + 1)).filterMap f).map (·.2)).toArray).toList.Perm (List.range hs.length)∧TB ⟨M,(((List.range (M + 1)).filterMap f).map (·.1)).toArray,#[],finger,led,moves,plain⟩ (((((List.range (M + 1)).filterMap f).map (·.2)).toArray).toList.map fun k=>hs.getD k 0):=by
  have mem:∀j k,(j,k)∈(List.range (M + 1)).filterMap f↔owner[j]? = some (some k):=fun j k=>by
    rw [List.mem_filterMap]
    constructor
    · rintro ⟨a,ha,e⟩
      obtain ⟨e1,e2⟩:=(hf a _ (List.mem_range.mp ha)).mp e
      have e1':j=a:=e1
      rw [e1']
      exact e2
    · intro e
      have hb:j < M + 1:=by have:=(Array.getElem?_eq_some_iff.mp e).1; rwa [L.size] at this
      exact ⟨j,List.mem_range.mpr hb,(hf j _ hb).mpr ⟨rfl,e⟩⟩
  have up:((List.range (M + 1)).filterMap f).Pairwise fun a b=>a.1 < b.1:=by
    rw [List.pairwise_filterMap]
    refine List.Pairwise.imp_of_mem ?_ (List.pairwise_lt_range (n:=M + 1))
    intro a b ha hb hab x hx y hy
    rw [((hf a _ (List.mem_range.mp ha)).mp hx).1,((hf b _ (List.mem_range.mp hb)).mp hy).1]
    exact hab
  generalize (List.range (M + 1)).filterMap f=live at mem up
  constructor
  · show ((live.map (·.2)).toArray).toList.Perm _
    rw [List.toList_toArray,List.perm_ext_iff_of_nodup]
    · intro k
      rw [List.mem_map,List.mem_range]
      constructor
      · rintro ⟨⟨j,k'⟩,h1,rfl⟩
        exact L.val j k' ((mem j k').mp h1)
      · intro hk
        obtain ⟨n,h1,_⟩:=L.rch k hs[k] (List.getElem?_eq_getElem hk)
        exact ⟨_,(mem _ _).mpr h1,rfl⟩
    · unfold List.Nodup
      rw [List.pairwise_map]
      refine List.Pairwise.imp_of_mem ?_ up
      rintro ⟨j,k⟩ ⟨j',k'⟩ h1 h2 hlt (z:k=k')
      subst z
      have:=L.uni j j' k ((mem _ _).mp h1) ((mem _ _).mp h2)
      have hlt':j < j':=hlt
      omega
    · exact List.nodup_range
  · refine ⟨rfl,?_,?_,?_,?_⟩
    · show ((live.map (·.1)).toArray).size=_
      simp
    · show Rise ((live.map (·.1)).toArray)
      rw [rise_iff]
      intro a b x y hab hx hy
      rw [List.getElem?_toArray,List.getElem?_map] at hx hy
      obtain ⟨u,hu,rfl⟩:=Option.map_eq_some_iff.mp hx
      obtain ⟨v,hv',rfl⟩:=Option.map_eq_some_iff.mp hy
      obtain ⟨la,ea⟩:=List.getElem?_eq_some_iff.mp hu
      obtain ⟨lb,eb⟩:=List.getElem?_eq_some_iff.mp hv'
      have:=List.pairwise_iff_getElem.mp up a b la lb hab
      rw [ea,eb] at this
      exact this
    · intro i j hj
      have hj':((live.map (·.1)).toArray)[i]? = some j:=hj
      rw [List.getElem?_toArray,List.getElem?_map] at hj'
      obtain ⟨u,hu,rfl⟩:=Option.map_eq_some_iff.mp hj'
      have h1:=(mem u.1 u.2).mp (List.mem_of_getElem? hu)
      have:=(Array.getElem?_eq_some_iff.mp h1).1
      rw [L.size] at this
      show u.1≤M
      omega
    · intro i h hi
      rw [List.toList_toArray,List.getElem?_map,List.getElem?_map] at hi
      obtain ⟨k,h1,h2⟩:=Option.map_eq_some_iff.mp hi
      obtain ⟨u,hu,h3⟩:=Option.map_eq_some_iff.mp h1
      have ou:=(mem u.1 u.2).mp (List.mem_of_getElem? hu)
      have ku:=L.val _ _ ou
      subst h3
      have eh:hs[u.2]? = some h:=by
        rw [List.getElem?_eq_getElem ku,←h2,List.getD_eq_getElem?_getD,List.getElem?_eq_getElem ku]
        rfl
      obtain ⟨n,a,b⟩:=L.rch _ _ eh
      have es:=L.uni _ _ _ a ou
      have sm:∀(T:SetTable),T.mask=M→∀m p,nth T p m=nth (tM M) p m:=fun T hT m p=>nth_mask (t:=T) (u:=(tM M)) hT m p
      refine ⟨n,?_,fun m hm=>?_⟩
      · rw [sm _ rfl]
        show ((live.map (·.1)).toArray)[i]? = some (nth (tM M) ((tM M).probeStart h) n).j
        rw [List.getElem?_toArray,List.getElem?_map,hu,es]
        rfl
      · rw [sm _ rfl]
        obtain ⟨k',e'⟩:=b m hm
        have hm':=(mem _ _).mpr e'
        obtain ⟨i',hi',ei'⟩:=List.getElem_of_mem hm'
        refine ⟨i',?_⟩
        show ((live.map (·.1)).toArray)[i']? = some (nth (tM M) ((tM M).probeStart h) m).j
        rw [List.getElem?_toArray,List.getElem?_map,List.getElem?_eq_getElem hi',ei']
        rfl
theorem laid_ok (hM:Big M) (hs:List Int) (hl:hs.length≤M) (finger moves:Nat) (led plain:Bool) :
    ∃(t:SetTable) (order:Array Nat),SetTable.laid M finger moves led plain hs.toArray=some (t,order)∧t.mask=M∧t.led=led∧t.plain=plain∧order.toList.Perm (List.range hs.length)∧TB t (order.toList.map fun k=>hs.getD k 0):=by
  obtain ⟨owner,e,L⟩:=lay_ok hM hs hl
  unfold SetTable.laid
  rw [e]
  refine ⟨_,_,rfl,rfl,rfl,rfl,laid_of L (fun j x hj=>?_) finger moves led plain⟩
  have hb:j < owner.size:=by rw [L.size]; exact hj
  rw [Option.map_eq_some_iff,Array.getD_eq_getD_getElem?,Array.getElem?_eq_getElem hb]
  constructor
  · rintro ⟨k,e1,rfl⟩
    exact ⟨rfl,congrArg some e1⟩
  · rintro ⟨e1,e2⟩
    exact ⟨x.2,Option.some.inj e2,by rw [←e1]⟩
end
end ST
end L2
namespace L2
open PySem PySem.Spec
namespace ST
section
variable {prog:Program} {w:World} {K:Type} [DecidableEq K] (knd:PySem.KeyKind prog w K)
def ent (p:List K × Addr):Int × Value:=(tupleKeyHash knd p.1,.ref p.2)
structure Els (Pl:Prop) (h:Heap) (a:Addr) (xs:List (List K × Addr)) (led:Bool) (o:Obj) (ep:Nat) (t:SetTable):Prop where
  at_:h.get? a=some o
  ex:o.ExactSet
  data:o.data = .set ((xs.map (ent knd)).toArray) ep t
  tab:TOk t (xs.map fun p=>tupleKeyHash knd p.1)
  plain:Pl→t.plain=true
  led_:t.led=led
  keys:∀p∈xs,IsTupleKey knd h p.1 p.2
  nd:(xs.map (·.1)).Nodup
def TSet (Pl:Prop) (h:Heap) (a:Addr) (xs:List (List K × Addr)) (led:Bool):Prop:=∃o ep t,Els knd Pl h a xs led o ep t
end
section
variable {prog:Program} {w:World} {K:Type} [DecidableEq K] {knd:PySem.KeyKind prog w K} {A:Around} {E:Value→Shared→Prop} {s:Shared} {a b:Addr} {xs:List (List K × Addr)} {led:Bool} {o:Obj} {ep:Nat} {t:SetTable} {k:List K} {Pl:Prop}
theorem Els.size (S:Els knd Pl s.heap a xs led o ep t):((xs.map (ent knd)).toArray).size=xs.length:=by simp
theorem TB.fits {hs:List Int} {t:SetTable} (T:TB t hs) (n:Nat) (hn:n=hs.length) (room:hs.length≤t.mask):t.fits n=true:=by
  unfold SetTable.fits SetTable.fill
  rw [T.len,T.dum,hn]
  simp
  exact room
theorem TOk.room {hs:List Int} {t:SetTable} (T:TOk t hs):hs.length≤t.mask:=by
  rcases T.small with ⟨h1,h2⟩ | ⟨h1,h2⟩ | ⟨h1,h2⟩ | ⟨h1,h2⟩ <;> omega
theorem Els.fits (S:Els knd Pl s.heap a xs led o ep t):t.fits ((xs.map (ent knd)).toArray).size=true:=S.tab.toTB.fits _ (by simp) S.tab.room
theorem Els.state {Q:(Array (Int × Value) × Nat × SetTable)→Shared→Prop} (S:Els knd Pl s.heap a xs led o ep t) (h:Q ((xs.map (ent knd)).toArray,ep,t) s):wpAny (model prog w) A (setState a) Q E s:=
  wpAny_setState_of S.at_ S.data S.fits h
theorem odd_mask (T:TOk t (xs.map fun p=>tupleKeyHash knd p.1)):t.gaveWay=false:=by
  unfold SetTable.gaveWay
  rcases T.small with ⟨h,_⟩ | ⟨h,_⟩ | ⟨h,_⟩ | ⟨h,_⟩ <;> rw [h] <;> rfl
theorem not_own {n:Nat} {Q:Bool→Shared→Prop} (hk:IsTupleKey knd s.heap k b) (h:Q false s):wpAny (model prog w) A (ofAClassStatement (n + 1) (.ref b)) Q E s:=by
  have hT:=hk.typeIs
  obtain ⟨ob,items,c,hb,hc,hd,hi⟩:=hk
  unfold ofAClassStatement
  refine wpAny_bind (wpAny_typeOf hT ?_)
  dsimp only
  rw [if_pos (by rfl)]
  refine wpAny_bind (wpAny_pure ?_)
  simp only [Bool.not_true,Bool.false_eq_true,if_false]
  refine wpAny_bind (wpAny_seqItems hb hd ?_)
  dsimp only
  refine wpAny_bind ?_
  rw [←Array.forIn_toList]
  refine wpAny_forIn_list _ (fun rest r s'=>r.1=none∧s' = s∧∀v∈rest,carriedByValue v=true) _ (fun v rest r s' h1=>?_) (fun r s' h1=>?_) _ _ ⟨rfl,rfl,hi.byValue⟩
  · obtain ⟨_,rfl,h3⟩:=h1
    have hv:=h3 v (List.mem_cons_self ..)
    have e:ofAClassStatement n v=pure false:=by
      cases v with
      | ref _=>cases hv
      | _=>unfold ofAClassStatement; rfl
    rw [e]
    refine wpAny_bind (wpAny_pure ?_)
    simp only [Bool.false_eq_true,if_false]
    exact wpAny_pure ⟨rfl,rfl,fun u hu=>h3 u (List.mem_cons_of_mem _ hu)⟩
  · obtain ⟨h1,rfl,_⟩:=h1
    obtain ⟨r1,r2⟩:=r
    dsimp only at h1
    subst h1
    exact wpAny_pure h
theorem unseen {ys:List Value} {Q:Bool→Shared→Prop} (hk:IsTupleKey knd s.heap k b) (hy:∀y∈ys,∃k' b',y = .ref b'∧IsTupleKey knd s.heap k' b') (h:Q false s):wpAny (model prog w) A (searchCouldBeSeen (.ref b) ys) Q E s:=by
  unfold searchCouldBeSeen
  refine wpAny_bind ?_
  refine wpAny_forIn_list _ (fun rest r s'=>r.1=none∧s' = s∧∀y∈rest,∃k' b',y = .ref b'∧IsTupleKey knd s.heap k' b') _ (fun y rest r s' h1=>?_) (fun r s' h1=>?_) _ _ ⟨rfl,rfl,hy⟩
  · obtain ⟨_,rfl,h3⟩:=h1
    obtain ⟨k',b',rfl,hb'⟩:=h3 y (List.mem_cons_self ..)
    have next:∀y∈rest,∃k' b',y = .ref b'∧IsTupleKey knd s'.heap k' b':=fun u hu=>h3 u (List.mem_cons_of_mem _ hu)
    dsimp only
    split
    · exact wpAny_pure ⟨rfl,rfl,next⟩
    · refine wpAny_bind (wpAny_eqIsQuiet_tuple hk ?_)
      simp only [Bool.not_true,Bool.false_eq_true,if_false]
      refine wpAny_bind (wpAny_eqIsQuiet_tuple hb' ?_)
      simp only [Bool.not_true,Bool.false_eq_true,if_false]
      refine wpAny_bind (not_own hk ?_)
      simp only [Bool.false_eq_true,if_false]
      refine wpAny_bind (not_own hb' ?_)
      simp only [Bool.false_eq_true,if_false]
      exact wpAny_pure ⟨rfl,rfl,next⟩
  · obtain ⟨h1,rfl,_⟩:=h1
    obtain ⟨r1,r2⟩:=r
    dsimp only at h1
    subst h1
    exact wpAny_pure h
theorem by_value {n:Nat} {Q:Bool→Shared→Prop} (hv:∀(k:K) (v:Value),knd.is k v=true→hashByValue n v=pure true∨(¬Pl∧hashByValue n v=pure false)) (hk:IsTupleKey knd s.heap k b) (h:∀c,(Pl→c=true)→Q c s):wpAny (model prog w) A (hashByValue (n + 1) (.ref b)) Q E s:=by
  have hT:=hk.typeIs
  obtain ⟨ob,items,c,hb,hc,hd,hi⟩:=hk
  have hv':∀v∈items.toList,hashByValue n v=pure true∨(¬Pl∧hashByValue n v=pure false):=by
    have:∀{ks:List K} {vs:List Value},ItemsAre knd ks vs→∀v∈vs,hashByValue n v=pure true∨(¬Pl∧hashByValue n v=pure false):=fun {ks vs} h=>by
      induction h with
      | nil=>intro v h; cases h
      | cons h1 _ ih=>
        intro v h
        rcases List.mem_cons.mp h with rfl | h
        · exact hv _ _ h1
        · exact ih v h
    exact this hi
  unfold hashByValue
  refine wpAny_bind (wpAny_specialOf hT F.slot_tuple_hash.lookup ?_)
  dsimp only
  refine wpAny_bind (wpAny_seqItems hb hd ?_)
  simp only [Option.getD_some]
  refine wpAny_bind ?_
  rw [←Array.forIn_toList]
  refine wpAny_mono (wpAny_forIn_list _ (fun rest r s'=>r.1=none∧s' = s∧∀v∈rest,hashByValue n v=pure true∨(¬Pl∧hashByValue n v=pure false)) (fun r s'=>(r.1=none∨(¬Pl∧r.1=some false))∧s' = s) (fun v rest r s' h1=>?_) (fun r s' h1=>⟨.inl h1.1,h1.2.1⟩) _ _ ⟨rfl,rfl,hv'⟩) (fun r s' h1=>?_) fun _ _ e=>e
  · obtain ⟨_,rfl,h3⟩:=h1
    rcases h3 v (List.mem_cons_self ..) with e | ⟨np,e⟩
    · rw [e]
      refine wpAny_bind (wpAny_pure ?_)
      simp only [Bool.not_true,Bool.false_eq_true,if_false]
      exact wpAny_pure ⟨rfl,rfl,fun u hu=>h3 u (List.mem_cons_of_mem _ hu)⟩
    · rw [e]
      refine wpAny_bind (wpAny_pure ?_)
      simp only [Bool.not_false,if_true]
      exact wpAny_pure ⟨.inr ⟨np,rfl⟩,rfl⟩
  · obtain ⟨h1,rfl⟩:=h1
    obtain ⟨r1,r2⟩:=r
    dsimp only at h1
    rcases h1 with rfl | ⟨np,rfl⟩
    · exact wpAny_pure (h true fun _=>rfl)
    · exact wpAny_pure (h false fun p=>absurd p np)
theorem TB.setPlain {hs:List Int} {t:SetTable} (T:TB t hs) (b:Bool):TB { t with plain:=b } hs:=by
  have e:∀n p,nth { t with plain:=b } p n=nth t p n:=fun n p=>nth_mask (t:={ t with plain:=b }) (u:=t) rfl n p
  refine ⟨T.dum,T.len,T.rise,T.top,fun i h hi=>?_⟩
  obtain ⟨n,h1,h2⟩:=T.reach i h hi
  refine ⟨n,?_,fun m hm=>?_⟩
  · rw [e]; exact h1
  · rw [e]; exact h2 m hm
theorem probe_eq (f:Nat→Int) (h:Int) (p:SetTable.Probe):t.probe f h p=SetTable.probe.go t f h (10 * SetTable.turns t.mask) p:=rfl
theorem same_mem (t:SetTable):t.sameMemory t.moves t.mask=some true:=by
  unfold SetTable.sameMemory
  rw [if_pos (beq_self_eq_true _)]
theorem maybe_seen {α:Type} {M:Model} {c:Bool} {sc:Sem Bool} {bad m:Sem α} {Q:α→Shared→Prop} (h1:∀Q':Bool→Shared→Prop,Q' false s→wpAny M A sc Q' E s) (h:wpAny M A m Q E s) :
    wpAny M A (if c=true then sc >>= fun x=>if x=true then bad else m else m) Q E s:=by
  cases c with
  | true=>
    rw [if_pos rfl]
    refine wpAny_bind (h1 _ ?_)
    rw [if_neg Bool.false_ne_true]
    exact h
  | false=>
    rw [if_neg Bool.false_ne_true]
    exact h
theorem is_self {M:Model} {b:Addr} {Q:Bool→Shared→Prop} (h:Q true s):wpAny M A (isSame (.ref b) (.ref b)) Q E s:=by
  unfold isSame
  dsimp only
  rw [if_pos (beq_self_eq_true _)]
  exact wpAny_pure h
theorem search_from {h:Int} {e:Nat} {Q:SetFound→Shared→Prop} (S:Els knd Pl s.heap a xs led o ep t) (hk:IsTupleKey knd s.heap k b) (eh:h=tupleKeyHash knd k) (hu:A.units < cLine)
    (he:e < 10 * SetTable.turns t.mask) (h1:¬On t (nth t (t.probeStart h) e).j) (h3:∀m,m < e→On t (nth t (t.probeStart h) m).j)
    (yes:(∃b',(k,b')∈xs)→Q (.there none) s) (no:(∀b',(k,b')∉xs)→Q (.free (nth t (t.probeStart h) e).j false) s) :
    ∀(d c fuel:Nat) (st:Option SetTable.Probe),d=e - c→c≤e→d < fuel→st.getD (t.probeStart h)=nth t (t.probeStart h) c→
      (∀m,m < c→∀(i:Nat),t.place[i]? = some (nth t (t.probeStart h) m).j→∀b':Addr,xs[i]?≠some (k,b'))→
      wpAny (model prog w) A (setSearchFrom a (.ref b) h true fuel st) Q E s:=by
  intro d
  induction d using Nat.strongRecOn with
  | ind d ih=>
    intro c fuel st hd hc hf hst hno
    match fuel,hf with
    | fuel + 1,hf=>
      have T:=S.tab.toTB
      unfold setSearchFrom
      refine wpAny_bind (S.state ?_)
      dsimp only
      rw [odd_mask S.tab]
      simp only [Bool.false_eq_true,if_false]
      rw [hst,probe_eq]
      have idx:∀m,m < e→∃(i:Nat) (p:List K × Addr),t.place[i]? = some (nth t (t.probeStart h) m).j∧xs[i]? = some p:=fun m hm=>by
        obtain ⟨i,hi⟩:=h3 m hm
        have hl:i < xs.length:=by
          have:=(Array.getElem?_eq_some_iff.mp hi).1
          rw [T.len,List.length_map] at this
          exact this
        exact ⟨i,xs[i],hi,List.getElem?_eq_getElem hl⟩
      have sub:∀m,nth t (nth t (t.probeStart h) c) m=nth t (t.probeStart h) (c + m):=fun m=>(nth_add t c m _).symm
      have dn:(nth t (t.probeStart h) c).dummy=none:=nth_dummy c rfl
      by_cases any:∃m,m < e - c∧∃(i:Nat) (p:List K × Addr),t.place[i]? = some (nth t (t.probeStart h) (c + m)).j∧xs[i]? = some p∧tupleKeyHash knd p.1=h
      · obtain ⟨m0,hm0,w0⟩:=any
        obtain ⟨m,hm,⟨hme,i,p,hi,hp,hh⟩,least'⟩:=least (P:=fun m=>m < e - c∧∃(i:Nat) (p:List K × Addr),t.place[i]? = some (nth t (t.probeStart h) (c + m)).j∧xs[i]? = some p∧tupleKeyHash knd p.1=h) _ m0 (Nat.lt_succ_self _) ⟨hm0,w0⟩
        have gi:∀(i:Nat) (p:List K × Addr),xs[i]? = some p→((xs.map (ent knd)).toArray)[i]? = some (ent knd p):=fun i p hp=>by rw [List.getElem?_toArray,List.getElem?_map,hp]; rfl
        rw [go_cand T.rise _ m i _ (by omega) (by rw [sub]; exact hi) (by show ((((xs.map (ent knd)).toArray)[i]?).map _).getD 0=h; rw [gi i p hp]; exact hh) (fun m' hm'=>by
          obtain ⟨i',p',hi',hp'⟩:=idx (c + m') (by omega)
          refine ⟨i',by rw [sub]; exact hi',?_⟩
          show ((((xs.map (ent knd)).toArray)[i']?).map _).getD 0≠h
          rw [gi i' p' hp']
          exact fun z=>least' m' hm' ⟨by omega,i',p',hi',hp',z⟩)]
        dsimp only
        have pm:p∈xs:=List.mem_of_getElem? hp
        refine maybe_seen (fun Q' q'=>unseen hk (fun y hy=>?_) q') ?_
        · obtain ⟨u,hu',rfl⟩:=List.mem_map.mp hy
          rw [Array.toList_filter] at hu'
          obtain ⟨v,hv,rfl⟩:=List.mem_map.mp (List.mem_filter.mp hu').1
          exact ⟨v.1,v.2,rfl,S.keys v hv⟩
        rw [gi i p hp]
        dsimp only [ent]
        refine wpAny_bind (wpAny_holding (wpAny_eqBool_tuple hu (S.keys p pm) hk ?_))
        refine wpAny_bind (S.state ?_)
        dsimp only
        by_cases sk:p.1=k
        · rw [decide_eq_true sk]
          simp only [Bool.and_self,if_true]
          exact wpAny_pure (yes ⟨p.2,by rw [←sk]; exact pm⟩)
        · rw [decide_eq_false sk]
          simp only [Bool.and_false,Bool.false_eq_true,if_false]
          rw [same_mem]
          dsimp only
          rw [if_pos rfl,sub,slot_on T.rise hi]
          dsimp only
          rw [gi i p hp]
          dsimp only [ent]
          refine wpAny_bind (is_self ?_)
          refine wpAny_bind (wpAny_pure ?_)
          simp only [if_true]
          refine ih (e - (c + m + 1)) (by omega) (c + m + 1) fuel _ rfl (by omega) (by omega) (by show nth t (nth t (t.probeStart h) c) (m + 1)=_; rw [sub]; rfl) (fun m' hm' i' hi' b' hb'=>?_)
          by_cases cc:m' < c
          · exact hno m' cc i' hi' b' hb'
          · obtain ⟨m2,rfl⟩:∃m2,m' = c + m2:=⟨m' - c,by omega⟩
            by_cases c2:m2 < m
            · exact least' m2 c2 ⟨by omega,i',_,hi',hb',eh.symm⟩
            · have:m2=m:=by omega
              subst this
              have ei:i' = i:=by rw [←below_at T.rise hi',←below_at T.rise hi]
              rw [ei,hp] at hb'
              exact sk (by rw [Option.some.inj hb'])
      · rw [go_empty T.rise T.dum _ (e - c) _ dn (by omega) (by rw [sub,show c + (e - c)=e by omega]; exact h1) (fun m hm=>by
          obtain ⟨i,p,hi,hp⟩:=idx (c + m) (by omega)
          refine ⟨i,by rw [sub]; exact hi,?_⟩
          show ((((xs.map (ent knd)).toArray)[i]?).map _).getD 0≠h
          rw [List.getElem?_toArray,List.getElem?_map,hp]
          exact fun z=>any ⟨m,hm,i,p,hi,hp,z⟩)]
        rw [sub,show c + (e - c)=e by omega]
        dsimp only
        refine wpAny_pure (no fun b' hb'=>?_)
        obtain ⟨i,hi⟩:=List.getElem?_of_mem hb'
        obtain ⟨n,hn,hon⟩:=T.reach i h (by rw [List.getElem?_map,hi,eh]; rfl)
        have ne:n < e:=by
          rcases Nat.lt_trichotomy n e with z | z | z
          · exact z
          · subst z; exact absurd ⟨i,hn⟩ h1
          · exact absurd (hon e z) h1
        by_cases cc:n < c
        · exact hno n cc i hn b' hi
        · exact any ⟨n - c,by omega,i,_,by rw [show c + (n - c)=n by omega]; exact hn,hi,eh.symm⟩
end
end ST
end L2
namespace L2
open PySem PySem.Spec
namespace ST
section
variable {prog:Program} {w:World} {K:Type} [DecidableEq K] {knd:PySem.KeyKind prog w K} {A:Around} {E:Value→Shared→Prop} {s:Shared} {a b:Addr} {xs:List (List K × Addr)} {led:Bool} {o:Obj} {ep:Nat} {t:SetTable} {k:List K} {Pl:Prop}
theorem key_but {h h':Heap} {es:Array (Int × Value)} (x:IsTupleKey knd h k b) (ho:h.get? a=some o) (hd:o.data = .set es ep t) (hs:Heap.SameBut a h h'):IsTupleKey knd h' k b:=by
  obtain ⟨ob,items,n,h1,h2,h3,h4⟩:=x
  have ne:b≠a:=fun z=>by
    subst z
    rw [h1] at ho
    cases ho
    rw [h3] at hd
    cases hd
  exact ⟨ob,items,n,by rw [hs.2 b ne]; exact h1,h2,h3,h4⟩
theorem ent_ins (xs:List (List K × Addr)) (p:Nat) (x:List K × Addr):SetTable.insertAt (xs.map (ent knd)).toArray p (ent knd x)=((insL xs p x).map (ent knd)).toArray:=by
  apply Array.toList_inj.mp
  rw [ins_list,List.toList_toArray,List.toList_toArray,insL_map]
theorem range_get (d:α):∀l:List α,(List.range l.length).map (fun i=>l.getD i d)=l:=fun l=>by
  apply List.ext_getElem?
  intro i
  rw [List.getElem?_map]
  by_cases h:i < l.length
  · rw [List.getElem?_eq_getElem (by rw [List.length_range]; exact h),List.getElem?_eq_getElem h,List.getElem_range]
    show some (l.getD i d)=_
    rw [List.getD_eq_getElem?_getD,List.getElem?_eq_getElem h]
    rfl
  · rw [List.getElem?_eq_none (by rw [List.length_range]; omega),List.getElem?_eq_none (by omega)]
    rfl
theorem relay_list {α β:Type} {f:α→β} {l:List α} (d:α) {order:Array Nat} (h:order.toList.Perm (List.range l.length)):order.filterMap (fun i=>((l.map f).toArray)[i]?)=((order.toList.map fun i=>l.getD i d).map f).toArray:=by
  apply Array.toList_inj.mp
  rw [Array.toList_filterMap,List.toList_toArray,List.map_map]
  have all:∀i∈order.toList,i < l.length:=fun i hi=>List.mem_range.mp (h.mem_iff.mp hi)
  generalize order.toList=L at all
  induction L with
  | nil=>rfl
  | cons i L ih=>
    have hi:=all i (List.mem_cons_self ..)
    rw [List.filterMap_cons,List.map_cons,ih fun j hj=>all j (List.mem_cons_of_mem _ hj),List.getElem?_toArray,List.getElem?_map,List.getElem?_eq_getElem hi]
    show f l[i] :: _=f (l.getD i d) :: _
    rw [List.getD_eq_getElem?_getD,List.getElem?_eq_getElem hi]
    rfl
theorem stored {h:Heap} {es:Array (Int × Value)} (ho:h.get? a=some o) (hd:o.data = .set es ep t) (es':Array (Int × Value)) (t':SetTable):(h.update a (Obj.putSet es' t')).get? a=some { o with data:=.set es' (ep + 1) t' }:=by
  have e:=putSet_of es' t' hd
  exact e ▸ Heap.get?_update_self _ ho (by rw [e]; rfl)
theorem short_line {n:Nat} (h:n≤1000):n≤sizeLine:=by rw [sizeLine_eq]; omega
theorem add_ok {Q:Bool→Shared→Prop} (S:Els knd Pl s.heap a xs led o ep t) (hk:IsTupleKey knd s.heap k b) (hu:A.units < cLine) (hv:∀(k:K) (v:Value),knd.is k v=true→hashByValue 7 v=pure true∨(¬Pl∧hashByValue 7 v=pure false)) (room:xs.length + 1≤306)
    (yes:(∃b',(k,b')∈xs)→Q false s) (no:(∀b',(k,b')∉xs)→∀h' xs',Heap.SameBut a s.heap h'→TSet knd Pl h' a xs' led→xs'.Perm ((k,b) :: xs)→Q true { s with heap:=h' }) :
    wpAny (model prog w) A (setAddHashed a (.ref b) (tupleKeyHash knd k)) Q E s:=by
  obtain ⟨e,he,h1,h2,h3⟩:=S.tab.first (tupleKeyHash knd k)
  unfold setAddHashed setAddHashedIn
  refine wpAny_holding (wpAny_bind (S.state ?_))
  dsimp only
  have ns:byScan (Value.ref b) ((xs.map (ent knd)).toArray)=false:=by unfold byScan; rfl
  rw [ns]
  simp only [Bool.false_eq_true,if_false]
  unfold setSearch
  refine wpAny_bind (search_from S hk rfl hu he h1 h3 (fun y=>?_) (fun n=>?_) e 0 100000 none (by omega) (Nat.zero_le _) (by
    rcases S.tab.sm with f | f | f | f <;> (rw [f] at he; unfold SetTable.turns at he; omega)) rfl (fun m hm=>absurd hm (Nat.not_lt_zero _)))
  · exact wpAny_pure (yes y)
  · dsimp only
    refine wpAny_bind (S.state ?_)
    dsimp only
    have B:=S.tab.toTB.put h1 h2 h3
    have pl:(t.put (nth t (t.probeStart (tupleKeyHash knd k)) e).j).2≤xs.length:=by
      rw [put_at]
      have:=(below_ok S.tab.rise (nth t (t.probeStart (tupleKeyHash knd k)) e).j).le
      rw [S.tab.len,List.length_map] at this
      exact this
    have pd:=put_dum S.tab.dum (nth t (t.probeStart (tupleKeyHash knd k)) e).j
    generalize t.put (nth t (t.probeStart (tupleKeyHash knd k)) e).j=pp at B pd pl
    obtain ⟨t1,p⟩:=pp
    dsimp only at B pd pl ⊢
    have m1:t1.mask=t.mask:=by rw [pd]
    have l1:t1.led=led:=by rw [pd]; exact S.led_
    have q1:Pl→t1.plain=true:=fun h=>by rw [pd]; exact S.plain h
    by_cases cp:t1.plain=true
    case' pos=>
      rw [if_pos cp]
      refine wpAny_bind (by_value (Pl:=Pl) hv hk fun bv hbv=>?_)
      rcases bv with _ | _
      case' false=>
        simp only [Bool.false_eq_true,if_false]
        replace B:=B.setPlain false
        replace m1:({ t1 with plain:=false }:SetTable).mask=t.mask:=m1
        replace l1:({ t1 with plain:=false }:SetTable).led=led:=l1
        replace q1:Pl→({ t1 with plain:=false }:SetTable).plain=true:=fun h=>absurd (hbv h) (by decide)
        clear pd cp hbv
        generalize ({ t1 with plain:=false }:SetTable)=T1 at B m1 l1 q1 ⊢
      case' true=>
        simp only [if_true]
        clear pd cp hbv
        generalize t1=T1 at B m1 l1 q1 ⊢
    case' neg=>
      rw [if_neg cp]
      refine wpAny_bind (wpAny_pure ?_)
      simp only [if_true]
      clear pd cp
      generalize t1=T1 at B m1 l1 q1 ⊢
    all_goals
      have ei:SetTable.insertAt ((xs.map (ent knd)).toArray) p (tupleKeyHash knd k,Value.ref b)=((insL xs p (k,b)).map (ent knd)).toArray:=ent_ins xs p (k,b)
      rw [ei]
      have xp:=insL_perm xs p (k,b)
      have xl:=insL_len pl (k,b)
      rw [←insL_map (fun p:List K × Addr=>tupleKeyHash knd p.1) xs p (k,b)] at B
      generalize insL xs p (k,b)=xs1 at B xp xl
      have sz1:((xs1.map (ent knd)).toArray).size=xs1.length:=by simp
      have hl1:(xs1.map fun p=>tupleKeyHash knd p.1).length=xs1.length:=List.length_map ..
      refine wpAny_bind (wpAny_storeSet_of S.at_ S.data ?_ (by rw [sz1]; exact short_line (by omega)))
      have ho1:=stored S.at_ S.data ((xs1.map (ent knd)).toArray) T1
      have sb1:=Heap.SameBut.update s.heap a (Obj.putSet ((xs1.map (ent knd)).toArray) T1)
      have ks1:∀h',Heap.SameBut a s.heap h'→∀p∈xs1,IsTupleKey knd h' p.1 p.2:=fun h' sb p hp=>by
        rcases List.mem_cons.mp (xp.mem_iff.mp hp) with rfl | hp
        · exact key_but hk S.at_ S.data sb
        · exact key_but (S.keys p hp) S.at_ S.data sb
      have nd1:(xs1.map (·.1)).Nodup:=by
        rw [(xp.map (·.1)).nodup_iff,List.map_cons,List.nodup_cons]
        refine ⟨fun z=>?_,S.nd⟩
        obtain ⟨q,hq,e'⟩:=List.mem_map.mp z
        have e2:q.1=k:=e'
        exact n q.2 (e2 ▸ hq)
      have tf:T1.tooFull=decide ((xs.length + 1) * 5 ≥ t.mask * 3):=by
        unfold SetTable.tooFull SetTable.fill
        rw [B.len,B.dum,hl1,xl,m1]
        rfl
      rw [tf]
      simp only [Bool.not_false,Bool.true_and,decide_eq_true_eq]
      by_cases full:(xs.length + 1) * 5 ≥ t.mask * 3
      · rw [if_pos full]
        obtain ⟨W,M,ew,eM,hM,lM,hs2⟩:∃W M,SetTable.grown (((xs.map (ent knd)).toArray).size + 1)=W∧SetTable.sizeAbove W=M + 1∧Big M∧xs.length + 1≤M∧(M=31∧xs.length + 1≤18∨M=127∧xs.length + 1≤76∨M=511∧xs.length + 1≤306):=by
          rw [S.size]
          rcases S.tab.small with ⟨x1,x2⟩ | ⟨x1,x2⟩ | ⟨x1,x2⟩ | ⟨x1,x2⟩ <;> rw [List.length_map] at x2
          · have e:xs.length=4:=by omega
            rw [e]
            exact ⟨20,31,rfl,rfl,Or.inr (Or.inl rfl),by omega,Or.inl ⟨rfl,by omega⟩⟩
          · have e:xs.length=18:=by omega
            rw [e]
            exact ⟨76,127,rfl,rfl,Or.inr (Or.inr (Or.inl rfl)),by omega,Or.inr (Or.inl ⟨rfl,by omega⟩)⟩
          · have e:xs.length=76:=by omega
            rw [e]
            exact ⟨308,511,rfl,rfl,Or.inr (Or.inr (Or.inr rfl)),by omega,Or.inr (Or.inr ⟨rfl,by omega⟩)⟩
          · omega
        rw [ew]
        unfold setRelay
        refine wpAny_bind (wpAny_bind (wpAny_setState_of ho1 rfl (by rw [sz1]; exact B.fits _ (by rw [hl1]) (by rw [hl1,m1,xl]; have:=S.tab.room; rw [List.length_map] at this; rcases S.tab.small with ⟨x1,x2⟩ | ⟨x1,x2⟩ | ⟨x1,x2⟩ | ⟨x1,x2⟩ <;> rw [List.length_map] at x2 <;> omega)) ?_))
        dsimp only
        rw [if_neg (by rw [eM]; exact Nat.not_lt.mpr (short_line (by omega)))]
        obtain ⟨t2,order,el,m2,l2,q2,op,B2⟩:=laid_ok hM (xs1.map fun p=>tupleKeyHash knd p.1) (by rw [hl1,xl]; exact lM) T1.finger (T1.movedTo M) T1.led T1.plain
        have eh:Array.map (fun x=>x.fst) ((xs1.map (ent knd)).toArray)=(xs1.map fun p=>tupleKeyHash knd p.1).toArray:=by
          apply Array.toList_inj.mp
          rw [Array.toList_map,List.toList_toArray,List.toList_toArray,List.map_map]
          rfl
        have er:T1.relaid (Array.map (fun x=>x.fst) ((xs1.map (ent knd)).toArray)) W=some (t2,order):=by
          rw [eh]
          unfold SetTable.relaid
          rw [eM]
          exact el
        rw [er]
        rw [hl1] at op
        have e2:=relay_list (f:=ent knd) (([],0):List K × Addr) op
        obtain ⟨xs2,hx2⟩:∃xs2,xs2=order.toList.map fun i=>xs1.getD i ([],0):=⟨_,rfl⟩
        rw [←hx2] at e2
        have xp2:xs2.Perm xs1:=by
          rw [hx2]
          have:=op.map fun i=>xs1.getD i ([],0)
          rw [range_get] at this
          exact this
        have hh2:(order.toList.map fun i=>(xs1.map fun p=>tupleKeyHash knd p.1).getD i 0)=xs2.map fun p=>tupleKeyHash knd p.1:=by
          rw [hx2,List.map_map]
          refine List.map_congr_left fun i hi=>?_
          have hl:i < xs1.length:=List.mem_range.mp (op.mem_iff.mp hi)
          show _=tupleKeyHash knd (xs1.getD i ([],0)).1
          rw [List.getD_eq_getElem?_getD,List.getElem?_map,List.getD_eq_getElem?_getD,List.getElem?_eq_getElem hl]
          rfl
        rw [hh2] at B2
        have hl2:xs2.length=xs1.length:=xp2.length_eq
        have sz2:((xs2.map (ent knd)).toArray).size=xs2.length:=by simp
        refine wpAny_bind (wpAny_of_eq (a:=((xs2.map (ent knd)).toArray,t2)) ?_ ?_)
        · rw [←e2]
          show (ite _ _ _)=_
          rw [if_neg (by rw [e2,sz2,sz1,hl2]; simp)]
        · dsimp only
          have sb2:=Heap.SameBut.update (s.heap.update a (Obj.putSet ((xs1.map (ent knd)).toArray) T1)) a (Obj.putSet ((xs2.map (ent knd)).toArray) t2)
          refine wpAny_storeSet_of ho1 rfl ?_ (by rw [sz2]; exact short_line (by omega))
          have ho2:=stored ho1 rfl ((xs2.map (ent knd)).toArray) t2
          refine wpAny_pure (no n _ xs2 (sb1.trans sb2) ⟨_,_,t2,ho2,S.ex,rfl,⟨B2,?_⟩,fun h=>q2.trans (q1 h),l2.trans l1,fun p hp=>ks1 _ (sb1.trans sb2) p (xp2.mem_iff.mp hp),?_⟩ (xp2.trans xp))
          · rw [List.length_map,hl2,xl,m2]
            rcases hs2 with h | h | h
            · exact Or.inr (Or.inl h)
            · exact Or.inr (Or.inr (Or.inl h))
            · exact Or.inr (Or.inr (Or.inr h))
          · rw [(xp2.map (·.1)).nodup_iff]; exact nd1
      · rw [if_neg full]
        refine wpAny_pure (no n _ xs1 sb1 ⟨_,_,T1,ho1,S.ex,rfl,⟨B,?_⟩,q1,l1,ks1 _ sb1,nd1⟩ xp)
        rw [hl1,m1]
        rcases S.tab.small with ⟨x1,x2⟩ | ⟨x1,x2⟩ | ⟨x1,x2⟩ | ⟨x1,x2⟩ <;> rw [List.length_map] at x2
        · exact Or.inl ⟨x1,by omega⟩
        · exact Or.inr (Or.inl ⟨x1,by omega⟩)
        · exact Or.inr (Or.inr (Or.inl ⟨x1,by omega⟩))
        · exact Or.inr (Or.inr (Or.inr ⟨x1,by omega⟩))
end
end ST
end L2
namespace L2
open PySem PySem.Spec
namespace ST
section
variable {prog:Program} {w:World} {K:Type} [DecidableEq K] {knd:PySem.KeyKind prog w K} {A:Around} {a I:Addr} {fp wr:List Addr} {St:Nat→Heap→Prop} {led:Bool} {ts:List (List K × Addr)} {R:Result→Shared→Prop} {P:Nat→Value→Prop} {N:Nat} {Pl:Prop}
theorem TSet.other {h h':Heap} {xs:List (List K × Addr)} (S:TSet knd Pl h a xs led) (e:∀b o,h.get? b=some o→(∀p∈xs,True)→(b=a∨∃p∈xs,b=p.2)→h'.get? b=some o):TSet knd Pl h' a xs led:=by
  obtain ⟨o,ep,t,S⟩:=S
  refine ⟨o,ep,t,e a o S.at_ (fun _ _=>trivial) (Or.inl rfl),S.ex,S.data,S.tab,S.plain,S.led_,fun p hp=>?_,S.nd⟩
  obtain ⟨ob,items,n,h1,h2⟩:=S.keys p hp
  exact ⟨ob,items,n,e _ _ h1 (fun _ _=>trivial) (Or.inr ⟨p,hp,rfl⟩),h2⟩
theorem key_keep {h h':Heap} {k:List K} {b:Addr} (x:IsTupleKey knd h k b) (e:∀o,h.get? b=some o→h'.get? b=some o):IsTupleKey knd h' k b:=by
  obtain ⟨ob,items,n,h1,h2⟩:=x
  exact ⟨ob,items,n,e _ h1,h2⟩
theorem loop_ok (W:Walks prog w A.in1 I fp wr N P St) (hN:N=ts.length) (hP:∀i v,P i v→∃p,ts[i]? = some p∧v = .ref p.2) (haf:a∉fp) (hu:A.in1.units < cLine) (hv:∀(k:K) (v:Value),knd.is k v=true→hashByValue 7 v=pure true∨(¬Pl∧hashByValue 7 v=pure false)) (l18:ts.length≤306) (hw:∀p∈ts,p.2∉wr) :
    ∀(n i:Nat) (s:Shared) (xs:List (List K × Addr)),n=ts.length - i→i≤ts.length→St i s.heap→TSet knd Pl s.heap a xs led→(∀p∈xs,p∈ts)→(∀k,(∃b,(k,b)∈xs)↔k∈(ts.take i).map (·.1))→xs.length≤i→(∀p∈ts,IsTupleKey knd s.heap p.1 p.2)→
      (∀h' tk xs',(∀b o,b≠a→b∉wr→s.heap.get? b=some o→h'.get? b=some o)→TSet knd Pl h' a xs' led→(∀p∈xs',p∈ts)→(∀k,(∃b,(k,b)∈xs')↔k∈ts.map (·.1))→R (.ok (.ret .none)) { s with heap:=h',toks:=tk })→
      codeAny (model prog w) A (.builtin "set.update.loop" ⟨[.ref a,.ref I],[]⟩) R s:=by
  have haw:a∉wr:=fun h=>haf (W.sub _ h)
  subst hN
  intro n
  induction n with
  | zero=>
    intro i s xs hn hi st S sub mem len keys q
    have e:i=ts.length:=by omega
    subst e
    refine codeAny_builtin PyProof.Rows.F.entry_set_update_loop ?_
    rw [Around.under_plainId PyProof.Rows.F.plain_set_update_loop _]
    unfold Builtin.«set.update.loop»
    dsimp only
    refine wpAny_bind (W.done s _ _ st fun h' tk keep=>?_)
    dsimp only
    refine wpAny_pure (q h' tk xs (fun b o _ nb e=>keep b o nb e) (S.other fun b o e _ hb=>keep b o ?_ e) sub (by rw [List.take_length] at mem; exact mem))
    rcases hb with rfl | ⟨p,hp,rfl⟩
    · exact haw
    · exact hw p (sub p hp)
  | succ n ih=>
    intro i s xs hn hi st S sub mem len keys q
    have hlt:i < ts.length:=by omega
    refine codeAny_builtin PyProof.Rows.F.entry_set_update_loop ?_
    rw [Around.under_plainId PyProof.Rows.F.plain_set_update_loop _]
    unfold Builtin.«set.update.loop»
    dsimp only
    refine wpAny_bind (W.item i s _ _ hlt st fun v h' tk hv' st' keep=>?_)
    obtain ⟨⟨k,b⟩,hp,rfl⟩:=hP _ _ hv'
    have pm:(k,b)∈ts:=List.mem_of_getElem? hp
    have keys':∀p∈ts,IsTupleKey knd h' p.1 p.2:=fun p hp=>key_keep (keys p hp) fun o e=>keep _ o (hw p hp) e
    have S':TSet knd Pl h' a xs led:=S.other fun c o e _ hc=>keep c o (by
      rcases hc with rfl | ⟨p,hp,rfl⟩
      · exact haw
      · exact hw p (sub p hp)) e
    dsimp only
    refine wpAny_bind (wpAny_holding ?_)
    unfold setAdd
    refine wpAny_holding (wpAny_bind (wpAny_pyHash_tuple hu (keys' _ pm) ?_))
    obtain ⟨o,ep,t,S1⟩:=S'
    have et:(ts.take (i + 1)).map (·.1)=(ts.take i).map (·.1)++[k]:=by rw [List.take_succ,hp,List.map_append]; rfl
    have go:∀(h2:Heap) (xs2:List (List K × Addr)),Heap.SameBut a h' h2→TSet knd Pl h2 a xs2 led→(∀p∈xs2,p∈ts)→(∀k',(∃b',(k',b')∈xs2)↔k'∈(ts.take (i + 1)).map (·.1))→xs2.length≤i + 1→
        codeAny (model prog w) A (.builtin "set.update.loop" ⟨[.ref a,.ref I],[]⟩) R { s with heap:=h2,toks:=tk + (k.length + 1) }:=fun h2 xs2 sb T2 sub2 mem2 len2=>
      ih (i + 1) _ xs2 (by omega) hlt (W.frame (i + 1) h' h2 st' fun c hc o e=>by rw [sb.2 c (fun z=>haf (z ▸ hc))]; exact e) T2 sub2 mem2 len2 (fun p hp=>key_but (keys' p hp) S1.at_ S1.data sb)
        fun h3 tk3 xs3 keep3 T3 sub3 mem3=>q h3 tk3 xs3 (fun c o nc nw e=>keep3 c o nc nw (by show h2.get? c=some o; rw [sb.2 c nc]; exact keep c o nw e)) T3 sub3 mem3
    refine add_ok (s:={ s with heap:=h',toks:=tk + (k.length + 1) }) S1 (keys' _ pm) hu hv (by omega) (fun y=>?_) (fun n' h2 xs2 sb T2 xp=>?_)
    · refine wpAny_pure ⟨plainId_quiet PyProof.Rows.F.plain_set_update_loop _,go h' xs (Heap.SameBut.refl a h') ⟨o,ep,t,S1⟩ sub (fun k'=>?_) (by omega)⟩
      rw [et,List.mem_append,mem k',List.mem_singleton]
      refine ⟨Or.inl,fun z=>?_⟩
      rcases z with z | rfl
      · exact z
      · exact (mem k').mp y
    · refine wpAny_pure ⟨plainId_quiet PyProof.Rows.F.plain_set_update_loop _,go h2 xs2 sb T2 (fun p hp=>?_) (fun k'=>?_) (by rw [xp.length_eq,List.length_cons]; omega)⟩
      · rcases List.mem_cons.mp (xp.mem_iff.mp hp) with rfl | hp
        · exact pm
        · exact sub p hp
      · rw [et,List.mem_append,←mem k',List.mem_singleton]
        constructor
        · rintro ⟨b',hb'⟩
          rcases List.mem_cons.mp (xp.mem_iff.mp hb') with z | z
          · exact Or.inr (Prod.mk.inj z).1
          · exact Or.inl ⟨b',z⟩
        · rintro (⟨b',hb'⟩ | rfl)
          · exact ⟨b',xp.mem_iff.mpr (List.mem_cons_of_mem _ hb')⟩
          · exact ⟨b,xp.mem_iff.mpr (List.mem_cons_self ..)⟩
end
end ST
end L2
namespace L2
open PySem PySem.Spec
namespace ST
section
variable {prog:Program} {w:World} {K:Type} [DecidableEq K] {knd:PySem.KeyKind prog w K} {A:Around} {E:Value→Shared→Prop} {s:Shared} {Pl:Prop}
abbrev ledBy (w:World):Bool:=!w.params.followText "set-order"
abbrev bare (w:World):Obj:={ cls:=.type "set",data:=.set #[] 0 (.fresh 0 0 (ledBy w)) }
theorem new_bare {a:Value} {R:PySem.Fin→Shared→Prop} (h:R (.done (.ret (.ref s.heap.objs.size))) { s with heap:=s.heap.push (bare w) }) :
    wpAny (model prog w) A (Builtin.«set.__new__» ⟨[.type "set",a],[]⟩) R E s:=by
  have hsub:=PySem.sub_set_self
  unfold Builtin.«set.__new__» Builtin.Frozenset.newClass
  wp_walk
  refine wpAny_askSetting (wpAny_pure ?_)
  dsimp only
  wp_walk
  exact h
theorem fresh_ok (finger moves:Nat) (led:Bool):TOk (.fresh finger moves led) [] where
  dum:=rfl
  len:=rfl
  rise:=fun a b h hb=>absurd hb (Nat.not_lt_zero _)
  top:=fun i j h=>by
    have:(#[]:Array Nat)[i]? = some j:=h
    simp at this
  reach:=fun i h e=>by cases e
  small:=Or.inl ⟨rfl,by decide⟩
theorem called_bare {l:Addr} {ts:List (List K × Addr)} {Q:Value→Shared→Prop} (hh:A.handled=none) (hl:s.heap.IsList l ((ts.map fun p=>Value.ref p.2).toArray)) (keys:∀p∈ts,IsTupleKey knd s.heap p.1 p.2) (hu:A.in1.in1.in1.units < cLine) (hv:∀(k:K) (v:Value),knd.is k v=true→hashByValue 7 v=pure true∨(¬Pl∧hashByValue 7 v=pure false)) (l18:ts.length≤306)
    (h:∀h' tk xs,TSet knd Pl h' s.heap.objs.size xs (ledBy w)→(∀p∈xs,p∈ts)→(∀k,(∃b,(k,b)∈xs)↔k∈ts.map (·.1))→(∀b o,b < s.heap.objs.size→s.heap.get? b=some o→h'.get? b=some o)→Q (.ref s.heap.objs.size) { s with heap:=h',toks:=tk }) :
    wpAny (model prog w) A (call (.type "set") [.ref l]) Q E s:=by
  refine wpAny_call ?_
  refine codeAny_of_tree ?_
  wp_walk
  have C:=PySem.F.called_set
  obtain ⟨c,tl,hm⟩:=C.mro
  have n1:=C.notType
  have n2:=C.canCreate
  have n3:=C.made
  have n4:=C.sub
  have chk:=PySem.F.typeCall_set_1 (.ref l)
  constructor
  · exact Code.quiet_builtin _ (by decide +kernel)
  refine codeAny_builtin PySem.F.entry_type_call ?_
  rw [Around.under_plain (weight_type_call_type "set" [.ref l] []) rfl]
  unfold Builtin.«type.__call__»
  wp_walk
  refine codeAny_call_builtin PySem.F.plain_set_new PySem.F.entry_set_new (wpAny_of_eq (PySem.F.newCall_set_1 (.ref l)) (new_bare ?_))
  have hS:(s.heap.push (bare w)).get? s.heap.objs.size=some (bare w):=Heap.get?_push_size _ rfl
  have ty:Shared.TypeIs { s with heap:=s.heap.push (bare w) } (.ref s.heap.objs.size) "set":=⟨_,hS,rfl⟩
  have li:=C.init.lookup
  have bi:=C.init.bind (.ref s.heap.objs.size)
  wp_walk
  refine codeAny_call_builtin C.init.plain PySem.F.entry_set_init (check_set_init_1 ty ?_)
  have hl1:(s.heap.push (bare w)).IsList l ((ts.map fun p=>Value.ref p.2).toArray):=hl.push _
  have lty:Shared.TypeIs { s with heap:=s.heap.push (bare w) } (.ref l) "list":=by
    obtain ⟨ol,a1,a2,_⟩:=hl1
    exact ⟨ol,a1,a2⟩
  have s1:=PySem.F.sub_list_set
  have s2:=PySem.F.sub_list_frozenset
  unfold Builtin.«set.__init__» noKeywords Builtin.Frozenset.updateFrom
  wp_walk using wpAny_pyIter_list hl1
  have lt:l < s.heap.objs.size:=by obtain ⟨ol,a1,_⟩:=hl; exact Heap.lt_size a1
  have sz:(s.heap.push (bare w)).objs.size=s.heap.objs.size + 1:=Heap.size_push ..
  refine loop_ok (knd:=knd) (a:=s.heap.objs.size) (led:=ledBy w) (Walks.list (A:=A.in1.in1.in1) hh _ l (Nat.ne_of_lt (by show l < (s.heap.push (bare w)).objs.size; rw [sz]; exact Nat.lt_succ_of_lt lt)) ((ts.map fun p=>Value.ref p.2).toArray)) (by simp) (fun i v e=>?_) ?_ hu hv l18 (fun p hp=>?_) ts.length 0 _ [] (by omega) (Nat.zero_le _) ⟨⟨_,Heap.get?_push_size _ rfl,rfl,rfl⟩,hl1.push _⟩ ⟨bare w,0,.fresh 0 0 (ledBy w),Heap.get?_push_of_some _ hS,⟨rfl,rfl,rfl⟩,rfl,fresh_ok _ _ _,fun _=>rfl,rfl,fun p hp=>absurd hp List.not_mem_nil,List.nodup_nil⟩ (fun p hp=>absurd hp List.not_mem_nil) (fun k=>?_) (Nat.zero_le _) (fun p hp=>?_) (fun h' tk xs keep T sub mem=>?_)
  · rw [List.getElem?_toArray,List.getElem?_map] at e
    obtain ⟨p,h1,h2⟩:=Option.map_eq_some_iff.mp e
    exact ⟨p,h1,h2.symm⟩
  · show s.heap.objs.size∉[(s.heap.push (bare w)).objs.size,l]
    rw [sz]
    intro z
    rcases List.mem_cons.mp z with z | z
    · exact absurd z (Nat.ne_of_lt (Nat.lt_succ_self _))
    · exact absurd (List.mem_singleton.mp z) (Nat.ne_of_gt lt)
  · show p.2∉[(s.heap.push (bare w)).objs.size]
    rw [sz]
    intro z
    obtain ⟨ob,_,_,h1,_⟩:=keys p hp
    exact absurd (List.mem_singleton.mp z) (Nat.ne_of_lt (Nat.lt_succ_of_lt (Heap.lt_size h1)))
  · simp
  · exact key_keep (keys p hp) fun o e=>Heap.get?_push_of_some _ (Heap.get?_push_of_some _ e)
  · dsimp only
    wp_walk
    refine h h' tk xs T sub mem fun b o hb e=>keep b o (Nat.ne_of_lt hb) ?_ (Heap.get?_push_of_some _ (Heap.get?_push_of_some _ e))
    show b∉[(s.heap.push (bare w)).objs.size]
    rw [sz]
    intro z
    exact absurd (List.mem_singleton.mp z) (Nat.ne_of_lt (Nat.lt_succ_of_lt hb))
end
end ST
end L2
namespace L2
open PySem PySem.Spec PySem.W PyProof.Rows
namespace ST
theorem erase_perm {α:Type}:∀(l:List α) (i:Nat) (x:α),l[i]? = some x→(x :: l.eraseIdx i).Perm l
  | [],i,x,h=>by simp at h
  | y :: l,0,x,h=>by
    simp at h
    subst h
    exact List.Perm.refl _
  | y :: l,i + 1,x,h=>by
    simp at h
    exact (List.Perm.swap ..).trans ((erase_perm l i x h).cons y)
theorem pick_go {α:Type} (f:Nat→Nat):∀(n k:Nat) (l:List α) (out:Array α),l.length=n→(pickOrder.go f n k l out).toList.Perm (out.toList++l)
  | 0,k,l,out,h=>by
    unfold pickOrder.go
    rw [List.eq_nil_of_length_eq_zero h,List.append_nil]
  | n + 1,k,l,out,h=>by
    unfold pickOrder.go
    have hi:f k % l.length < l.length:=Nat.mod_lt _ (by omega)
    have e:=List.getElem?_eq_getElem hi
    rw [e]
    dsimp only
    refine (pick_go f n (k + 1) _ _ (by rw [List.length_eraseIdx,if_pos hi]; omega)).trans ?_
    rw [Array.toList_push,List.append_assoc]
    exact (erase_perm l _ _ e).append_left _
theorem pick_perm {α:Type} (f:Nat→Nat) (xs:Array α):(pickOrder f xs).toList.Perm xs.toList:=by
  unfold pickOrder
  simpa using pick_go f xs.size 0 xs.toList #[] (by simp)
def slotAt (t:SetTable) (i:Nat):Nat:=if i=0 then 0 else t.place.getD (i - 1) 0 + 1
theorem below_slot {t:SetTable} (R:Rise t.place) {i:Nat} (hi:i≤t.place.size):SetTable.below t.place (slotAt t i)=i:=by
  have B:=below_ok R (slotAt t i)
  unfold slotAt at B ⊢
  by_cases c:i=0
  · rw [if_pos c] at B ⊢
    rcases Nat.eq_zero_or_pos (SetTable.below t.place 0) with e | e
    · omega
    · exact absurd (B.lo 0 e) (Nat.not_lt_zero _)
  · rw [if_neg c] at B ⊢
    rcases Nat.lt_trichotomy (SetTable.below t.place (t.place.getD (i - 1) 0 + 1)) i with d | d | d
    · have h1:=B.hi (i - 1) (by omega) (by omega)
      omega
    · exact d
    · have h1:=B.lo i d
      have h2:=R (i - 1) i (by omega) (by have:=B.le; omega)
      omega
end ST
end L2
namespace L2
open PySem PySem.Spec PySem.W PyProof.Rows
namespace ST
theorem entry_set_iter:entryFor table "set.__iter__" = some Builtin.«frozenset.__iter__»:=entryFor_alias (id':="frozenset.__iter__") (by kernel_rfl) rfl (by decide +kernel) (by kernel_rfl)
theorem entry_setit_next:entryFor table "set_iterator.__next__" = some Builtin.«set_iterator.__next__»:=entryFor_of_fast (by kernel_rfl)
theorem slot_setit_next:Slot "set_iterator" "__next__" "set_iterator.__next__":=
  .of (owner:="set_iterator") (n:="__next__") (by rw [typeLookup_type,builtinLookup_eq_fast]; kernel_rfl) (by decide +kernel) (by decide +kernel) (by decide +kernel)
    (by first | exact .inl (by decide +kernel) | exact .inr (by decide +kernel)) (by rw [isSubtype_type]; kernel_rfl)
theorem args_setit_next (a:Value):argsOk "set_iterator.__next__" ⟨[a],[]⟩:=by
  unfold argsOk
  kernel_rfl
theorem entry_setit_iter:entryFor table "set_iterator.__iter__" = some Builtin.«dict_keyiterator.__iter__»:=entryFor_alias (id':="dict_keyiterator.__iter__") (by kernel_rfl) rfl (by decide +kernel) (by kernel_rfl)
theorem slot_setit_iter:Slot "set_iterator" "__iter__" "set_iterator.__iter__":=
  .of (owner:="set_iterator") (n:="__iter__") (by rw [typeLookup_type,builtinLookup_eq_fast]; kernel_rfl) (by decide +kernel) (by decide +kernel) (by decide +kernel)
    (by first | exact .inl (by decide +kernel) | exact .inr (by decide +kernel)) (by rw [isSubtype_type]; kernel_rfl)
theorem args_setit_iter (a:Value):argsOk "set_iterator.__iter__" ⟨[a],[]⟩:=by
  unfold argsOk
  kernel_rfl
structure SO (w:World) (o:Obj) (es:Array (Int × Value)) (ep:Nat) (t:SetTable):Prop where
  ex:o.ExactSet
  data:o.data = .set es ep t
  fits:t.fits es.size=true
  rise:Rise t.place
  len:t.place.size=es.size
  plain:t.plain=true
  led:t.led = !w.params.followText "set-order"
def given (w:World) (a:Addr) (ep:Nat) (es:Array (Int × Value)):Array (Int × Value):=if w.params.followText "set-order" = true then pickOrder (w.params.setOrder a ep) es else es
theorem given_perm {w:World} {a:Addr} {ep:Nat} {es:Array (Int × Value)}:(given w a ep es).toList.Perm es.toList:=by
  unfold given
  split
  · exact pick_perm _ _
  · exact List.Perm.refl _
theorem given_size {w:World} {a:Addr} {ep:Nat} {es:Array (Int × Value)}:(given w a ep es).size=es.size:=by
  have:=(given_perm (w:=w) (a:=a) (ep:=ep) (es:=es)).length_eq
  simpa using this
def slotW (w:World) (t:SetTable) (i:Nat):Nat:=if w.params.followText "set-order" = true then 0 else slotAt t i
abbrev itO (a:Addr) (slot i n ep:Nat):Obj:={ cls:=.type "set_iterator",data:=.fields #[rawInt slot,rawInt i,.ref a,rawInt n,rawInt ep] }
section
variable {prog:Program} {w:World} {A:Around} {E:Value→Shared→Prop} {s:Shared} {a I:Addr} {o:Obj} {es:Array (Int × Value)} {ep:Nat} {t:SetTable}
theorem SO.state {Q:(Array (Int × Value) × Nat × SetTable)→Shared→Prop} (S:SO w o es ep t) (at_:s.heap.get? a=some o) (h:Q (es,ep,t) s):wpAny (model prog w) A (setState a) Q E s:=
  wpAny_setState_of at_ S.data S.fits h
theorem ite_no {α:Type} {M:Model} {c:Prop} [Decidable c] {x y:Sem α} {Q:α→Shared→Prop} (hc:¬c) (h:wpAny M A y Q E s):wpAny M A (if c then x else y) Q E s:=by
  rw [if_neg hc]
  exact h
theorem ite_yes {α:Type} {M:Model} {c:Prop} [Decidable c] {x y:Sem α} {Q:α→Shared→Prop} (hc:c) (h:wpAny M A x Q E s):wpAny M A (if c then x else y) Q E s:=by
  rw [if_pos hc]
  exact h
theorem iter_set {Q:Value→Shared→Prop} (S:SO w o es ep t) (at_:s.heap.get? a=some o) (h:Q (.ref s.heap.objs.size) { s with heap:=s.heap.push (itO a 0 0 es.size ep) }):wpAny (model prog w) A (pyIter (.ref a)) Q E s:=by
  have hT:s.TypeIs (.ref a) "set":=⟨o,at_,S.ex.1⟩
  refine wpAny_pyIter_slot hT PySem.F.slot_set_iter (wpAny_call_entry PySem.F.slot_set_iter hT entry_set_iter ?_ (PySem.F.args_set_iter_1 _))
  unfold Builtin.«frozenset.__iter__» Builtin.Frozenset.slot0 Builtin.Frozenset.sizeOf setEntries setDrawn setsByText setEpoch
  wp_walk using S.state at_
  refine wpAny_askSetting (wpAny_pure (wpAny_pure ?_))
  dsimp only
  refine ite_no (show ¬((!_ && (!t.plain && decide _))=true) from by rw [S.plain]; simp) ?_
  wp_walk using S.state at_
  exact ⟨_,rfl,"set_iterator",_,⟨_,Heap.get?_push_size _ rfl,rfl⟩,slot_setit_next.lookup,h⟩
theorem self_set {Q:Value→Shared→Prop} {i j n:Nat} (hI:s.heap.get? I=some (itO a j i n ep)) (h:Q (.ref I) s):wpAny (model prog w) A (pyIter (.ref I)) Q E s:=by
  have hT:s.TypeIs (.ref I) "set_iterator":=⟨_,hI,rfl⟩
  refine wpAny_pyIter_slot hT slot_setit_iter (wpAny_call_entry slot_setit_iter hT entry_setit_iter ?_ (args_setit_iter _))
  show wpAny _ _ (ret (.ref I)) _ _ s
  exact wpAny_pure ⟨_,rfl,"set_iterator",_,hT,slot_setit_next.lookup,h⟩
end
end ST
end L2
namespace L2
open PySem PySem.Spec PySem.W PyProof.Rows
namespace ST
section
variable {prog:Program} {w:World} {A:Around} {E:Value→Shared→Prop} {s:Shared} {a I:Addr} {o:Obj} {es:Array (Int × Value)} {ep:Nat} {t:SetTable}
theorem step_set {Q:Option (Value × Nat)→Shared→Prop} {i:Nat} (S:SO w o es ep t) (at_:s.heap.get? a=some o) (hi:i≤es.size)
    (h:Q (((given w a ep es)[i]?).map fun e=>(e.2,slotW w t (i + 1))) s):wpAny (model prog w) A (setNext a (slotW w t i) i ep) Q E s:=by
  unfold setNext setsByText
  refine wpAny_bind (S.state at_ ?_)
  dsimp only
  refine wpAny_bind (wpAny_bind (wpAny_askSetting (wpAny_pure ?_)))
  unfold given slotW at *
  by_cases c:w.params.followText "set-order" = true
  · rw [if_pos c] at h
    simp only [if_pos c] at h ⊢
    refine ite_yes c ?_
    refine ite_no (by simp) ?_
    unfold setWalk setsByText
    refine wpAny_bind (wpAny_bind (S.state at_ ?_))
    dsimp only
    refine wpAny_bind (wpAny_bind (wpAny_askSetting (wpAny_pure ?_)))
    refine ite_yes c ?_
    refine wpAny_bind (wpAny_askSetting ?_)
    exact wpAny_pure (wpAny_pure h)
  · simp only [if_neg c] at h ⊢
    refine ite_no c ?_
    refine ite_no (show ¬((!t.plain && decide (es.size > 1))=true) from by rw [S.plain]; simp) ?_
    have hl:t.led=true:=by
      rw [S.led]
      simpa using c
    refine wpAny_bind (m:=(if (!t.led && !es.isEmpty)=true then unsupported "set:maker-not-led" else pure PUnit.unit)) (ite_no (by rw [hl]; simp) (wpAny_pure ?_))
    refine wpAny_pure ?_
    rw [below_slot S.rise (by rw [S.len]; exact hi)]
    by_cases d:i < es.size
    · rw [at_getD (show i < t.place.size by rw [S.len]; exact d)]
      rw [Array.getElem?_eq_getElem d] at h ⊢
      simp only [Option.map_some,slotAt,Nat.add_eq_zero_iff,Nat.succ_ne_self,and_false,if_false,Nat.add_sub_cancel] at h
      exact h
    · have e:es[i]? = none:=Array.getElem?_eq_none (by omega)
      rw [e] at h ⊢
      exact h
end
end ST
end L2
namespace L2
open PySem PySem.Spec PySem.W PyProof.Rows
namespace ST
section
variable {prog:Program} {w:World} {A:Around} {E:Value→Shared→Prop} {s:Shared} {a I:Addr} {o:Obj} {es:Array (Int × Value)} {ep:Nat} {t:SetTable}
theorem next_set {Q:Option Value→Shared→Prop} {i:Nat} {e:Int × Value} (S:SO w o es ep t) (at_:s.heap.get? a=some o) (ne:a≠I) (hI:s.heap.get? I=some (itO a (slotW w t i) i es.size ep)) (he:(given w a ep es)[i]? = some e)
    (h:∀h',h'.get? I=some (itO a (slotW w t (i + 1)) (i + 1) es.size ep)→(∀b o,b≠I→s.heap.get? b=some o→h'.get? b=some o)→Q (some e.2) { s with heap:=h' }):wpAny (model prog w) A (pyNext (.ref I)) Q E s:=by
  have hT:s.TypeIs (.ref I) "set_iterator":=⟨_,hI,rfl⟩
  have hi:i≤es.size:=by
    have:=(Array.getElem?_eq_some_iff.mp he).1
    rw [given_size] at this
    omega
  unfold pyNext
  refine wpAny_bind (wpAny_attempt (wpAny_callSpecial?_slot (name:=Str.ofString "__next__") hT slot_setit_next (wpAny_call_entry slot_setit_next hT entry_setit_next ?_ (args_setit_next _))))
  unfold Builtin.«set_iterator.__next__» setEntries
  refine wpAny_bind (wpAny_pure ?_)
  refine wpAny_bind (wpAny_fieldsOf hI rfl ?_)
  simp only [rawInt]
  refine wpAny_bind (wpAny_bind (S.state at_ (wpAny_pure ?_)))
  refine ite_no (by simp) ?_
  simp only [Int.toNat_natCast]
  refine wpAny_bind (step_set S at_ hi ?_)
  rw [he]
  simp only [Option.map_some]
  refine wpAny_bind (wpAny_setField hI rfl (by simp) ?_)
  have h1:(s.heap.update I (Obj.mapFields fun x=>x.setIfInBounds 0 (Value.int (↑(slotW w t (i + 1))) 0))).get? I=some (itO a (slotW w t (i + 1)) i es.size ep):=Heap.get?_update_self _ hI rfl
  refine wpAny_bind (wpAny_setField h1 rfl (by simp) (wpAny_pure ⟨_,rfl,wpAny_pure (h _ (Heap.get?_update_self _ h1 rfl) fun b o hb e'=>?_)⟩))
  exact (Heap.get?_update_other _ _ (Ne.symm hb)).trans ((Heap.get?_update_other _ _ (Ne.symm hb)).trans e')
theorem end_set {Q:Option Value→Shared→Prop} (hh:A.handled=none) (S:SO w o es ep t) (at_:s.heap.get? a=some o) (ne:a≠I) (hI:s.heap.get? I=some (itO a (slotW w t es.size) es.size es.size ep))
    (h:∀h',(∀b o,b≠I→s.heap.get? b=some o→h'.get? b=some o)→Q none { s with heap:=h' }):wpAny (model prog w) A (pyNext (.ref I)) Q E s:=by
  have hT:s.TypeIs (.ref I) "set_iterator":=⟨_,hI,rfl⟩
  have he:(given w a ep es)[es.size]? = none:=Array.getElem?_eq_none (by rw [given_size]; exact Nat.le_refl _)
  have hh1:A.in1.handled=none:=hh
  unfold pyNext
  refine wpAny_bind (wpAny_attempt (wpAny_callSpecial?_slot (name:=Str.ofString "__next__") hT slot_setit_next (wpAny_call_entry slot_setit_next hT entry_setit_next ?_ (args_setit_next _))))
  unfold Builtin.«set_iterator.__next__» setEntries
  refine wpAny_bind (wpAny_pure ?_)
  refine wpAny_bind (wpAny_fieldsOf hI rfl ?_)
  simp only [rawInt]
  refine wpAny_bind (wpAny_bind (S.state at_ (wpAny_pure ?_)))
  refine ite_no (by simp) ?_
  simp only [Int.toNat_natCast]
  refine wpAny_bind (step_set S at_ (Nat.le_refl _) ?_)
  rw [he]
  simp only [Option.map_none]
  refine wpAny_bind (wpAny_setField hI rfl (by simp) ?_)
  wp_walk
  refine wpAny_raiseNew_none hh1 ?_
  refine wpAny_bind (wpAny_isInstance (T:="StopIteration") (b:=true) ⟨_,Heap.get?_push_size _ rfl,rfl⟩ isSubtype_stop (wpAny_pure (h _ fun b o hb e'=>?_)))
  exact Heap.get?_push_of_some _ (Heap.get?_push_of_some _ ((Heap.get?_update_other _ _ (Ne.symm hb)).trans e'))
theorem walks_set (hh:A.handled=none) (S:SO w o es ep t) (ne:a≠I):Walks prog w A I [I,a] [I] es.size (fun i v=>((given w a ep es)[i]?).map Prod.snd=some v) (fun i h=>h.get? I=some (itO a (slotW w t i) i es.size ep)∧h.get? a=some o) where
  sub:=fun b hb=>by
    rw [List.mem_singleton.mp hb]
    exact List.mem_cons_self ..
  frame:=fun _ _ _ st k=>⟨k I (by simp) _ st.1,k a (by simp) _ st.2⟩
  item:=fun i s Q E hi st h=>by
    have hg:i < (given w a ep es).size:=by
      rw [given_size]
      exact hi
    have e:=Array.getElem?_eq_getElem hg
    exact next_set S st.2 ne st.1 e fun h' a1 a2=>h _ h' s.toks (by rw [e]; rfl) ⟨a1,a2 _ _ ne st.2⟩ fun b o hb e'=>a2 b o (fun c=>hb (by rw [c]; exact List.mem_cons_self ..)) e'
  done:=fun s Q E st h=>end_set hh S st.2 ne st.1 fun h' a2=>h h' s.toks fun b o hb e'=>a2 b o (fun c=>hb (by rw [c]; exact List.mem_cons_self ..)) e'
  self:=fun _ _ _ _ st h=>self_set st.1 h
theorem hint_set {Q:Bool→Shared→Prop} (hT:s.TypeIs (.ref a) "set") (h:Q false s):wpAny (model prog w) A (Builtin.List.listLengthHint (.ref a)) Q E s:=by
  have e:splitId "set.__len__" = some ("set","__len__"):=by decide +kernel
  unfold Builtin.List.listLengthHint
  wp_walk
  rw [show typeLookup (Value.type "set") (Str.ofString "__len__")=_ from PySem.F.slot_set_len.lookup]
  refine wpAny_pure ?_
  dsimp only
  rw [e]
  dsimp only
  refine wpAny_bind (wpAny_isInstance (T:="set") (b:=true) hT (by rw [isSubtype_type]; kernel_rfl) (ite_no (by decide) ?_))
  refine ite_yes (by decide +kernel) ?_
  exact wpAny_bind (wpAny_typeOf hT (wpAny_pure h))
theorem src_set (S:SO w o es ep t):KdlSrc prog w "set" a a es.size (fun i v=>((given w a ep es)[i]?).map Prod.snd=some v) (fun h=>h.get? a=some o) where
  type:=fun _ e=>⟨o,e,S.ex.1⟩
  there:=fun _ e=>⟨Heap.lt_size e,Heap.lt_size e⟩
  keep:=fun _ _ e k=>k a (.inl rfl) o e
  notList:=by decide
  notTuple:=by decide
  hint:=fun _ _ s _ e h=>hint_set (s:=s) ⟨o,e,S.ex.1⟩ h
  iter:=fun A s hh e=>⟨_,_,fun _ _ h=>iter_set S e h,walks_set hh S (Nat.ne_of_lt (Heap.lt_size e)),by
    refine ⟨?_,Heap.get?_push_of_some _ e⟩
    rw [Heap.get?_push_size _ rfl]
    unfold slotW slotAt
    simp⟩
theorem collect_src {T:String} {r d:Addr} {n:Nat} {P:Nat→Value→Prop} {OK:Heap→Prop} {Q:List Value→Shared→Prop} (K:KdlSrc prog w T r d n P OK) (hh:A.handled=none) (ok:OK s.heap) (hn:n≤sizeLine)
    (h:∀h' tk (vs:List Value),vs.length=n→(∀(j:Nat) v,vs[j]? = some v→P j v)→s.heap.objs.size≤h'.objs.size→(∀b o,s.heap.get? b=some o→h'.get? b=some o)→Q vs { s with heap:=h',toks:=tk }):wpAny (model prog w) A (collect (.ref r)) Q E s:=by
  have lt:=K.there _ ok
  have key:∀R:Result→Shared→Prop,(∀h' tk acc c,(∀b o,b≠s.heap.objs.size→(s.heap.push { cls:=.type "list",data:=.seq #[] }).get? b=some o→h'.get? b=some o)→h'.get? s.heap.objs.size=some { cls:=.type "list",dict:=none,data:=.seq acc c,slots:=#[] }→ItemsOf P acc n→R (.ok (.ret (.ref s.heap.objs.size))) { s with heap:=h',toks:=tk })→
      codeAny (model prog w) A (.builtin "proto.collect" ⟨[.ref r],[]⟩) R s:=fun R hR=>by
    refine codeAny_builtin PySem.F.entry_proto_collect ?_
    rw [Around.under_plainId PySem.F.plain_proto_collect _]
    refine wpAny_bind (m:=newList []) (wpAny_newObj_type ?_)
    refine wpAny_pure ⟨plainId_quiet PySem.F.plain_list_iadd _,codeAny_builtin PySem.F.entry_list_iadd ?_⟩
    rw [Around.under_plainId PySem.F.plain_list_iadd _]
    exact kdl_extend (A:=A) (s:={ s with heap:=s.heap.push { cls:=.type "list",data:=.seq #[] } }) K hh (K.keep _ _ ok fun b _ o e=>Heap.get?_push_of_some _ e) s.heap.objs.size (Nat.ne_of_gt lt.1) (Nat.ne_of_gt lt.2) _ 0 (Heap.get?_push_size _ rfl) hR hn
  unfold collect
  refine wpAny_bind (wpAny_runValue (key _ fun h' tk acc c keep at_ it=>?_))
  refine wpAny_bind (m:=load s.heap.objs.size) (wpAny_load at_ (wpAny_pure ?_))
  exact h h' tk acc.toList (by simpa using it.1) (fun j v e=>it.2 j v (by simpa using e)) (Nat.le_of_lt (Heap.lt_size at_)) fun b o e=>keep b o (Nat.ne_of_lt (Heap.lt_size e)) (Heap.get?_push_of_some _ e)
end
end ST
end L2
namespace L2
open PySem PySem.Spec PySem.W PyProof.Rows
namespace ST
abbrev kitO (d:Addr) (i n ep:Nat):Obj:={ cls:=.type "dict_keyiterator",data:=.fields #[.ref d,.int i 0,.int n 0,.int ep 0] }
section
variable {prog:Program} {w:World} {A:Around} {E:Value→Shared→Prop} {s:Shared} {d I:Addr} {o:Obj} {es:Array DictEntry} {ep:Nat}
theorem iter_keys {Q:Value→Shared→Prop} (lo:(d == sysModules)=false) (cls:o.cls = .type "dict") (at_:s.heap.get? d=some o) (da:o.data = .dict es ep) (h:Q (.ref s.heap.objs.size) { s with heap:=s.heap.push (kitO d 0 es.size ep) }):wpAny (model prog w) A (pyIter (.ref d)) Q E s:=by
  have hT:s.TypeIs (.ref d) "dict":=⟨o,at_,cls⟩
  refine wpAny_pyIter_slot hT PySem.F.slot_dict_iter (wpAny_call_entry PySem.F.slot_dict_iter hT PySem.F.entry_dict_iter ?_ (PySem.F.args_dict_iter_1 _))
  unfold Builtin.«dict.__iter__» Builtin.Dict.showsAll
  wp_walk using wpAny_notOrdered_dict hT,wpAny_dictEntries at_ da,wpAny_dictEpoch at_ da
  exact ⟨_,rfl,"dict_keyiterator",_,⟨_,Heap.get?_push_size _ rfl,rfl⟩,PySem.F.slot_dict_keyiterator_next.lookup,h⟩
theorem next_keys {Q:Option Value→Shared→Prop} {i:Nat} {e:DictEntry} (at_:s.heap.get? d=some o) (da:o.data = .dict es ep) (ne:d≠I) (hI:s.heap.get? I=some (kitO d i es.size ep)) (he:es[i]? = some e)
    (h:∀h',h'.get? I=some (kitO d (i + 1) es.size ep)→(∀b o,b≠I→s.heap.get? b=some o→h'.get? b=some o)→Q (some e.key) { s with heap:=h' }):wpAny (model prog w) A (pyNext (.ref I)) Q E s:=by
  have hT:s.TypeIs (.ref I) "dict_keyiterator":=⟨_,hI,rfl⟩
  unfold pyNext
  refine wpAny_bind (wpAny_attempt (wpAny_callSpecial?_slot (name:=Str.ofString "__next__") hT PySem.F.slot_dict_keyiterator_next (wpAny_call_entry PySem.F.slot_dict_keyiterator_next hT PySem.F.entry_dict_keyiterator_next ?_ (PySem.F.args_dict_keyiterator_next_1 _))))
  unfold Builtin.«dict_keyiterator.__next__»
  wp_walk using wpAny_typeNameOfWhole_keyiter hT,wpAny_dictEntries at_ da,wpAny_dictEpoch at_ da,wpAny_fieldsOf hI rfl,wpAny_isOneOf_keyiter hT
  rw [show (if (i:Int) < 0 then none else es[(i:Int).toNat]?)=some e from by rw [if_neg (by omega),Int.toNat_natCast]; exact he]
  dsimp only
  wp_walk using wpAny_typeNameOfWhole_keyiter hT,wpAny_isOneOf_keyiter hT
  have e1:Builtin.Dict_items.ownsTuple "dict_keyiterator" = false:=by decide
  rw [e1]
  refine ⟨_,rfl,wpAny_pure (h _ ?_ fun b o hb e'=>(Heap.get?_update_other _ _ (Ne.symm hb)).trans e')⟩
  refine (Heap.get?_update_self _ hI rfl).trans ?_
  rfl
theorem end_keys {Q:Option Value→Shared→Prop} (hh:A.handled=none) (at_:s.heap.get? d=some o) (da:o.data = .dict es ep) (ne:d≠I) (hI:s.heap.get? I=some (kitO d es.size es.size ep))
    (h:∀h',(∀b o,b≠I→s.heap.get? b=some o→h'.get? b=some o)→Q none { s with heap:=h' }):wpAny (model prog w) A (pyNext (.ref I)) Q E s:=by
  have hT:s.TypeIs (.ref I) "dict_keyiterator":=⟨_,hI,rfl⟩
  have hh1:A.in1.handled=none:=hh
  unfold pyNext
  refine wpAny_bind (wpAny_attempt (wpAny_callSpecial?_slot (name:=Str.ofString "__next__") hT PySem.F.slot_dict_keyiterator_next (wpAny_call_entry PySem.F.slot_dict_keyiterator_next hT PySem.F.entry_dict_keyiterator_next ?_ (PySem.F.args_dict_keyiterator_next_1 _))))
  unfold Builtin.«dict_keyiterator.__next__»
  wp_walk using wpAny_typeNameOfWhole_keyiter hT,wpAny_dictEntries at_ da,wpAny_dictEpoch at_ da,wpAny_fieldsOf hI rfl,wpAny_isOneOf_keyiter hT
  rw [show (if (es.size:Int) < 0 then none else es[(es.size:Int).toNat]?)=none from by rw [if_neg (by omega),Int.toNat_natCast]; exact Array.getElem?_eq_none (Nat.le_refl _)]
  dsimp only
  wp_walk using wpAny_typeNameOfWhole_keyiter hT,wpAny_isOneOf_keyiter hT,wpAny_setField hI rfl (by show (if Builtin.Dict_items.ownsTuple "dict_keyiterator" = true then 2 else 0) < 4; decide)
  refine wpAny_raiseNew_none hh1 ?_
  refine wpAny_bind (wpAny_isInstance (T:="StopIteration") (b:=true) ⟨_,Heap.get?_push_size _ rfl,rfl⟩ isSubtype_stop (wpAny_pure (h _ fun b o hb e'=>?_)))
  exact Heap.get?_push_of_some _ (Heap.get?_push_of_some _ ((Heap.get?_update_other _ _ (Ne.symm hb)).trans e'))
theorem self_keys {Q:Value→Shared→Prop} {i n:Nat} (hI:s.heap.get? I=some (kitO d i n ep)) (h:Q (.ref I) s):wpAny (model prog w) A (pyIter (.ref I)) Q E s:=
  wpAny_pyIter_keyiter ⟨_,hI,rfl,rfl⟩ h
theorem walks_keys (hh:A.handled=none) (da:o.data = .dict es ep) (ne:d≠I):Walks prog w A I [I,d] [I] es.size (fun i v=>(es[i]?).map DictEntry.key=some v) (fun i h=>h.get? I=some (kitO d i es.size ep)∧h.get? d=some o) where
  sub:=fun b hb=>by
    rw [List.mem_singleton.mp hb]
    exact List.mem_cons_self ..
  frame:=fun _ _ _ st k=>⟨k I (by simp) _ st.1,k d (by simp) _ st.2⟩
  item:=fun i s Q E hi st h=>by
    have e:=Array.getElem?_eq_getElem hi
    exact next_keys st.2 da ne st.1 e fun h' a1 a2=>h _ h' s.toks (by rw [e]; rfl) ⟨a1,a2 _ _ ne st.2⟩ fun b o hb e'=>a2 b o (fun c=>hb (by rw [c]; exact List.mem_cons_self ..)) e'
  done:=fun s Q E st h=>end_keys hh st.2 da ne st.1 fun h' a2=>h h' s.toks fun b o hb e'=>a2 b o (fun c=>hb (by rw [c]; exact List.mem_cons_self ..)) e'
  self:=fun _ _ _ _ st h=>self_keys st.1 h
theorem src_keys (lo:(d == sysModules)=false) (cls:o.cls = .type "dict") (da:o.data = .dict es ep):KdlSrc prog w "dict" d d es.size (fun i v=>(es[i]?).map DictEntry.key=some v) (fun h=>h.get? d=some o) where
  type:=fun _ e=>⟨o,e,cls⟩
  there:=fun _ e=>⟨Heap.lt_size e,Heap.lt_size e⟩
  keep:=fun _ _ e k=>k d (.inl rfl) o e
  notList:=by decide
  notTuple:=by decide
  hint:=fun _ _ s _ e h=>kdl_hint_dict (s:=s) ⟨o,e,cls⟩ h
  iter:=fun A s hh e=>⟨_,_,fun _ _ h=>iter_keys lo cls e da h,walks_keys hh da (Nat.ne_of_lt (Heap.lt_size e)),Heap.get?_push_size _ rfl,Heap.get?_push_of_some _ e⟩
end
end ST
end L2
namespace L2
open PySem PySem.Spec PySem.W PyProof.Rows
def tsO (w:World) (a:Addr) (rows:List RW):HO:=.ext fun h=>∃o es ep t,h.get? a=some o∧ST.SO w o es ep t∧es.toList.map Prod.snd=rows.map ST.rf
theorem tsO_ok {P:Program} {w:World} {H:Hp} {h:Heap} {a:Addr} {rows:List RW} {o:Obj} {es:Array (Int × Value)} {ep:Nat} {t:SetTable} (e:h.get? a=some o) (S:ST.SO w o es ep t) (l:es.toList.map Prod.snd=rows.map ST.rf):ObjOk P w H h a (tsO w a rows):=
  ⟨⟨o,es,ep,t,e,S,l⟩,⟨o,e⟩,fun _ _ ⟨o,es,ep,t,e,x⟩ k=>⟨o,es,ep,t,k _ e,x⟩⟩
section
variable {P:Program} {w:World} {H:Hp} {h:Heap} {m:Nat} {rows:List RW}
theorem row_at (ok:HOk P w H h) (R:RowsOk H m rows):∀r∈rows,ST.RowAt h m r:=fun r hr=>by
  obtain ⟨_,its,rv,o,h1,h2,n,h3⟩:=(show ObjOk P w H h r.1 (.tup (r.2.map V.int)) from ok r.1 _ (R r hr).1)
  exact ⟨(R r hr).2,o,its.toArray,n,h1,h2,h3,by simpa using intsAre_of rv⟩
theorem int_items:∀{vs:List Value} {ns:List Int},IntsAre vs ns→ItemsAre (intKind P w) ns vs
  | _,_,.nil=>.nil
  | _,_,.cons n t h=>.cons (intKind_is P w n t) (int_items h)
theorem row_key (ok:HOk P w H h) (R:RowsOk H m rows):∀r∈rows,IsTupleKey (intKind P w) h r.2 r.1:=fun r hr=>by
  obtain ⟨_,o,its,n,h1,h2,h3,h4⟩:=row_at ok R r hr
  exact ⟨o,its,n,h1,h2,h3,int_items h4⟩
theorem int_value {n:Nat} (k:Int) (v:Value) (e:(intKind P w).is k v=true):hashByValue n v=pure true:=by
  cases v with
  | int i t=>cases n <;> rfl
  | _=>cases e
theorem els_so {a:Addr} {xs:List (List Int × Addr)} {o:Obj} {ep:Nat} {t:SetTable} (S:ST.Els (intKind P w) True h a xs (ST.ledBy w) o ep t):ST.SO w o (xs.map (ST.ent (intKind P w))).toArray ep t:=
  ⟨S.ex,S.data,S.tab.toTB.fits _ (by simp) S.tab.room,S.tab.rise,by rw [S.tab.len]; simp,S.plain trivial,S.led_⟩
end
def swR (p:List Int × Addr):RW:=(p.2,p.1)
section
variable {X:Cx} {K:PySem.W.Frag}
theorem call_setT (hK:X.K=K) (hc:X.calm=true) (hu:X.A.units + 64 < cLine):CallR X (.type "set") (fun xs H Q=>∃(p:Addr) (m:Nat) (rows:List RW),xs=[.ref p]∧SqL K H p (refsOf rows)∧RowsOk H m rows∧rows.length≤300∧
    ∀(l:Addr) (rows':List RW),H l=none→(∀r∈rows',r∈rows)→(∀k,k∈rows'.map (·.2)↔k∈rows.map (·.2))→(rows'.map (·.2)).Nodup→Q (.ref l) (upd H l (tsO X.w l rows'))):=by
  subst hK
  intro pins s σ H xs us Q I r h
  obtain ⟨p,m,rows,rfl,hq,R,l18,q⟩:=h
  obtain ⟨u,rfl,rx⟩:=vals1 r
  cases rx
  obtain ⟨its,rv,pl,hz⟩:=I.list hq
  have hits:its=((rows.map fun r=>(r.2,r.1)).map fun p:List Int × Addr=>Value.ref p.2):=by
    have all:∀{rs:List RW} {vs:List Value},Vals (refsOf rs) vs→vs=((rs.map fun r=>(r.2,r.1)).map fun p:List Int × Addr=>Value.ref p.2):=by
      intro rs
      induction rs with
      | nil=>intro vs h; cases h; rfl
      | cons x rs ih=>
        intro vs h
        cases h with
        | cons h1 h2=>
          rw [ih h2]
          cases h1
          rfl
    exact all rv
  subst hits
  refine ST.called_bare (Pl:=True) (knd:=intKind X.prog X.w) (ts:=rows.map fun r=>(r.2,r.1)) (I.ok.hd hc) pl.isList (fun x hx=>?_) (by show X.A.units + 3 < cLine; omega) (fun k v e=>.inl (int_value k v e)) (by rw [List.length_map]; omega) fun h' tk xs T sub mem keep=>?_
  · obtain ⟨r,hr,rfl⟩:=List.mem_map.mp hx
    exact row_key I.hok R r hr
  obtain ⟨o,ep,t,S⟩:=T
  have e1:(xs.map swR).map (·.2)=xs.map (·.1):=by
    rw [List.map_map]
    rfl
  refine ⟨.ref s.heap.objs.size,_,I.laid (t':=tk) (o:=tsO X.w s.heap.objs.size (xs.map swR)) (fun b o e=>keep b o (Heap.lt_size e) e) (Nat.le_refl _) (tsO_ok S.at_ (els_so S) ?_),rfl,q _ _ I.fresh (fun r hr=>?_) (fun k=>?_) ?_⟩
  · simp [ST.ent,ST.rf,swR,Function.comp_def]
  · obtain ⟨x,hx,rfl⟩:=List.mem_map.mp hr
    obtain ⟨r,hr',e⟩:=List.mem_map.mp (sub x hx)
    rw [←e]
    exact hr'
  · rw [e1]
    have:=mem k
    rw [List.map_map] at this
    refine Iff.trans ?_ this
    constructor
    · intro h
      obtain ⟨x,hx,rfl⟩:=List.mem_map.mp h
      exact ⟨x.2,hx⟩
    · rintro ⟨b,hb⟩
      exact List.mem_map.mpr ⟨_,hb,rfl⟩
  · rw [e1]
    exact S.nd
theorem perm_map {α β:Type} {f:α→β} {l:List β} {xs:List α} (h:l.Perm (xs.map f)):∃ys:List α,ys.Perm xs∧l=ys.map f:=by
  generalize e:xs.map f=l2 at h
  induction h generalizing xs with
  | nil=>exact ⟨[],by rw [List.map_eq_nil_iff.mp e],rfl⟩
  | cons x h ih=>
    obtain ⟨y,ys,rfl,rfl,e'⟩:=List.map_eq_cons_iff.mp e
    obtain ⟨zs,p,rfl⟩:=ih e'
    exact ⟨y :: zs,p.cons y,rfl⟩
  | swap x y l=>
    obtain ⟨a,as,rfl,rfl,e'⟩:=List.map_eq_cons_iff.mp e
    obtain ⟨b,bs,rfl,rfl,rfl⟩:=List.map_eq_cons_iff.mp e'
    exact ⟨b :: a :: bs,List.Perm.swap ..,rfl⟩
  | trans h1 h2 ih1 ih2=>
    obtain ⟨ys,p,rfl⟩:=ih2 e
    obtain ⟨zs,p',e'⟩:=ih1 rfl
    exact ⟨zs,p'.trans p,e'⟩
theorem list_of {α:Type} {vs:List α} {ys:Array α} (l:vs.length=ys.size) (h:∀(j:Nat) v,vs[j]? = some v→ys[j]? = some v):vs=ys.toList:=by
  refine List.ext_getElem? fun j=>?_
  rw [show ys.toList[j]? = ys[j]? from by simp]
  by_cases c:j < vs.length
  · rw [h j _ (List.getElem?_eq_getElem c)]
    exact List.getElem?_eq_getElem c
  · rw [List.getElem?_eq_none (by omega),Array.getElem?_eq_none (by omega)]
theorem refs_vals:∀rows:List RW,Vals (refsOf rows) (rows.map ST.rf)
  | []=>.nil
  | r :: rows=>.cons rfl (refs_vals rows)
theorem sorted_laid {pins:List (Addr × Obj)} {σ:St} {H:Hp} {s:Shared} {l:Addr} {h':Heap} {tk c:Nat} {rows:List RW} {Q:VK} (I:Inv X pins σ H s) (le:s.heap.objs.size≤l) (at_:h'.get? l=some (seqObj "list" (rows.map ST.rf).toArray c)) (h64:rows.length < 1000) (keep:∀b o,s.heap.get? b=some o→h'.get? b=some o) (q:Q (.ref l) (upd H l (.lst (refsOf rows)))) :
    EP X pins σ Q (.ref l) { s with heap:=h',toks:=tk }:=
  ⟨.ref l,_,I.laid (t':=tk) keep le (show ObjOk X.prog X.w _ _ _ (.lst (refsOf rows)) from ⟨by unfold refsOf; rw [List.length_map]; exact Nat.le_of_lt (small1000 (by omega)),_,c,refs_vals rows,at_⟩),rfl,q⟩
theorem call_sortedS (hc:X.calm=true):CallR X (.builtin "sorted") (fun xs H Q=>∃(p:Addr) (m:Nat) (rows:List RW),xs=[.ref p]∧H p=some (tsO X.w p rows)∧RowsOk H m rows∧1≤m∧rows.length < 1000∧
    ∀(l:Addr) (rows':List RW),H l=none→rows'.Perm rows→ST.RUp rows'→Q (.ref l) (upd H l (.lst (refsOf rows')))):=by
  intro pins s σ H xs us Q I r h
  obtain ⟨p,m,rows,rfl,hp,R,hm,h64,q⟩:=h
  obtain ⟨u,rfl,rx⟩:=vals1 r
  cases rx
  obtain ⟨⟨o,es,ep,t,at_,S,el⟩,_⟩:=(show ObjOk X.prog X.w H s.heap p (tsO X.w p rows) from I.hok p _ hp)
  have hs:es.size=rows.length:=by
    have:=congrArg List.length el
    simpa using this
  refine ST.sorted_src (S:=fun rs=>rs.Perm rows) hm (fun Q' hQ=>?_) fun a h' tk rs rows' c hS hr pr up h6 le ha keep=>sorted_laid I le ha (by rw [pr.length_eq]; exact h6) keep (q a rows' (I.hok.fresh le) (pr.trans hS) up)
  refine ST.collect_src (ST.src_set S) (I.ok.hd hc) at_ (by rw [hs]; exact Nat.le_of_lt (small1000 (by omega))) fun h' tk vs lv hv le keep=>?_
  have e1:vs=((ST.given X.w p ep es).map Prod.snd).toList:=list_of (by rw [Array.size_map,ST.given_size]; exact lv) fun j v e=>by
    rw [Array.getElem?_map]
    exact hv j v e
  have e2:vs.Perm (rows.map ST.rf):=by
    rw [e1,Array.toList_map,←el]
    exact ST.given_perm.map _
  obtain ⟨rs,pr,rfl⟩:=perm_map e2
  exact hQ rs h' tk pr (fun r hr=>row_at I.hok R r (pr.mem_iff.mp hr)) (by rw [pr.length_eq]; exact h64) le keep
theorem keys_rows {H:Hp}:∀{kvs:List (List Key × V)} {xs:List (List Key × Addr × Value)} {rs:List (List Int)},KT H kvs xs→kvs.map (·.1)=rs.map tks→
    ∃rows:List RW,rows.map (·.2)=rs∧rows.map ST.rf=xs.map (fun q=>Value.ref q.2.1)∧∀r∈rows,H r.1=some (.tup (r.2.map V.int))
  | _,_,[],.nil,_=>⟨[],rfl,rfl,fun r h=>absurd h List.not_mem_nil⟩
  | (k,v) :: kvs,(k',b,u) :: xs,r :: rs,.cons ⟨e,t,_⟩ T,h=>by
    rw [List.map_cons,List.map_cons] at h
    injection h with h1 h2
    obtain ⟨rows,a1,a2,a3⟩:=keys_rows T h2
    refine ⟨(b,r) :: rows,by rw [List.map_cons,a1],by rw [List.map_cons,List.map_cons,a2],fun x hx=>?_⟩
    rcases List.mem_cons.mp hx with rfl | hx
    · have t':H b=some (.tup (k.map kV)):=t
      have h1':k=tks r:=h1
      rw [h1',tks_kV] at t'
      exact t'
    · exact a3 x hx
end
end L2
namespace L2
open PySem PySem.Spec PyProof.Rows
section
variable {X:Cx} {pins:List (Addr × Obj)} {σ:St} {H:Hp} {s:Shared}
def Itn (K:PySem.W.Frag) (l:Addr):It:=
  ⟨fun i H=>∃xs x,SqL K H l xs∧xs[i]? = some x,
   fun i H v H'=>∃t x,v = .ref t∧H t=none∧(∀xs,SqL K H l xs→xs[i]? = some x)∧H' = upd H t (.tup [.int (i:Int),x]),
   fun i H=>∃xs,SqL K H l xs∧xs.length≤i⟩
def tnN (e it l:Addr) (i:Nat) (h:Heap):Prop:=(∃old,IsEnum h e it (i:Int) old)∧h.IsListIter it l i
theorem turn_enum {P:Program} {w:World} {K:PySem.W.Frag} {es:List Expr} {n:Nat} {tp:Pos} {e it l:Addr} (hne:e≠it):Turn P w K (.Tuple es n tp) (Itn K l) [e,it] e (tnN e it l) where
  mem:=by simp
  obj:=fun i h st c hc=>by
    obtain ⟨⟨old,hE⟩,⟨oa,ea,_,da⟩⟩:=st
    simp only [List.mem_cons,List.not_mem_nil,or_false] at hc
    rcases hc with rfl | rfl
    · exact ⟨_,hE,fun v r=>by cases r⟩
    · exact ⟨_,ea,fun v r=>by rw [da] at r; cases r⟩
  keep:=fun i h h' st k=>by
    obtain ⟨⟨old,hE⟩,ha⟩:=st
    exact ⟨⟨old,k e (by simp) _ hE⟩,ha.at fun o z=>k it (by simp) o z⟩
  item:=by
    intro X hP hw hK hc i pins s σ H E I hf st hg
    subst hP hw hK
    obtain ⟨xs,x,hx,ex⟩:=hg
    obtain ⟨⟨old,hE⟩,ha⟩:=st
    obtain ⟨i1,r1,t1,_⟩:=I.list hx
    obtain ⟨x',ex',rx⟩:=r1.get ex
    refine wpAny_pyNext_enum_item hE ha t1.isList (x:=x') (by simpa using ex') hne fun g c1 c2 c3 c4 c5=>⟨_,rfl,?_⟩
    refine wpAny_letOwnedTupleGo_enum c1 fun g' z' k'=>?_
    have nT:H s.heap.objs.size=none:=I.fresh
    have lz:s.heap.objs.size≠e:=Nat.ne_of_gt (Heap.lt_size hE)
    have IA:Inv X pins σ (upd H s.heap.objs.size (.tup [.int (i:Int),x])) { s with heap:=s.heap.push { cls:=.type "tuple",data:=.seq #[.int (i:Int) s.toks,x'] },toks:=s.toks + 1 }:=
      I.laid (t':=s.toks + 1) (fun c o z=>Heap.get?_push_of_some _ z) (Nat.le_refl _) (show ObjOk X.prog X.w _ _ _ (.tup [.int (i:Int),x]) from ⟨by show 2≤sizeLine; decide,[.int (i:Int) s.toks,x'],.cons ⟨_,rfl⟩ (.cons rx .nil),⟨_,Heap.get?_push_size _ rfl,rfl,_,rfl⟩⟩)
    have fp:∀c∈[e,it],FpOk X pins (upd H s.heap.objs.size (.tup [.int (i:Int),x])) c:=fun c hc'=>by
      obtain ⟨f0,f1,f2,f3,f4,f5⟩:=hf c hc'
      refine ⟨?_,f1,f2,f3,f4,f5⟩
      rw [upd_ne]
      · exact f0
      · have lt:c < s.heap.objs.size:=by
          simp only [List.mem_cons,List.not_mem_nil,or_false] at hc'
          rcases hc' with rfl | rfl
          · exact Heap.lt_size hE
          · obtain ⟨_,z,_⟩:=ha; exact Heap.lt_size z
        exact Nat.ne_of_lt lt
    have IB:Inv X pins σ (upd H s.heap.objs.size (.tup [.int (i:Int),x])) { s with heap:=g',toks:=s.toks + 1 }:=by
      refine IA.turnedL (t':=s.toks + 1) (h':=g') (fun c o hc' z=>?_) fp
      simp only [List.mem_cons,List.not_mem_nil,or_false,not_or] at hc'
      refine k'.extBut _ _ hc'.1 ?_
      by_cases hcT:c=s.heap.objs.size
      · subst hcT
        have e1:(s.heap.push { cls:=.type "tuple",data:=.seq #[.int (i:Int) s.toks,x'] }).get? s.heap.objs.size=some { cls:=.type "tuple",data:=.seq #[.int (i:Int) s.toks,x'] }:=Heap.get?_push_size _ rfl
        have e2:=e1.symm.trans z
        rw [←Option.some.inj e2]
        exact c3
      · exact c5 c o hc'.1 hc'.2 (by
          have e1:(s.heap.push { cls:=.type "tuple",data:=.seq #[.int (i:Int) s.toks,x'] }).get? c=s.heap.get? c:=Heap.get?_push_ne _ _ _ hcT
          rw [←e1]; exact z)
    refine ⟨.ref s.heap.objs.size,_,IB,rfl,⟨_,x,rfl,nT,fun zs hz=>by rw [I.list_inj hz hx]; exact ex,rfl⟩,⟨⟨x',?_⟩,c2.extBut k'.extBut hne.symm⟩,fun c hc'=>(fp c hc').1⟩
    have ei:((i + 1:Nat):Int)=(i:Int) + 1:=Int.natCast_succ i
    rw [ei]
    exact z'
  done:=by
    intro X hP hw hK hc i pins s σ H E I hf st hg
    subst hP hw hK
    obtain ⟨xs,hx,hl⟩:=hg
    obtain ⟨⟨old,hE⟩,ha⟩:=st
    obtain ⟨i1,r1,t1,_⟩:=I.list hx
    have len:=r1.length
    refine wpAny_pyNext_enum_end (I.ok.hd hc) hE ha t1.isList (by simp; omega) fun g hk=>⟨rfl,?_⟩
    refine I.turnedL (t':=s.toks) (h':=g) (ch:=[e,it]) (fun c o hc' z=>?_) hf
    simp only [List.mem_cons,List.not_mem_nil,or_false,not_or] at hc'
    exact hk c o hc'.2 z
  self:=fun _ _ _ _ _ st h=>by
    obtain ⟨⟨old,hE⟩,_⟩:=st
    exact wpAny_pyIter_enum hE h
def iEnum (K:PySem.W.Frag) (ta:TA):TI:=fun σ H R=>ta σ H fun vs H1=>∃(l:Addr) (xs:List V),vs=[.ref l]∧SqL K H1 l xs∧R (Itn K l) H1
theorem pi_enum {K:PySem.W.Frag} {es:List Expr} {n:Nat} {tp:Pos} {e1:Expr} {ta:TA} {np pos:Pos} (hK:X.K=K) (hg:Gl X "enumerate") (hm:X.mg "enumerate" = none) (ha:PA X [e1] ta)
    (hs:starEach [e1] X.env=[(false,eval e1 X.env)]:=by rfl) :
    PI X (.Tuple es n tp) (.Call (.Name "enumerate" np) [e1] [] pos) (iEnum K ta):=by
  subst hK
  intro pins s σ H R I h
  refine Call_ (ld_blt I hg hm boot_enumerate (PyProof.Rows.callWith_type1 (thn (ha pos pins s σ H _ I h) fun us s1 ⟨vs,H1,I1,r1,q1⟩=>?_) (by rw [hs]; rfl) (by rfl)))
  obtain ⟨l,xs,rfl,hl,r⟩:=q1
  obtain ⟨u1,rfl,ru1⟩:=r1.one
  cases ru1
  obtain ⟨i1,v1,t1,_⟩:=I1.list hl
  refine call_enumerate_list t1.isList fun g hE hi hz hk=>?_
  refine wpAny_pyIter_enum hE ⟨s1.heap.objs.size + 1,[s1.heap.objs.size + 1,s1.heap.objs.size],tnN (s1.heap.objs.size + 1) s1.heap.objs.size l,Itn X.K l,H1,rfl,I1.kept (t':=s1.toks) hk,turn_enum (Nat.succ_ne_self _),⟨⟨_,hE⟩,hi⟩,fun c hc=>?_,r⟩
  have lc:s1.heap.objs.size≤c:=by
    simp only [List.mem_cons,List.not_mem_nil,or_false] at hc
    rcases hc with rfl | rfl <;> omega
  exact I1.fpOk lc (I1.hok.fresh lc)
theorem for_enum {K:PySem.W.Frag} {l:Addr} {xs:List V} {g:TG} {tb:TS} {D:Ends} {σ:St} {H:Hp} (Pv:Nat→St→Hp→Prop) (h0:Pv 0 σ H) (hl:∀i σ H,i≤xs.length→Pv i σ H→SqL K H l xs)
    (hs:∀i x σ H t,xs[i]? = some x→Pv i σ H→H t=none→g (.ref t) σ (upd H t (.tup [.int (i:Int),x])) fun σ2 H2=>tb { D with nx:=Pv (i + 1),ct:=Pv (i + 1),bk:=D.nx } σ2 H2) (hd:∀σ H,Pv xs.length σ H→D.nx σ H) :
    ∃W:Nat→Nat→St→Hp→Prop,(∃m,W 0 m σ H)∧∀i m σ H,W i m σ H→
      ((Itn K l).stop i H∧D.nx σ H)∨((Itn K l).go i H∧∃N:St→Hp→Prop,(∀σ' H',N σ' H'→∃m',m' < m∧W (i + 1) m' σ' H')∧∀x H',(Itn K l).yld i H x H'→g x σ H' fun σ2 H2=>tb { D with nx:=N,ct:=N,bk:=D.nx } σ2 H2):=by
  refine ⟨fun i m σ H=>m=xs.length - i∧i≤xs.length∧Pv i σ H,⟨xs.length,by simp,Nat.zero_le _,h0⟩,?_⟩
  rintro i m σ H ⟨rfl,hi,pv⟩
  have h1:=hl i σ H hi pv
  by_cases lt:i < xs.length
  · refine .inr ⟨⟨xs,xs[i],h1,by simp [lt]⟩,Pv (i + 1),fun σ' H' p'=>⟨xs.length - (i + 1),by omega,rfl,lt,p'⟩,fun v H' yv=>?_⟩
    obtain ⟨t,x,rfl,nt,a3,rfl⟩:=yv
    exact hs i x σ H t (a3 xs h1) pv nt
  · obtain rfl:i=xs.length:=by omega
    exact .inl ⟨⟨xs,h1,Nat.le_refl _⟩,hd σ H pv⟩
end
end L2
namespace L2
open PySem PySem.Spec PyProof.Rows
section
variable {prog:Program} {w:World} {A:Around} {E:Value→Shared→Prop} {s:Shared}
theorem new_enumS {l:Addr} {items:Array Value} {k:Int} {t:Tok} {R:PySem.Fin→Shared→Prop} (hL:s.heap.IsList l items) (fits:Builtin.SmallTypes.fitsIndex k=true)
    (h:R (.done (.ret (.ref (s.heap.push { cls:=.type "list_iterator",data:=.fields #[.ref l,.int 0 0] }).objs.size))) { s with heap:=(s.heap.push { cls:=.type "list_iterator",data:=.fields #[.ref l,.int 0 0] }).push { cls:=.type "enumerate",data:=.fields #[.none,.bool false,.ref s.heap.objs.size,rawInt k,.none,.none] } }) :
    wpAny (model prog w) A (Builtin.«enumerate.__new__» ⟨[.type "enumerate",.ref l],[(Str.ofString "start",.int k t)]⟩) R E s:=by
  have hsub:=PySem.sub_enumerate
  unfold Builtin.«enumerate.__new__»
  wp_walk using wpAny_pyIter_list hL
  refine wpAny_stack_any fun st=>wpAny_pure ?_
  split
  case h_1 c _ _ _ _ _=>cases (c == Value.type "enumerate") <;> (wp_walk using wpAny_pyIter_list hL; exact h)
  case h_2=>wp_walk using wpAny_pyIter_list hL; exact h
theorem call_enumS {l:Addr} {items:Array Value} {k:Int} {t:Tok} {Q:Value→Shared→Prop} (hL:s.heap.IsList l items) (fits:Builtin.SmallTypes.fitsIndex k=true)
    (h:Q (.ref (s.heap.push { cls:=.type "list_iterator",data:=.fields #[.ref l,.int 0 0] }).objs.size) { s with heap:=(s.heap.push { cls:=.type "list_iterator",data:=.fields #[.ref l,.int 0 0] }).push { cls:=.type "enumerate",data:=.fields #[.none,.bool false,.ref s.heap.objs.size,rawInt k,.none,.none] } }) :
    wpAny (model prog w) A (call (.type "enumerate") [.ref l] [(Str.ofString "start",.int k t)]) Q E s:=by
  refine wpAny_call ?_
  refine codeAny_of_tree ?_
  wp_walk
  have C:=F.called_enumerate
  obtain ⟨c,tl,hm⟩:=C.mro
  have n1:=C.notType
  have n2:=C.canCreate
  have n3:=C.made
  have n4:=C.sub
  have chk:checkTypeCall "enumerate" ⟨[.ref l],[(Str.ofString "start",.int k t)]⟩=pure ():=by kernel_rfl
  constructor
  · exact Code.quiet_builtin _ (by decide +kernel)
  refine codeAny_builtin F.entry_type_call ?_
  unfold Builtin.«type.__call__»
  wp_walk
  have chn:checkBuiltinCall "enumerate.__new__" ⟨[.type "enumerate",.ref l],[(Str.ofString "start",.int k t)]⟩=pure ():=by kernel_rfl
  refine codeAny_call_builtin C.plain F.entry_enumerate_new (wpAny_of_eq chn (new_enumS hL fits ?_))
  have ty:Shared.TypeIs { s with heap:=(s.heap.push { cls:=.type "list_iterator",data:=.fields #[.ref l,.int 0 0] }).push { cls:=.type "enumerate",data:=.fields #[.none,.bool false,.ref s.heap.objs.size,rawInt k,.none,.none] } } (.ref (s.heap.push { cls:=.type "list_iterator",data:=.fields #[.ref l,.int 0 0] }).objs.size) "enumerate":=⟨_,Heap.get?_push_size _ rfl,rfl⟩
  have li:=C.init.lookup
  have bi:=C.init.bind (.ref (s.heap.push { cls:=.type "list_iterator",data:=.fields #[.ref l,.int 0 0] }).objs.size)
  wp_walk
  have ok:argsOk "object.__init__" ⟨[.ref (s.heap.push { cls:=.type "list_iterator",data:=.fields #[.ref l,.int 0 0] }).objs.size,.ref l],[(Str.ofString "start",.int k t)]⟩:=by
    unfold argsOk
    kernel_rfl
  refine codeAny_call_builtin C.init.plain F.entry_object_init (C.init.check _ _ _ _ _ _ _ _ ty ok ?_)
  unfold Builtin.«object.__init__»
  wp_walk
  exact h
theorem Draws.later {prog:Program} {w:World} {A:Around} {it:Addr} {fp:List Addr} {n:Nat} {P:Nat→Value→Prop} {St:Nat→Heap→Prop} (D:Draws prog w A it fp n P St) (k:Nat):Draws prog w A it fp (n + k) (fun i x=>∃j,i=j + k∧P j x) (fun i h=>∃j,i=j + k∧St j h) where
  live:=fun i h ⟨j,_,st⟩=>D.live j h st
  frame:=fun i h h' ⟨j,e,st⟩ hk=>⟨j,e,D.frame j h h' st hk⟩
  item:=fun i s Q E hi ⟨j,e,st⟩ hQ=>D.item j s Q E (by omega) st fun x h' tk hP hS hb=>hQ x h' tk ⟨j,e,hP⟩ ⟨j + 1,by omega,hS⟩ hb
  done:=fun s Q E ⟨j,e,st⟩ hE=>by
    have ej:j=n:=by omega
    subst ej
    exact D.done s Q E st hE
end
section
variable {X:Cx} {pins:List (Addr × Obj)} {σ:St} {H:Hp} {s:Shared}
def ItS (K:PySem.W.Frag) (l:Addr) (k:Nat):It:=
  ⟨fun i H=>∃xs x,SqL K H l xs∧xs[i]? = some x,
   fun i H v H'=>∃t x,v = .ref t∧H t=none∧(∀xs,SqL K H l xs→xs[i]? = some x)∧H' = upd H t (.tup [vN (i + k),x]),
   fun i H=>∃xs,SqL K H l xs∧xs.length=i⟩
def tnS (e it l:Addr) (k i:Nat) (h:Heap):Prop:=(∃old,IsEnum h e it ((i + k:Nat):Int) old)∧h.IsListIter it l i
theorem turn_enumS {P:Program} {w:World} {K:PySem.W.Frag} {es:List Expr} {n:Nat} {tp:Pos} {e it l:Addr} {k:Nat} (hne:e≠it) (hel:e≠l):Turn P w K (.Tuple es n tp) (ItS K l k) [e,it] e (tnS e it l k) where
  mem:=by simp
  obj:=fun i h st c hc=>by
    obtain ⟨⟨old,hE⟩,⟨oa,ea,_,da⟩⟩:=st
    rcases List.mem_cons.mp hc with rfl | hc
    · exact ⟨_,hE,fun v r=>by cases r⟩
    · rw [List.mem_singleton.mp hc]
      exact ⟨_,ea,fun v r=>by rw [da] at r; cases r⟩
  keep:=fun i h h' st kp=>by
    obtain ⟨⟨old,hE⟩,ha⟩:=st
    exact ⟨⟨old,kp e (by simp) _ hE⟩,ha.at fun o z=>kp it (by simp) o z⟩
  item:=by
    intro X hP hw hK hc i pins s σ H E I hf st hg
    subst hP hw hK
    obtain ⟨xs,x,hx,ex⟩:=hg
    obtain ⟨⟨old,hE⟩,ha⟩:=st
    obtain ⟨i1,r1,t1,_⟩:=I.list hx
    obtain ⟨x',ex',rx⟩:=r1.get ex
    have hli:l≠it:=fun z=>by
      obtain ⟨o1,h1,c1,_⟩:=t1.isList
      obtain ⟨o2,h2,c2,_⟩:=ha
      rw [z,h2] at h1
      rw [←Option.some.inj h1,c2] at c1
      exact absurd c1 (by decide)
    have hi1:i < i1.toArray.size:=by
      have:=(List.getElem?_eq_some_iff.mp ex').1
      simpa using this
    have D:=L2.Draws.later (Draws.list (prog:=X.prog) (w:=X.w) (A:=X.A.in1) (I.ok.hd hc) it l hli i1.toArray) k
    refine wpAny_pyNext_enum_itemD D hE ⟨i,rfl,ha,t1.isList⟩ (by omega) hne (by simp [hne,hel]) fun y g tk hP c1 hS c3 c4 c5=>⟨_,rfl,?_⟩
    obtain ⟨j,ej,hP⟩:=hP
    obtain ⟨j',ej',hit',_⟩:=hS
    have e1:j=i:=by omega
    have e2:j' = i + 1:=by omega
    subst e1 e2
    have ey:y=x':=by
      have h1:i1[j]? = some y:=by simpa using hP
      rw [ex'] at h1
      exact (Option.some.inj h1).symm
    subst ey
    refine wpAny_letOwnedTupleGo_enum c1 fun g' z' k'=>?_
    have nT:H s.heap.objs.size=none:=I.fresh
    have IA:Inv X pins σ (upd H s.heap.objs.size (.tup [vN (j + k),x])) { s with heap:=s.heap.push { cls:=.type "tuple",data:=.seq #[.int ((j + k:Nat):Int) tk,y] },toks:=tk + 1 }:=
      I.laid (t':=tk + 1) (fun c o z=>Heap.get?_push_of_some _ z) (Nat.le_refl _) (show ObjOk X.prog X.w _ _ _ (.tup [vN (j + k),x]) from ⟨by show 2≤sizeLine; decide,[.int ((j + k:Nat):Int) tk,y],.cons ⟨_,rfl⟩ (.cons rx .nil),⟨_,Heap.get?_push_size _ rfl,rfl,_,rfl⟩⟩)
    have fp:∀c∈[e,it],FpOk X pins (upd H s.heap.objs.size (.tup [vN (j + k),x])) c:=fun c hc'=>by
      have lt:c < s.heap.objs.size:=by
        rcases List.mem_cons.mp hc' with rfl | hc'
        · exact Heap.lt_size hE
        · rw [List.mem_singleton.mp hc']
          obtain ⟨_,z,_⟩:=ha; exact Heap.lt_size z
      have f:=hf c hc'
      exact ⟨by rw [upd_ne (Nat.ne_of_lt lt)]; exact f.1,f.2⟩
    have IB:Inv X pins σ (upd H s.heap.objs.size (.tup [vN (j + k),x])) { s with heap:=g',toks:=tk + 1 }:=by
      refine IA.turnedL (t':=tk + 1) (h':=g') (fun c o hc' z=>?_) fp
      have n1:c≠e:=fun w=>hc' (by rw [w]; exact List.mem_cons_self ..)
      have n2:c≠it:=fun w=>hc' (by rw [w]; exact List.mem_cons_of_mem _ (List.mem_cons_self ..))
      refine k'.extBut _ _ n1 ?_
      by_cases hcT:c=s.heap.objs.size
      · rw [hcT] at z ⊢
        rw [Heap.get?_push_size _ rfl] at z
        rw [←z]; exact c3
      · rw [Heap.get?_push_ne _ _ _ hcT] at z
        exact c5 c o n1 n2 z
    refine ⟨.ref s.heap.objs.size,_,IB,rfl,⟨_,x,rfl,nT,fun zs hz=>by rw [I.list_inj hz hx]; exact ex,rfl⟩,⟨⟨y,?_⟩,hit'.extBut k'.extBut hne.symm⟩,fun c hc'=>(fp c hc').1⟩
    have ei:((j + 1 + k:Nat):Int)=((j + k:Nat):Int) + 1:=by omega
    rw [ei]
    exact z'
  done:=by
    intro X hP hw hK hc i pins s σ H E I hf st hg
    subst hP hw hK
    obtain ⟨xs,hx,hl⟩:=hg
    obtain ⟨⟨old,hE⟩,ha⟩:=st
    obtain ⟨i1,r1,t1,_⟩:=I.list hx
    have len:=r1.length
    have hli:l≠it:=fun z=>by
      obtain ⟨o1,h1,c1,_⟩:=t1.isList
      obtain ⟨o2,h2,c2,_⟩:=ha
      rw [z,h2] at h1
      rw [←Option.some.inj h1,c2] at c1
      exact absurd c1 (by decide)
    have D:=L2.Draws.later (Draws.list (prog:=X.prog) (w:=X.w) (A:=X.A.in1) (I.ok.hd hc) it l hli i1.toArray) k
    refine wpAny_pyNext_enum_endD D hE ⟨i,by rw [List.size_toArray]; omega,ha,t1.isList⟩ fun g hk=>⟨rfl,?_⟩
    refine I.turnedL (t':=s.toks) (h':=g) (ch:=[e,it]) (fun c o hc' z=>hk c o (fun w=>hc' (by rw [w]; exact List.mem_cons_of_mem _ (List.mem_cons_self ..))) z) hf
  self:=fun _ _ _ _ _ st h=>by
    obtain ⟨⟨old,hE⟩,_⟩:=st
    exact wpAny_pyIter_enum hE h
def iEnumS (K:PySem.W.Frag) (ta tk:TA):TI:=fun σ H R=>ta σ H fun vs H1=>tk σ H1 fun zs H2=>∃(l:Addr) (xs:List V) (k:Nat),vs=[.ref l]∧zs=[vN k]∧k≤1000∧SqL K H2 l xs∧R (ItS K l k) H2
theorem pi_enumS {K:PySem.W.Frag} {es:List Expr} {n:Nat} {tp:Pos} {e1 e2:Expr} {ta tk:TA} {np pos kp:Pos} (hK:X.K=K) (hg:Gl X "enumerate") (hm:X.mg "enumerate" = none) (ha:PA X [e1] ta) (hkw:PK X [⟨some "start",e2,kp⟩] tk)
    (he:starEach [e1] X.env=(false,eval e1 X.env) :: starEach [] X.env:=by rfl) (hall:(backToKw pos (keywordEach [⟨some "start",e2,kp⟩] X.env)).all (·.1.isSome)=true:=by rfl)
    (hpl:((backTo pos (starEach [e1] X.env)).any (·.1) || (backToKw pos (keywordEach [⟨some "start",e2,kp⟩] X.env)).any (·.1.isNone))=false:=by rfl)
    (hnm:(backToKw pos (keywordEach [⟨some "start",e2,kp⟩] X.env)).filterMap (·.1)=[Str.ofString "start"]:=by rfl) :
    PI X (.Tuple es n tp) (.Call (.Name "enumerate" np) [e1] [⟨some "start",e2,kp⟩] pos) (iEnumS K ta tk):=by
  subst hK
  intro pins s σ H R I h
  refine wpAny_Call_Name_kw (ld_blt I hg hm boot_enumerate ?_)
  refine PySem.W.callWith_of (P:=fun _=>True) hpl (fun g _=>⟨.machine,.inr (.inl rfl),PySem.W.Looks.of_pure rfl⟩) (evalArgs_kw2 hall (thn (ha pos pins s σ H _ I h) fun us s1 ⟨vs,H1,I1,r1,q1⟩=>thn (hkw pos pins s1 σ H1 _ I1 q1) fun ws s2 ⟨zs,H2,I2,rz,q2⟩=>⟨True.intro,?_⟩) he)
  rw [hnm]
  obtain ⟨l,xs,k,rfl,rfl,hk,hl,r⟩:=q2
  obtain ⟨u1,rfl,ru1⟩:=r1.one
  cases ru1
  obtain ⟨u2,rfl,t,rfl⟩:=rz.one
  obtain ⟨i1,v1,t1,_⟩:=I2.list hl
  refine call_enumS (k:=(k:Int)) (t:=t) t1.isList ?_ ?_
  · unfold Builtin.SmallTypes.fitsIndex
    simp
    omega
  have hz:(s2.heap.push { cls:=.type "list_iterator",data:=.fields #[.ref l,.int 0 0] }).objs.size=s2.heap.objs.size + 1:=Heap.size_push ..
  have hE:IsEnum ((s2.heap.push { cls:=.type "list_iterator",data:=.fields #[.ref l,.int 0 0] }).push { cls:=.type "enumerate",data:=.fields #[.none,.bool false,.ref s2.heap.objs.size,rawInt (k:Int),.none,.none] }) (s2.heap.push { cls:=.type "list_iterator",data:=.fields #[.ref l,.int 0 0] }).objs.size s2.heap.objs.size ((0 + k:Nat):Int) .none:=by
    rw [Nat.zero_add]
    exact Heap.get?_push_size _ rfl
  have hI:((s2.heap.push { cls:=.type "list_iterator",data:=.fields #[.ref l,.int 0 0] }).push { cls:=.type "enumerate",data:=.fields #[.none,.bool false,.ref s2.heap.objs.size,rawInt (k:Int),.none,.none] }).IsListIter s2.heap.objs.size l 0:=⟨_,Heap.get?_push_of_some _ (Heap.get?_push_size _ rfl),rfl,rfl⟩
  have ll:l < s2.heap.objs.size:=by
    obtain ⟨o,ho,_⟩:=t1.isList
    exact Heap.lt_size ho
  have ne1:(s2.heap.push { cls:=.type "list_iterator",data:=.fields #[.ref l,.int 0 0] }).objs.size≠s2.heap.objs.size:=by rw [hz]; exact Nat.succ_ne_self _
  have ne2:(s2.heap.push { cls:=.type "list_iterator",data:=.fields #[.ref l,.int 0 0] }).objs.size≠l:=by rw [hz]; exact Nat.ne_of_gt (Nat.lt_succ_of_lt ll)
  refine wpAny_pyIter_enum hE ⟨_,[_,s2.heap.objs.size],tnS _ s2.heap.objs.size l k,ItS X.K l k,H2,rfl,I2.kept (t':=s2.toks) (fun b o e=>Heap.get?_push_of_some _ (Heap.get?_push_of_some _ e)),turn_enumS ne1 ne2,⟨⟨_,hE⟩,hI⟩,fun c hc=>?_,r⟩
  have lc:s2.heap.objs.size≤c:=by
    rcases List.mem_cons.mp hc with rfl | hc
    · rw [hz]; omega
    · rw [List.mem_singleton.mp hc]; exact Nat.le_refl _
  exact I2.fpOk lc (I2.hok.fresh lc)
end
end L2
namespace L2
open PySem PySem.Spec PyProof.Rows
mutual
inductive DV (K:PySem.W.Frag) (H:Hp):V→PyData→Prop
  | non:DV K H .non .none
  | bl (b:Bool):DV K H (.bl b) (.bool b)
  | int (i:Int):DV K H (.int i) (.int i)
  | str (x:Str):DV K H (.str x) (.str x)
  | lst {a:Addr} {xs:List V} {ds:List PyData}:SqL K H a xs→DVs K H xs ds→DV K H (.ref a) (.list ds)
  | tup {a:Addr} {xs:List V} {ds:List PyData}:SqT K H a xs→DVs K H xs ds→DV K H (.ref a) (.tuple ds)
inductive DVs (K:PySem.W.Frag) (H:Hp):List V→List PyData→Prop
  | nil:DVs K H [] []
  | cons {x:V} {xs:List V} {d:PyData} {ds:List PyData}:DV K H x d→DVs K H xs ds→DVs K H (x :: xs) (d :: ds)
end
section
variable {X:Cx} {K:PySem.W.Frag} {pins:List (Addr × Obj)} {σ:St} {H:Hp} {s:Shared}
mutual
theorem DV.reads (I:Inv X pins σ H s):∀{v:V} {d:PyData} {u:Value},DV X.K H v d→RelV v u→∃as,Reads s.heap u d as
  | _,_,_,.non,r=>by obtain rfl:=(show _=Value.none from r); exact ⟨_,Reads.none⟩
  | _,_,_,.bl b,r=>by obtain rfl:=(show _=Value.bool b from r); exact ⟨_,Reads.bool b⟩
  | _,_,_,.int i,r=>by obtain ⟨t,rfl⟩:=r; exact ⟨_,.int i t⟩
  | _,_,_,.str x,r=>by obtain ⟨t,rfl⟩:=r; exact ⟨_,.str x t⟩
  | _,_,_,.lst (a:=a) hx hs,r=>by
    obtain rfl:=(show _=Value.ref a from r)
    obtain ⟨its,rv,pl,_⟩:=I.list hx
    obtain ⟨as,ra⟩:=DVs.reads I hs rv
    obtain ⟨o,ho,hc,n,hd⟩:=pl.isList
    exact ⟨_,.list ho hc hd ra⟩
  | _,_,_,.tup (a:=a) hx hs,r=>by
    obtain rfl:=(show _=Value.ref a from r)
    obtain ⟨its,rv,pl,_⟩:=I.tuple hx
    obtain ⟨as,ra⟩:=DVs.reads I hs rv
    obtain ⟨o,ho,hc,n,hd⟩:=pl
    exact ⟨_,.tuple ho hc hd ra⟩
theorem DVs.reads (I:Inv X pins σ H s):∀{vs:List V} {ds:List PyData} {us:List Value},DVs X.K H vs ds→Vals vs us→∃as,ReadsAll s.heap us ds as
  | _,_,_,.nil,.nil=>⟨_,.nil⟩
  | _,_,_,.cons h hs,.cons r rs=>by
    obtain ⟨as,ra⟩:=DV.reads I h r
    obtain ⟨bs,rb⟩:=DVs.reads I hs rs
    exact ⟨_,.cons ra rb⟩
end
def rEqD (K:PySem.W.Frag) (neg:Bool):R2:=fun x y H Q=>∃d1 d2:PyData,DV K H x d1∧DV K H y d2∧SeqAt.shaped d1=true∧SeqAt.shaped d2=true∧SeqAt.noMix d1 d2=true∧Q (.bl (if neg then !same d1 d2 else same d1 d2)) H
theorem op_eqD (h:X.K=K) (hu:X.A.units + 64 < cLine):OpR X (compareOp .Eq) (rEqD K false):=by
  subst h
  intro pins s σ H x y v u Q I rx ry h
  obtain ⟨d1,d2,h1,h2,s1,s2,nm,q⟩:=h
  obtain ⟨as,ra⟩:=h1.reads I rx
  obtain ⟨bs,rb⟩:=h2.reads I ry
  exact eq_dataH_same ra rb s1 s2 hu nm ⟨.bl _,H,I,rfl,q⟩
theorem op_neD (h:X.K=K) (hu:X.A.units + 64 < cLine):OpR X (compareOp .NotEq) (rEqD K true):=by
  subst h
  intro pins s σ H x y v u Q I rx ry h
  obtain ⟨d1,d2,h1,h2,s1,s2,nm,q⟩:=h
  obtain ⟨as,ra⟩:=h1.reads I rx
  obtain ⟨bs,rb⟩:=h2.reads I ry
  exact ne_dataH_same ra rb s1 s2 hu nm ⟨.bl _,H,I,rfl,q⟩
end
section
variable {α:Type} {f:α→PyData}
theorem sameAll_map [DecidableEq α] (h:∀a b,same (f a) (f b)=decide (a=b)):∀xs ys:List α,sameAll (xs.map f) (ys.map f)=decide (xs=ys)
  | [],[]=>by simp [sameAll]
  | [],_ :: _=>by simp [sameAll]
  | _ :: _,[]=>by simp [sameAll]
  | x :: xs,y :: ys=>by
    simp only [List.map_cons,sameAll,h,sameAll_map h xs ys]
    by_cases e:x=y <;> simp [e]
theorem noMixAll_map (h:∀a b,SeqAt.noMix (f a) (f b)=true):∀xs ys:List α,SeqAt.noMixAll (xs.map f) (ys.map f)=true
  | [],[]=>by simp [SeqAt.noMixAll]
  | [],_ :: _=>by simp [SeqAt.noMixAll]
  | _ :: _,[]=>by simp [SeqAt.noMixAll]
  | x :: xs,y :: ys=>by simp [SeqAt.noMixAll,h,noMixAll_map h xs ys]
theorem canLayAll_map (h:∀a,PyData.canLay0 (f a)=true):∀xs:List α,PyData.canLayAll0 (xs.map f)=true
  | []=>by simp [PyData.canLayAll0]
  | x :: xs=>by simp [PyData.canLayAll0,h,canLayAll_map h xs]
theorem depthAll_map {n:Nat} (h:∀a,PyData.depth (f a)≤n):∀xs:List α,PyData.depthAll (xs.map f)≤n
  | []=>by simp [PyData.depthAll]
  | x :: xs=>by
    have h1:=h x
    have h2:=depthAll_map h xs
    simp only [List.map_cons,PyData.depthAll]
    omega
theorem shaped_map (h:∀a,PyData.canLay0 (f a)=true) (hd:∀a,PyData.depth (f a)≤10) (xs:List α):SeqAt.shaped (.list (xs.map f))=true:=by
  have h2:PyData.depth (.list (xs.map f))≤64:=by
    have:=depthAll_map hd xs
    simp only [PyData.depth]
    omega
  show (PyData.canLay0 (.list (xs.map f)) && decide (PyData.depth (.list (xs.map f))≤64))=true
  rw [Bool.and_eq_true]
  exact ⟨by simp only [PyData.canLay0]; exact canLayAll_map h xs,decide_eq_true h2⟩
end
section
variable {X:Cx} {K:PySem.W.Frag} {e:Expr} {te:TE} {ste:Expr} {tst:TO} {pos p2:Pos}
end
theorem cut_take (xs:List V) (k:Nat):cutV xs none (some (k:Int))=xs.take k:=by
  unfold cutV
  show (xs.drop 0).take (HT.sIx xs.length xs.length (some ((k:Nat):Int)) - 0)=_
  rw [HT.sIx_nat,List.drop_zero,Nat.sub_zero,List.take_eq_take_iff]
  omega
theorem cut_drop (xs:List V) (k:Nat):cutV xs (some (k:Int)) none=xs.drop k:=by
  unfold cutV
  rw [HT.sIx_nat,HT.sIx_none]
  by_cases h:k≤xs.length
  · rw [Nat.min_eq_left h,List.take_of_length_le (by rw [List.length_drop]; exact Nat.le_refl _)]
  · rw [Nat.min_eq_right (by omega),List.drop_eq_nil_of_le (Nat.le_refl _),List.drop_eq_nil_of_le (by omega),List.take_nil]
end L2
namespace L2
open PySem PySem.Spec PyProof.Rows
theorem Same.none {H H':Hp} {p:Addr} (e:Same H H') (h:H' p=none):H p=none:=by
  cases z:H p with
  | none=>rfl
  | some o=>rw [e _ _ z] at h; cases h
def usableB (st:Bool) (x y b:Nat):Bool:=decide (x&&&b=0) && !decide (y&&&b=0) && (st || !decide (y&&&b=b))
def spUsable:Sp:=fun vs H Q _=>∃(r:Addr) (st:Bool) (x y b:Nat),vs=[.ref r,vN b]∧RuleAt H r st x y∧Q (.bl (usableB st x y b)) H
def inN (y:Nat) (bs:List Nat) (at_:Nat):Nat:=bs.getD at_ 0&&&y
def outN (y:Nat) (bs:List Nat) (at_:Nat):Nat:=bs.getD at_ 0 - inN y bs at_
def behindFx (st:Bool) (y fx:Nat) (bs:List Nat) (at_:Nat):Nat:=if st=true then fx + inN y bs at_ else fx
def behindBs (st:Bool) (y:Nat) (bs:List Nat) (at_:Nat):List Nat:=
  bs.take at_++(if st=true then (if 0 < outN y bs at_ then [outN y bs at_] else []) else [inN y bs at_,outN y bs at_])++bs.drop (at_ + 1)
end L2
namespace L2
end L2
namespace L2
theorem or_add:∀(a b:Nat),a&&&b=0→a|||b=a + b:=by
  intro a
  induction a using Nat.strongRecOn with
  | _ a ih=>
    intro b h
    by_cases a0:a=0
    · subst a0; simp
    have i:=ih (a / 2) (by omega) (b / 2) (by rw [←Nat.and_div_two,h])
    rw [←Nat.or_div_two] at i
    have m1:=Nat.and_mod_two_eq_one (a:=a) (b:=b)
    have m2:=Nat.or_mod_two_eq_one (a:=a) (b:=b)
    rw [h] at m1
    omega
theorem dis_iff {a b:Nat}:a&&&b=0↔∀k,a.testBit k=true→b.testBit k=false:=by
  constructor
  · intro h k ha
    have e:(a&&&b).testBit k=(0:Nat).testBit k:=by rw [h]
    rw [Nat.testBit_and,Nat.zero_testBit,ha,Bool.true_and] at e
    exact e
  · intro h
    refine Nat.eq_of_testBit_eq fun k=>?_
    rw [Nat.testBit_and,Nat.zero_testBit]
    cases ha:a.testBit k with
    | false=>rfl
    | true=>rw [h k ha]; rfl
theorem dis_comm {a b:Nat} (h:a&&&b=0):b&&&a=0:=by rw [Nat.and_comm]; exact h
def SubN (c b:Nat):Prop:=∀k,c.testBit k=true→b.testBit k=true
theorem dis_sub {a b c:Nat} (h:a&&&b=0) (s:SubN c b):a&&&c=0:=dis_iff.mpr fun k ha=>by
  cases hc:c.testBit k with
  | false=>rfl
  | true=>have:=dis_iff.mp h k ha; rw [s k hc] at this; exact this
theorem dis_sub' {a b c:Nat} (h:b&&&a=0) (s:SubN c b):c&&&a=0:=dis_comm (dis_sub (dis_comm h) s)
theorem sub_xor (b y:Nat):b - (b&&&y)=b ^^^ (b&&&y):=by
  have h0:(b ^^^ (b&&&y))&&&(b&&&y)=0:=dis_iff.mpr fun k h=>by
    rw [Nat.testBit_xor,Nat.testBit_and] at h
    rw [Nat.testBit_and]
    cases hb:b.testBit k <;> cases hy:y.testBit k <;> rw [hb,hy] at h <;> first | rfl | (simp at h)
  have h1:(b ^^^ (b&&&y))|||(b&&&y)=b:=by
    refine Nat.eq_of_testBit_eq fun k=>?_
    rw [Nat.testBit_or,Nat.testBit_xor,Nat.testBit_and]
    cases hb:b.testBit k <;> cases hy:y.testBit k <;> rfl
  have h2:=or_add _ _ h0
  omega
theorem tb_out (b y k:Nat):(b - (b&&&y)).testBit k=(b.testBit k && !y.testBit k):=by
  rw [sub_xor,Nat.testBit_xor,Nat.testBit_and]
  cases b.testBit k <;> cases y.testBit k <;> rfl
theorem sub_in (b y:Nat):SubN (b&&&y) b:=fun k h=>by
  rw [Nat.testBit_and,Bool.and_eq_true] at h
  exact h.1
theorem sub_out (b y:Nat):SubN (b - (b&&&y)) b:=fun k h=>by
  rw [tb_out,Bool.and_eq_true] at h
  exact h.1
theorem dis_in_out (b y:Nat):(b&&&y)&&&(b - (b&&&y))=0:=dis_iff.mpr fun k h=>by
  rw [Nat.testBit_and,Bool.and_eq_true] at h
  rw [tb_out,h.1,h.2]; rfl
theorem full_dis {m x:Nat} (h:x < 2 ^ m):x&&&(2 ^ m - 1 - x)=0:=dis_iff.mpr fun k hk=>by
  have e:2 ^ m - 1 - x=2 ^ m - (x + 1):=by omega
  rw [e,Nat.testBit_two_pow_sub_succ h,hk]
  simp
structure Good (m fx:Nat) (bs:List Nat):Prop where
  sum:fx + bs.sum=2 ^ m - 1
  pos:∀b∈bs,0 < b
  dis:∀b∈bs,fx&&&b=0
  pw:bs.Pairwise fun a b=>a&&&b=0
theorem len_sum:∀{bs:List Nat},(∀b∈bs,0 < b)→bs.length≤bs.sum
  | [],_=>Nat.le_refl _
  | b :: bs,h=>by
    have h1:=h b (List.mem_cons_self ..)
    have h2:=len_sum (bs:=bs) fun c hc=>h c (List.mem_cons_of_mem _ hc)
    rw [List.length_cons,List.sum_cons]
    omega
theorem mem_sum:∀{bs:List Nat} {b:Nat},b∈bs→b≤bs.sum
  | c :: bs,b,h=>by
    rw [List.sum_cons]
    rcases List.mem_cons.mp h with rfl | h
    · omega
    · have:=mem_sum h
      omega
theorem pow7 {m:Nat} (h:m≤7):2 ^ m≤128:=Nat.pow_le_pow_right (by decide) h
theorem Good.len {m fx:Nat} {bs:List Nat} (g:Good m fx bs) (h:m≤7):bs.length≤127:=by
  have h1:=len_sum g.pos
  have h2:=g.sum
  have h3:=pow7 h
  omega
theorem Good.lt {m fx:Nat} {bs:List Nat} (g:Good m fx bs) {b:Nat} (hb:b∈bs):b < 2 ^ m:=by
  have h1:=mem_sum hb
  have h2:=g.sum
  have h3:=Nat.two_pow_pos m
  omega
theorem split_at {bs:List Nat} {i:Nat} (h:i < bs.length):bs=bs.take i++bs.getD i 0 :: bs.drop (i + 1):=by
  have e:bs.getD i 0=bs[i]:=by rw [List.getD_eq_getElem?_getD,List.getElem?_eq_getElem h]; rfl
  rw [e,←List.drop_eq_getElem_cons h,List.take_append_drop]
theorem usable_in {st:Bool} {x y b:Nat} (h:usableB st x y b=true):x&&&b=0∧0 < b&&&y∧(st=true∨b&&&y < b):=by
  unfold usableB at h
  rw [Bool.and_eq_true,Bool.and_eq_true] at h
  obtain ⟨⟨h1,h2⟩,h3⟩:=h
  have e1:=of_decide_eq_true h1
  have e2:¬(y&&&b=0):=by
    intro z; rw [decide_eq_true z] at h2; cases h2
  rw [Nat.and_comm] at e2
  refine ⟨e1,by omega,?_⟩
  rw [Bool.or_eq_true] at h3
  rcases h3 with h3 | h3
  · exact .inl h3
  · right
    have e3:¬(y&&&b=b):=by
      intro z; rw [decide_eq_true z] at h3; cases h3
    rw [Nat.and_comm] at e3
    have:=Nat.and_le_left (n:=b) (m:=y)
    omega
theorem Good.use {m fx:Nat} {bs:List Nat} (g:Good m fx bs) {st:Bool} {x y i:Nat} (hi:i < bs.length) (hu:usableB st x y (bs.getD i 0)=true) :
    Good m (behindFx st y fx bs i) (behindBs st y bs i)∧2 * (behindBs st y bs i).sum - (behindBs st y bs i).length < 2 * bs.sum - bs.length:=by
  obtain ⟨_,hin,hout⟩:=usable_in hu
  have e:=split_at hi
  have ls:=len_sum g.pos
  unfold behindFx behindBs outN inN
  generalize bs.getD i 0=b at e hin hout
  generalize bs.take i=p at e
  generalize bs.drop (i + 1)=q at e
  subst e
  have le:b&&&y≤b:=Nat.and_le_left
  obtain ⟨sm,ps,ds,pw⟩:=g
  have hb:b∈p++b :: q:=List.mem_append_right _ (List.mem_cons_self ..)
  have hp:∀c∈p,c∈p++b :: q:=fun c hc=>List.mem_append_left _ hc
  have hq:∀c∈q,c∈p++b :: q:=fun c hc=>List.mem_append_right _ (List.mem_cons_of_mem _ hc)
  have db:=ds b hb
  rw [List.pairwise_append,List.pairwise_cons] at pw
  obtain ⟨pp,⟨bq,qq⟩,pq⟩:=pw
  have pb:∀c∈p,c&&&b=0:=fun c hc=>pq c hc b (List.mem_cons_self ..)
  have pq':∀c∈p,∀d∈q,c&&&d=0:=fun c hc d hd=>pq c hc d (List.mem_cons_of_mem _ hd)
  have sm':(p++b :: q).sum=p.sum + (b + q.sum):=by rw [List.sum_append,List.sum_cons]
  have ln':(p++b :: q).length=p.length + (q.length + 1):=by rw [List.length_append,List.length_cons]
  rw [sm'] at sm ls
  rw [sm',ln']
  rw [ln'] at ls
  have lp:p.length≤p.sum:=len_sum fun c hc=>ps c (hp c hc)
  have lq:q.length≤q.sum:=len_sum fun c hc=>ps c (hq c hc)
  have orfx:∀c,fx&&&c=0→(b&&&y)&&&c=0→(fx + (b&&&y))&&&c=0:=fun c h1 h2=>by
    rw [←or_add _ _ (dis_sub db (sub_in b y))]
    refine dis_iff.mpr fun k hk=>?_
    rw [Nat.testBit_or,Bool.or_eq_true] at hk
    rcases hk with hk | hk
    · exact dis_iff.mp h1 k hk
    · exact dis_iff.mp h2 k hk
  have inp:∀c∈p,(b&&&y)&&&c=0:=fun c hc=>dis_comm (dis_sub (pb c hc) (sub_in b y))
  have inq:∀c∈q,(b&&&y)&&&c=0:=fun c hc=>dis_sub' (bq c hc) (sub_in b y)
  have outp:∀c∈p,c&&&(b - (b&&&y))=0:=fun c hc=>dis_sub (pb c hc) (sub_out b y)
  have outq:∀c∈q,(b - (b&&&y))&&&c=0:=fun c hc=>dis_sub' (bq c hc) (sub_out b y)
  cases st with
  | true=>
    simp only [if_true]
    by_cases ho:0 < b - (b&&&y)
    · rw [if_pos ho]
      refine ⟨⟨?_,?_,?_,?_⟩,?_⟩
      · rw [List.append_assoc,List.sum_append,List.singleton_append,List.sum_cons]; omega
      · intro c hc
        rcases List.mem_append.mp hc with hc | hc
        · rcases List.mem_append.mp hc with hc | hc
          · exact ps c (hp c hc)
          · rw [List.mem_singleton.mp hc]; exact ho
        · exact ps c (hq c hc)
      · intro c hc
        rcases List.mem_append.mp hc with hc | hc
        · rcases List.mem_append.mp hc with hc | hc
          · exact orfx c (ds c (hp c hc)) (inp c hc)
          · rw [List.mem_singleton.mp hc]; exact orfx _ (dis_sub db (sub_out b y)) (dis_in_out b y)
        · exact orfx c (ds c (hq c hc)) (inq c hc)
      · rw [List.append_assoc,List.singleton_append,List.pairwise_append,List.pairwise_cons]
        refine ⟨pp,⟨outq,qq⟩,fun c hc d hd=>?_⟩
        rcases List.mem_cons.mp hd with rfl | hd
        · exact outp c hc
        · exact pq' c hc d hd
      · rw [List.append_assoc,List.sum_append,List.singleton_append,List.sum_cons,List.length_append,List.length_cons]; omega
    · rw [if_neg ho,List.append_nil]
      refine ⟨⟨?_,?_,?_,?_⟩,?_⟩
      · rw [List.sum_append]; omega
      · intro c hc
        rcases List.mem_append.mp hc with hc | hc
        · exact ps c (hp c hc)
        · exact ps c (hq c hc)
      · intro c hc
        rcases List.mem_append.mp hc with hc | hc
        · exact orfx c (ds c (hp c hc)) (inp c hc)
        · exact orfx c (ds c (hq c hc)) (inq c hc)
      · rw [List.pairwise_append]
        exact ⟨pp,qq,pq'⟩
      · rw [List.sum_append,List.length_append]; omega
  | false=>
    have ho:0 < b - (b&&&y):=by
      rcases hout with h | h
      · cases h
      · omega
    simp only [Bool.false_eq_true,if_false]
    rw [List.append_assoc,List.cons_append,List.cons_append,List.nil_append]
    refine ⟨⟨?_,?_,?_,?_⟩,?_⟩
    · rw [List.sum_append,List.sum_cons,List.sum_cons]; omega
    · intro c hc
      rcases List.mem_append.mp hc with hc | hc
      · exact ps c (hp c hc)
      · rcases List.mem_cons.mp hc with rfl | hc
        · exact hin
        · rcases List.mem_cons.mp hc with rfl | hc
          · exact ho
          · exact ps c (hq c hc)
    · intro c hc
      rcases List.mem_append.mp hc with hc | hc
      · exact ds c (hp c hc)
      · rcases List.mem_cons.mp hc with rfl | hc
        · exact dis_sub db (sub_in b y)
        · rcases List.mem_cons.mp hc with rfl | hc
          · exact dis_sub db (sub_out b y)
          · exact ds c (hq c hc)
    · rw [List.pairwise_append,List.pairwise_cons,List.pairwise_cons]
      refine ⟨pp,⟨fun d hd=>?_,outq,qq⟩,fun c hc d hd=>?_⟩
      · rcases List.mem_cons.mp hd with rfl | hd
        · exact dis_in_out b y
        · exact inq d hd
      · rcases List.mem_cons.mp hd with rfl | hd
        · exact dis_comm (inp c hc)
        · rcases List.mem_cons.mp hd with rfl | hd
          · exact outp c hc
          · exact pq' c hc d hd
    · rw [List.sum_append,List.sum_cons,List.sum_cons,List.length_append,List.length_cons,List.length_cons]; omega
def beginBs (m x:Nat):List Nat:=if x < 2 ^ m - 1 then [2 ^ m - 1 - x] else []
theorem Good.begin {m x:Nat} (h:x < 2 ^ m):Good m x (beginBs m x):=by
  unfold beginBs
  split
  · refine ⟨by simp; omega,fun b hb=>?_,fun b hb=>?_,List.pairwise_singleton _ _⟩
    · rw [List.mem_singleton.mp hb]; omega
    · rw [List.mem_singleton.mp hb]; exact full_dis h
  · exact ⟨by simp; omega,fun b hb=>absurd hb List.not_mem_nil,fun b hb=>absurd hb List.not_mem_nil,List.Pairwise.nil⟩
abbrev RD:=Bool × Nat × Nat
def usB (r:RD) (b:Nat):Bool:=usableB r.1 r.2.1 r.2.2 b
def usesR (r:RD) (k:Nat) (bs:List Nat) (n:Nat):List (Nat × Nat):=((List.range n).filter fun a=>usB r (bs.getD a 0)).map fun a=>(k,a)
def rdAt (rs:List RD) (k:Nat):RD:=rs.getD k (false,0,0)
def usesN (rs:List RD) (bs:List Nat) (i:Nat):List (Nat × Nat):=(List.range i).flatMap fun k=>usesR (rdAt rs k) k bs bs.length
theorem usesR_succ (r:RD) (k:Nat) (bs:List Nat) (n:Nat):usesR r k bs (n + 1)=usesR r k bs n++(if usB r (bs.getD n 0)=true then [(k,n)] else []):=by
  unfold usesR
  rw [List.range_succ,List.filter_append,List.map_append]
  congr 1
  cases h:usB r (bs.getD n 0) <;> simp only [List.filter_cons,List.filter_nil,h] <;> rfl
theorem usesN_succ (rs:List RD) (bs:List Nat) (i:Nat):usesN rs bs (i + 1)=usesN rs bs i++usesR (rdAt rs i) i bs bs.length:=by
  unfold usesN
  rw [List.range_succ,List.flatMap_append,List.flatMap_cons,List.flatMap_nil,List.append_nil]
theorem mem_usesR {r:RD} {k n:Nat} {bs:List Nat} {u:Nat × Nat} (h:u∈usesR r k bs n):u.1=k∧u.2 < n∧usB r (bs.getD u.2 0)=true:=by
  unfold usesR at h
  obtain ⟨a,ha,rfl⟩:=List.mem_map.mp h
  obtain ⟨h1,h2⟩:=List.mem_filter.mp ha
  exact ⟨rfl,List.mem_range.mp h1,h2⟩
theorem mem_usesN {rs:List RD} {bs:List Nat} {i:Nat} {u:Nat × Nat} (h:u∈usesN rs bs i):u.1 < i∧u.2 < bs.length∧usB (rdAt rs u.1) (bs.getD u.2 0)=true:=by
  unfold usesN at h
  obtain ⟨k,hk,hu⟩:=List.mem_flatMap.mp h
  obtain ⟨rfl,h2,h3⟩:=mem_usesR hu
  exact ⟨List.mem_range.mp hk,h2,h3⟩
theorem uses_nil {rs:List RD} {bs:List Nat} (h:usesN rs bs rs.length=[]) {r:RD} (hr:r∈rs) {b:Nat} (hb:b∈bs):usB r b=false:=by
  cases e:usB r b with
  | false=>rfl
  | true=>
    exfalso
    obtain ⟨k,hk,rfl⟩:=List.getElem_of_mem hr
    obtain ⟨a,ha,rfl⟩:=List.getElem_of_mem hb
    have e1:rdAt rs k=rs[k]:=by unfold rdAt; rw [List.getD_eq_getElem?_getD,List.getElem?_eq_getElem hk]; rfl
    have e2:bs.getD a 0=bs[a]:=by rw [List.getD_eq_getElem?_getD,List.getElem?_eq_getElem ha]; rfl
    have:(k,a)∈usesN rs bs rs.length:=by
      unfold usesN
      refine List.mem_flatMap.mpr ⟨k,List.mem_range.mpr hk,?_⟩
      unfold usesR
      refine List.mem_map.mpr ⟨a,List.mem_filter.mpr ⟨List.mem_range.mpr ha,?_⟩,rfl⟩
      rw [e1,e2]; exact e
    rw [h] at this
    exact absurd this List.not_mem_nil
structure US where
  fx:Nat
  bs:List Nat
  st:List (Nat × Nat)
def stepS (rs:List RD) (s:US) (u:Nat × Nat):US:=
  ⟨behindFx (rdAt rs u.1).1 (rdAt rs u.1).2.2 s.fx s.bs u.2,behindBs (rdAt rs u.1).1 (rdAt rs u.1).2.2 s.bs u.2,s.st++[(u.1,s.bs.getD u.2 0)]⟩
inductive Run (rs:List RD):US→US→Prop
  | done {s:US}:usesN rs s.bs rs.length=[]→Run rs s s
  | step {s t:US} {u:Nat × Nat} {us:List (Nat × Nat)}:usesN rs s.bs rs.length=u :: us→Run rs (stepS rs s u) t→Run rs s t
def muS (bs:List Nat):Nat:=2 * bs.sum - bs.length
theorem step_good {rs:List RD} {s:US} {u:Nat × Nat} {m:Nat} (g:Good m s.fx s.bs) (h:u∈usesN rs s.bs rs.length):Good m (stepS rs s u).fx (stepS rs s u).bs∧muS (stepS rs s u).bs < muS s.bs:=by
  obtain ⟨_,h2,h3⟩:=mem_usesN h
  exact g.use h2 h3
theorem step_st (rs:List RD) (s:US) (u:Nat × Nat):(stepS rs s u).st.length=s.st.length + 1:=by
  unfold stepS
  rw [List.length_append]; rfl
theorem usesR_pre (r:RD) (k:Nat) (bs:List Nat) (j:Nat):∀d,∃z,usesR r k bs (j + d)=usesR r k bs j++z
  | 0=>⟨[],by rw [List.append_nil]; rfl⟩
  | d + 1=>by
    obtain ⟨z,e⟩:=usesR_pre r k bs j d
    exact ⟨_,by rw [←Nat.add_assoc,usesR_succ,e,List.append_assoc]⟩
theorem usesN_pre (rs:List RD) (bs:List Nat) (i:Nat):∀d,∃z,usesN rs bs (i + d)=usesN rs bs i++z
  | 0=>⟨[],by rw [List.append_nil]; rfl⟩
  | d + 1=>by
    obtain ⟨z,e⟩:=usesN_pre rs bs i d
    exact ⟨_,by rw [←Nat.add_assoc,usesN_succ,e,List.append_assoc]⟩
theorem uses_first {rs:List RD} {bs:List Nat} {i j n:Nat} (h0:usesN rs bs i=[]) (h1:usesR (rdAt rs i) i bs j=[]) (hi:i < n) (hj:j < bs.length) (hu:usB (rdAt rs i) (bs.getD j 0)=true):∃us,usesN rs bs n=(i,j) :: us:=by
  obtain ⟨z,e⟩:=usesN_pre rs bs (i + 1) (n - (i + 1))
  obtain ⟨z',e'⟩:=usesR_pre (rdAt rs i) i bs (j + 1) (bs.length - (j + 1))
  rw [show i + 1 + (n - (i + 1))=n by omega] at e
  rw [show j + 1 + (bs.length - (j + 1))=bs.length by omega,usesR_succ,h1,if_pos hu] at e'
  rw [e,usesN_succ,h0,e']
  exact ⟨_,rfl⟩
def orL (bs:List Nat):Nat:=bs.foldr (·|||·) 0
theorem orL_dis {c:Nat}:∀{bs:List Nat},(∀b∈bs,c&&&b=0)→c&&&orL bs=0
  | [],_=>by simp [orL]
  | b :: bs,h=>by
    show c&&&(b|||orL bs)=0
    have h1:=h b (List.mem_cons_self ..)
    have h2:=orL_dis (bs:=bs) fun d hd=>h d (List.mem_cons_of_mem _ hd)
    refine dis_iff.mpr fun k hk=>?_
    rw [Nat.testBit_or,dis_iff.mp h1 k hk,dis_iff.mp h2 k hk]; rfl
theorem orL_sum:∀{bs:List Nat},(bs.Pairwise fun a b=>a&&&b=0)→orL bs=bs.sum
  | [],_=>rfl
  | b :: bs,h=>by
    rw [List.pairwise_cons] at h
    show b|||orL bs=_
    rw [or_add _ _ (orL_dis h.1),orL_sum h.2,List.sum_cons]
theorem tb_orL {k:Nat}:∀{bs:List Nat},(orL bs).testBit k=true↔∃b∈bs,b.testBit k=true
  | []=>by simp [orL]
  | b :: bs=>by
    show (b|||orL bs).testBit k=true↔_
    rw [Nat.testBit_or,Bool.or_eq_true,tb_orL (bs:=bs)]
    constructor
    · rintro (h | ⟨c,hc,h⟩)
      · exact ⟨b,List.mem_cons_self ..,h⟩
      · exact ⟨c,List.mem_cons_of_mem _ hc,h⟩
    · rintro ⟨c,hc,h⟩
      rcases List.mem_cons.mp hc with rfl | hc
      · exact .inl h
      · exact .inr ⟨c,hc,h⟩
theorem Good.col {m fx:Nat} {bs:List Nat} (g:Good m fx bs) {k:Nat}:fx.testBit k=true↔k < m∧∀b∈bs,b.testBit k=false:=by
  have e:fx|||orL bs=2 ^ m - 1:=by rw [or_add _ _ (orL_dis g.dis),orL_sum g.pw,g.sum]
  have t:(fx|||orL bs).testBit k=decide (k < m):=by rw [e,Nat.testBit_two_pow_sub_one]
  rw [Nat.testBit_or] at t
  constructor
  · intro h
    rw [h,Bool.true_or] at t
    exact ⟨of_decide_eq_true t.symm,fun b hb=>dis_iff.mp (g.dis b hb) k h⟩
  · rintro ⟨hk,h⟩
    rw [decide_eq_true hk,Bool.or_eq_true] at t
    rcases t with t | t
    · exact t
    · obtain ⟨b,hb,hbk⟩:=tb_orL.mp t
      rw [h b hb] at hbk; cases hbk
theorem usable_sub {st:Bool} {x y b d:Nat} (hu:usableB st x y b=true) (hd:usableB st x y d=false) (s:SubN d b):y&&&d=0∨(st=false∧y&&&d=d):=by
  obtain ⟨h1,_,_⟩:=usable_in hu
  have h2:x&&&d=0:=dis_sub h1 s
  unfold usableB at hd
  rw [decide_eq_true h2,Bool.true_and] at hd
  by_cases h3:y&&&d=0
  · exact .inl h3
  · right
    rw [decide_eq_false h3,Bool.not_false,Bool.true_and,Bool.or_eq_false_iff] at hd
    refine ⟨hd.1,?_⟩
    by_cases h4:y&&&d=d
    · exact h4
    · rw [decide_eq_false h4] at hd; cases hd.2
theorem keep_in {st:Bool} {x y d i:Nat} {bs:List Nat} (hi:i < bs.length) (hu:usableB st x y (bs.getD i 0)=true) (hd:usableB st x y d=false) (d0:d≠0) (h:∃b∈bs,SubN d b):∃b∈behindBs st y bs i,SubN d b:=by
  obtain ⟨b,hb,hs⟩:=h
  have e:=split_at hi
  unfold behindBs outN inN
  generalize bs.getD i 0=c at e hu
  generalize bs.take i=p at e
  generalize bs.drop (i + 1)=q at e
  subst e
  rcases List.mem_append.mp hb with hb | hb
  · exact ⟨b,List.mem_append_left _ (List.mem_append_left _ hb),hs⟩
  rcases List.mem_cons.mp hb with rfl | hb
  · have so:y&&&d=0→SubN d (b - (b&&&y)):=fun z k hk=>by
      rw [tb_out,hs k hk,dis_iff.mp (dis_comm z) k hk]; rfl
    have si:y&&&d=d→SubN d (b&&&y):=fun z k hk=>by
      have:(y&&&d).testBit k=true:=by rw [z]; exact hk
      rw [Nat.testBit_and,Bool.and_eq_true] at this
      rw [Nat.testBit_and,hs k hk,this.1]; rfl
    have ne:SubN d (b - (b&&&y))→0 < b - (b&&&y):=fun z=>by
      apply Nat.pos_of_ne_zero
      intro e0
      apply d0
      refine Nat.eq_of_testBit_eq fun k=>?_
      rw [Nat.zero_testBit]
      cases hk:d.testBit k with
      | false=>rfl
      | true=>have:=z k hk; rw [e0,Nat.zero_testBit] at this; cases this
    rcases usable_sub hu hd hs with z | ⟨rfl,z⟩
    · refine ⟨b - (b&&&y),List.mem_append_left _ (List.mem_append_right _ ?_),so z⟩
      cases st with
      | true=>rw [if_pos rfl,if_pos (ne (so z))]; exact List.mem_singleton.mpr rfl
      | false=>rw [if_neg Bool.false_ne_true]; exact List.mem_cons_of_mem _ (List.mem_singleton.mpr rfl)
    · exact ⟨b&&&y,List.mem_append_left _ (List.mem_append_right _ (List.mem_cons_self ..)),si z⟩
  · exact ⟨b,List.mem_append_right _ hb,hs⟩
theorem rd_mem {rs:List RD} {k:Nat} (h:k < rs.length):rdAt rs k∈rs:=by
  unfold rdAt
  rw [List.getD_eq_getElem?_getD,List.getElem?_eq_getElem h]
  exact List.getElem_mem h
theorem Run.good {rs:List RD} {s t:US} {m:Nat} (h:Run rs s t):Good m s.fx s.bs→Good m t.fx t.bs∧usesN rs t.bs rs.length=[]:=by
  induction h with
  | done h=>exact fun g=>⟨g,h⟩
  | step e _ ih=>exact fun g=>ih (step_good g (by rw [e]; exact List.mem_cons_self ..)).1
theorem Run.keep {rs:List RD} {s t:US} {d:Nat} (h:Run rs s t) (d0:d≠0) (hd:∀r∈rs,usB r d=false):(∃b∈s.bs,SubN d b)→∃b∈t.bs,SubN d b:=by
  induction h with
  | done h=>exact id
  | step e _ ih=>
    intro z
    obtain ⟨h1,h2,h3⟩:=mem_usesN (rs:=rs) (by rw [e]; exact List.mem_cons_self ..)
    exact ih (keep_in h2 h3 (hd _ (rd_mem h1)) d0 z)
theorem begin_sub {m x d:Nat} (hx:x < 2 ^ m) (hd:d < 2 ^ m) (d0:d≠0) (z:d&&&x=0):∃b∈beginBs m x,SubN d b:=by
  have s:SubN d (2 ^ m - 1 - x):=fun k hk=>by
    have e:2 ^ m - 1 - x=2 ^ m - (x + 1):=by omega
    rw [e,Nat.testBit_two_pow_sub_succ hx,dis_iff.mp z k hk]
    have:k < m:=by
      apply Nat.lt_of_not_le
      intro le
      have:d.testBit k=false:=Nat.testBit_lt_two_pow (Nat.lt_of_lt_of_le hd (Nat.pow_le_pow_right (by decide) le))
      rw [this] at hk; cases hk
    rw [decide_eq_true this]; rfl
  have lt:x < 2 ^ m - 1:=by
    apply Nat.lt_of_not_le
    intro le
    apply d0
    have e:2 ^ m - 1 - x=0:=by omega
    refine Nat.eq_of_testBit_eq fun k=>?_
    rw [Nat.zero_testBit]
    cases hk:d.testBit k with
    | false=>rfl
    | true=>have:=s k hk; rw [e,Nat.zero_testBit] at this; cases this
  unfold beginBs
  rw [if_pos lt]
  exact ⟨_,List.mem_singleton.mpr rfl,s⟩
theorem behind_sub {st:Bool} {y i k:Nat} {bs:List Nat} (hi:i < bs.length) (h:∃b∈behindBs st y bs i,b.testBit k=true):∃b∈bs,b.testBit k=true:=by
  obtain ⟨b,hb,hk⟩:=h
  have e:=split_at hi
  unfold behindBs outN inN at hb
  generalize bs.getD i 0=c at e hb
  generalize bs.take i=p at e hb
  generalize bs.drop (i + 1)=q at e hb
  subst e
  rcases List.mem_append.mp hb with hb | hb
  · rcases List.mem_append.mp hb with hb | hb
    · exact ⟨b,List.mem_append_left _ hb,hk⟩
    · refine ⟨c,List.mem_append_right _ (List.mem_cons_self ..),?_⟩
      cases st with
      | true=>
        rw [if_pos rfl] at hb
        split at hb
        · rw [List.mem_singleton.mp hb] at hk; exact sub_out c y k hk
        · exact absurd hb List.not_mem_nil
      | false=>
        rw [if_neg Bool.false_ne_true] at hb
        rcases List.mem_cons.mp hb with rfl | hb
        · exact sub_in c y k hk
        · rw [List.mem_singleton.mp hb] at hk; exact sub_out c y k hk
  · exact ⟨b,List.mem_append_right _ (List.mem_cons_of_mem _ hb),hk⟩
theorem Run.sub {rs:List RD} {s t:US} {k:Nat} (h:Run rs s t):(∃b∈t.bs,b.testBit k=true)→∃b∈s.bs,b.testBit k=true:=by
  induction h with
  | done h=>exact id
  | step e _ ih=>
    intro z
    obtain ⟨_,h2,_⟩:=mem_usesN (rs:=rs) (by rw [e]; exact List.mem_cons_self ..)
    exact behind_sub h2 (ih z)
end L2
namespace L2
open PySem PySem.Spec PyProof.Rows
theorem Same.own {H H':Hp} {p:Addr} {o:HO} (e:Same H H') (h:H p=Option.none):Same H (upd H' p o):=fun c u z=>by
  rw [upd_ne (ne_of_none z h)]
  exact e c u z
theorem and_not (b y:Nat):Builtin.bitAnd (b:Int) (Builtin.bitNot (y:Int))=((b - (b&&&y):Nat):Int):=by
  have hy:¬0≤Builtin.bitNot (y:Int):=by unfold Builtin.bitNot; omega
  have hb:0≤(b:Int):=by omega
  have le:=Nat.and_le_left (n:=b) (m:=y)
  simp only [Builtin.bitAnd,hy,hb,decide_false,decide_true,bitNot_not,Int.toNat_natCast]
  omega
section
variable {X:Cx} {K:PySem.W.Frag}
theorem op_andInv:OpR X (binaryOp .BitAnd) (fun x y H Q=>∃a b:Nat,x=vN a∧y = .int (Builtin.bitNot (b:Int))∧Q (vN (a - (a&&&b))) H):=op_and.mono fun x y H Q ⟨a,b,h1,h2,q⟩=>⟨a,_,h1,h2,by
  show Q (V.int (Builtin.bitAnd (a:Int) (Builtin.bitNot (b:Int)))) H
  rw [and_not]; exact q⟩
theorem pg_tupK {es:List Expr} {k:Nat} {pos:Pos} {t:TGs} {n:Nat} (hK:X.K=K) (hc:X.calm=true) (h:PGs X es t) (hn:(assignEach es X.env).length=n) (hst:(assignEach es X.env).findIdx? (·.1)=none):PG X (.Tuple es k pos) (gTup K n t):=hK ▸ pg_tup hc h hn hst
end
def spListed:Sp:=fun vs H Q _=>∃b:Nat,vs=[vN b]∧∀p,H p=none→Q (.ref p) (upd H p (.lst ((if 0 < b then [b] else []).map vN)))
def spUsed (K:PySem.W.Frag):Sp:=fun vs H Q _=>∃(r l:Addr) (st:Bool) (x y fx at_:Nat) (bs:List Nat),vs=[.ref r,vN fx,.ref l,vN at_]∧RuleAt H r st x y∧SqL K H l (bs.map vN)∧at_ < bs.length∧bs.length≤200∧fx&&&bs.getD at_ 0=0∧
  ∀(t p:Addr) (H':Hp),Same H H'→H t=none→H' t=some (.tup [vN (behindFx st y fx bs at_),.ref p])→H p=none→H' p=some (.lst ((behindBs st y bs at_).map vN))→Q (.ref t) H'
def spBegun (K:PySem.W.Frag):Sp:=fun vs H Q _=>∃m x:Nat,vs=[vN m,vN x]∧m≤7∧x < 2 ^ m∧
  ∀(t p:Addr) (H':Hp),Same H H'→H t=none→H' t=some (.tup [vN x,.ref p])→H p=none→H' p=some (.lst ((beginBs m x).map vN))→Q (.ref t) H'
def Rl.d (r:Rl):RD:=(r.st,r.x,r.y)
theorem rd_at {rs:List Rl} {k:Nat} {r:Rl} (h:rs[k]? = some r):rdAt (rs.map Rl.d) k=r.d:=by
  unfold rdAt
  rw [List.getD_eq_getElem?_getD,List.getElem?_map,h]; rfl
def RulesAt (H:Hp) (m:Nat) (rs:List Rl):Prop:=∀r∈rs,RuleAt H r.r r.st r.x r.y∧r.x < 2 ^ m∧r.y < 2 ^ m
theorem RulesAt.same {H H':Hp} {m:Nat} {rs:List Rl} (h:RulesAt H m rs) (e:Same H H'):RulesAt H' m rs:=fun r hr=>⟨e _ _ (h r hr).1,(h r hr).2⟩
def spFirstUse (K:PySem.W.Frag):Sp:=fun vs H Q _=>∃(rl bl:Addr) (rs:List Rl) (bs:List Nat) (m:Nat),vs=[.ref rl,.ref bl]∧SqL K H rl (rs.map fun r=>V.ref r.r)∧RulesAt H m rs∧SqL K H bl (bs.map vN)∧rs.length≤200∧bs.length≤200∧
  (∀H',Same H H'→usesN (rs.map Rl.d) bs rs.length=[]→Q .non H')∧
  ∀(u:Nat × Nat) (us:List (Nat × Nat)) (t:Addr) (H':Hp),Same H H'→usesN (rs.map Rl.d) bs rs.length=u :: us→H t=none→H' t=some (.tup [vN u.1,vN u.2])→Q (.ref t) H'
abbrev SW:=Addr × (Nat × Nat)
def StepsAt (H:Hp) (sw:List SW):Prop:=∀w∈sw,H w.1=some (.tup [vN w.2.1,vN w.2.2])
theorem StepsAt.same {H H':Hp} {sw:List SW} (h:StepsAt H sw) (e:Same H H'):StepsAt H' sw:=fun w hw=>e _ _ (h w hw)
theorem StepsAt.put {H:Hp} {sw:List SW} {q:Addr} {xs ys:List V} (h:StepsAt H sw) (hq:H q=some (.lst xs)):StepsAt (upd H q (.lst ys)) sw:=fun w hw=>by
  rw [upd_ne (ne_of (h w hw) hq (by intro z; cases z))]
  exact h w hw
theorem StepsAt.snoc {H:Hp} {sw:List SW} {w:SW} (h:StepsAt H sw) (hw:H w.1=some (.tup [vN w.2.1,vN w.2.2])):StepsAt H (sw++[w]):=fun v hv=>by
  rcases List.mem_append.mp hv with hv | hv
  · exact h v hv
  · rw [List.mem_singleton.mp hv]; exact hw
theorem rd_len (rs:List Rl):(rs.map Rl.d).length=rs.length:=List.length_map ..
def spUnfolded (K:PySem.W.Frag):Sp:=fun vs H Q _=>∃(m x:Nat) (rl:Addr) (rs:List Rl),vs=[vN m,.ref rl,vN x]∧m≤7∧x < 2 ^ m∧SqL K H rl (rs.map fun r=>V.ref r.r)∧RulesAt H m rs∧rs.length≤200∧
  ∀(t p q:Addr) (s:US) (sw:List SW) (H':Hp),Run (rs.map Rl.d) ⟨x,beginBs m x,[]⟩ s→Same H H'→H t=none→H' t=some (.tup [vN s.fx,.ref p,.ref q])→H p=none→H' p=some (.lst (s.bs.map vN))→H q=none→H' q=some (.lst (sw.map fun w=>V.ref w.1))→StepsAt H' sw→sw.map (·.2)=s.st→sw.length≤300→p≠q→Q (.ref t) H'
end L2
namespace L2
open PySem PySem.Spec PyProof.Rows
structure UCore (H:Hp) (m x:Nat) (rs:List Rl) (s:US) (p qa:Addr) (sw:List SW) (H':Hp):Prop where
  same:Same H H'
  hp0:H p=none
  hp:H' p=some (.lst (s.bs.map vN))
  npq:p≠qa
  hq0:H qa=none
  hq:H' qa=some (.lst (sw.map fun w=>V.ref w.1))
  st:StepsAt H' sw
  est:sw.map (·.2)=s.st
  good:Good m s.fx s.bs
  run:∀z,Run (rs.map Rl.d) s z→Run (rs.map Rl.d) ⟨x,beginBs m x,[]⟩ z
  len:s.st.length + muS s.bs≤254
theorem UCore.mono {H:Hp} {m x:Nat} {rs:List Rl} {s:US} {p qa:Addr} {sw:List SW} {H' H'':Hp} (c:UCore H m x rs s p qa sw H') (e:Same H' H''):UCore H m x rs s p qa sw H'':=
  ⟨c.same.trans e,c.hp0,e _ _ c.hp,c.npq,c.hq0,e _ _ c.hq,c.st.same e,c.est,c.good,c.run,c.len⟩
theorem UCore.begin {H H':Hp} {m x:Nat} {rs:List Rl} {p qa:Addr} (m7:m≤7) (hx:x < 2 ^ m) (e:Same H H') (hp0:H p=none) (hp:H' p=some (.lst ((beginBs m x).map vN))) (hq:H' qa=none):UCore H m x rs ⟨x,beginBs m x,[]⟩ p qa [] (upd H' qa (.lst [])):=by
  have g:=Good.begin hx
  refine ⟨e.trans (Same.new hq),hp0,Same.new hq _ _ hp,ne_of_none hp hq,e.none hq,upd_same,fun w h=>absurd h List.not_mem_nil,rfl,g,fun z h=>h,?_⟩
  have e:=g.sum
  have p7:=pow7 m7
  show 0 + muS (beginBs m x)≤254
  unfold muS
  omega
theorem UCore.slen {H:Hp} {m x:Nat} {rs:List Rl} {s:US} {p qa:Addr} {sw:List SW} {H':Hp} (c:UCore H m x rs s p qa sw H'):sw.length≤254:=by
  have:=c.len
  have e:=congrArg List.length c.est
  rw [List.length_map] at e
  omega
theorem UCore.next {H:Hp} {m x:Nat} {rs:List Rl} {s:US} {p p' qa:Addr} {sw:List SW} {w:SW} {H1 H3:Hp} {u:Nat × Nat} {us:List (Nat × Nat)} (c:UCore H m x rs s p qa sw H1) (hu:usesN (rs.map Rl.d) s.bs rs.length=u :: us) (ew:w.2=(u.1,s.bs.getD u.2 0)) (hw:H1 w.1=some (.tup [vN w.2.1,vN w.2.2]))
    (s3:Same (upd H1 qa (.lst ((sw.map fun w=>V.ref w.1)++[V.ref w.1]))) H3) (hp':(upd H1 qa (.lst ((sw.map fun w=>V.ref w.1)++[V.ref w.1]))) p' = none) (hp3:H3 p' = some (.lst ((stepS (rs.map Rl.d) s u).bs.map vN))) :
    UCore H m x rs (stepS (rs.map Rl.d) s u) p' qa (sw++[w]) H3∧muS (stepS (rs.map Rl.d) s u).bs < muS s.bs:=by
  rw [←rd_len] at hu
  obtain ⟨g,mu⟩:=step_good (m:=m) (rs:=rs.map Rl.d) (s:=s) (u:=u) c.good (by rw [hu]; exact List.mem_cons_self ..)
  have sH:Same H (upd H1 qa (.lst ((sw.map fun w=>V.ref w.1)++[V.ref w.1]))):=c.same.own c.hq0
  refine ⟨⟨sH.trans s3,sH.none hp',hp3,Ne.symm (ne_of_none upd_same hp'),c.hq0,?_,?_,?_,g,fun z h=>c.run z (Run.step hu h),?_⟩,mu⟩
  · rw [s3 _ _ upd_same,List.map_append]; rfl
  · refine ((c.st.put c.hq).snoc ?_).same s3
    rw [upd_ne (ne_of hw c.hq (by intro z; cases z))]
    exact hw
  · rw [List.map_append,c.est]
    show s.st++[w.2]=s.st++[(u.1,s.bs.getD u.2 0)]
    rw [ew]
  · rw [step_st]
    have:=c.len
    omega
def UInv (H:Hp) (m x:Nat) (rl:Addr) (rs:List Rl) (n:Nat) (σ:St) (H':Hp):Prop:=
  ∃(s:US) (t p qa:Addr) (sw:List SW) (v:V),σ=[some (vN m),some (.ref rl),some (vN x),some (.ref t),some (.ref qa),some v]∧n=muS s.bs∧H' t=some (.tup [vN s.fx,.ref p])∧UCore H m x rs s p qa sw H'∧
    ((usesN (rs.map Rl.d) s.bs rs.length=[]∧v = .non)∨∃u us t5,usesN (rs.map Rl.d) s.bs rs.length=u :: us∧v = .ref t5∧H' t5=some (.tup [vN u.1,vN u.2]))
theorem uses_at {rs:List Rl} {bs:List Nat} {u:Nat × Nat} {m:Nat} {H:Hp} (hu:u∈usesN (rs.map Rl.d) bs rs.length) (hR:RulesAt H m rs):∃r:Rl,rs[u.1]? = some r∧rdAt (rs.map Rl.d) u.1=r.d∧u.2 < bs.length∧bs[u.2]? = some (bs.getD u.2 0)∧(RuleAt H r.r r.st r.x r.y∧r.x < 2 ^ m∧r.y < 2 ^ m):=by
  obtain ⟨h1,h2,_⟩:=mem_usesN hu
  have e:rs[u.1]? = some rs[u.1]:=List.getElem?_eq_getElem h1
  exact ⟨rs[u.1],e,rd_at e,h2,by rw [List.getD_eq_getElem?_getD,List.getElem?_eq_getElem h2]; rfl,hR _ (List.getElem_mem h1)⟩
end L2
namespace L2
open PySem PySem.Spec PyProof.Rows
theorem find_hit {f:Nat→Bool} {bs:List Nat} {i b:Nat} (h0:(bs.take i).find? f=none) (e:bs[i]? = some b) (h:f b=true):bs.find? f=some b:=by
  have hi:i < bs.length:=(List.getElem?_eq_some_iff.mp e).1
  have s:=split_at hi
  have ebd:bs.getD i 0=b:=by rw [List.getD_eq_getElem?_getD,e]; rfl
  rw [s,List.find?_append,h0,ebd,List.find?_cons,h]
  rfl
theorem find_miss {f:Nat→Bool} {bs:List Nat} {i b:Nat} (h0:(bs.take i).find? f=none) (e:bs[i]? = some b) (h:f b≠true):(bs.take (i + 1)).find? f=none:=by
  rw [List.take_succ,e,List.find?_append,h0]
  show (none:Option Nat).or ([b].find? f)=none
  rw [List.find?_cons]
  cases z:f b with
  | true=>exact absurd z h
  | false=>rfl
section
variable {X:Cx} {K:PySem.W.Frag}
end
end L2
namespace L2
open PySem PySem.Spec PyProof.Rows
end L2
namespace L2
theorem Run.apart0 {rs:List RD} {m x:Nat} {s:US} (hx:x < 2 ^ m) (h:Run rs ⟨x,beginBs m x,[]⟩ s) {b:Nat} (hb:b∈s.bs):x&&&b=0:=by
  refine dis_iff.mpr fun k hk=>?_
  cases hbk:b.testBit k with
  | false=>rfl
  | true=>
    obtain ⟨c,hc,hck⟩:=h.sub ⟨b,hb,hbk⟩
    have:=(Good.begin hx).dis c hc
    rw [dis_iff.mp this k hk] at hck
    cases hck
def KeptS (m:Nat) (rs:List RD) (d:Nat):Prop:=1≤d∧d < 2 ^ m∧∀r∈rs,usB r d=false
def HasB (a k:Nat):Prop:=a.testBit k=true
theorem bit_of_ne {a:Nat} (h:a≠0):∃k,HasB a k:=by
  by_cases z:∃k,HasB a k
  · exact z
  · exfalso
    apply h
    refine Nat.eq_of_testBit_eq fun k=>?_
    rw [Nat.zero_testBit]
    cases e:a.testBit k with
    | false=>rfl
    | true=>exact absurd ⟨k,e⟩ z
theorem hasb_and (a b k:Nat):HasB (a&&&b) k↔HasB a k∧HasB b k:=by unfold HasB; rw [Nat.testBit_and,Bool.and_eq_true]
theorem hasb_or (a b k:Nat):HasB (a|||b) k↔HasB a k∨HasB b k:=by unfold HasB; rw [Nat.testBit_or,Bool.or_eq_true]
theorem hasb_full {m x:Nat} (hx:x < 2 ^ m) (k:Nat):HasB (2 ^ m - 1 - x) k↔k < m∧¬HasB x k:=by
  unfold HasB
  rw [show 2 ^ m - 1 - x=2 ^ m - (x + 1) by omega,Nat.testBit_two_pow_sub_succ hx,Bool.and_eq_true,decide_eq_true_iff]
  cases x.testBit k <;> simp
theorem hasb_lt {m a k:Nat} (ha:a < 2 ^ m) (h:HasB a k):k < m:=by
  apply Nat.lt_of_not_le
  intro le
  have:a.testBit k=false:=Nat.testBit_lt_two_pow (Nat.lt_of_lt_of_le ha (Nat.pow_le_pow_right (by decide) le))
  unfold HasB at h
  rw [this] at h; cases h
theorem and_ne {a b:Nat}:a&&&b≠0↔∃k,HasB a k∧HasB b k:=by
  constructor
  · intro h
    obtain ⟨k,hk⟩:=bit_of_ne h
    exact ⟨k,(hasb_and a b k).mp hk⟩
  · rintro ⟨k,h1,h2⟩ e
    have:=(hasb_and a b k).mpr ⟨h1,h2⟩
    unfold HasB at this
    rw [e,Nat.zero_testBit] at this
    cases this
theorem Run.kept {rs:List RD} {m x:Nat} {s:US} (hx:x < 2 ^ m) (R:Run rs ⟨x,beginBs m x,[]⟩ s) {b:Nat} (hb:b∈s.bs):KeptS m rs b:=by
  obtain ⟨g,un⟩:=R.good (m:=m) (Good.begin hx)
  exact ⟨g.pos b hb,g.lt hb,fun r hr=>uses_nil un hr hb⟩
theorem Run.holds {rs:List RD} {m x d:Nat} {s:US} (hx:x < 2 ^ m) (R:Run rs ⟨x,beginBs m x,[]⟩ s) (hd:KeptS m rs d) (ha:∀k,HasB d k→¬HasB x k):∃b∈s.bs,SubN d b:=by
  have h0:=hd.1
  refine R.keep (by omega) hd.2.2 (begin_sub hx hd.2.1 (by omega) ?_)
  by_cases z:d&&&x=0
  · exact z
  · obtain ⟨k,a,b⟩:=and_ne.mp z
    exact absurd b (ha k a)
end L2
namespace L2
section
variable {m:Nat} {rs:List RD} {x y z v:Nat}
end
open PySem PySem.Spec PyProof.Rows
end L2
namespace L2
def Apart (x d:Nat):Prop:=∀k,HasB d k→¬HasB x k
theorem apart_of {x b:Nat} (h:x&&&b=0):Apart x b:=fun k h1 h2=>by
  have:=dis_iff.mp h k h2
  unfold HasB at h1
  rw [this] at h1; cases h1
structure Blocks (m:Nat) (rs:List RD) (x fx:Nat) (bs:List Nat):Prop where
  good:Good m fx bs
  kept:∀b∈bs,KeptS m rs b
  apart:∀b∈bs,Apart x b
  holds:∀d,KeptS m rs d→Apart x d→∃b∈bs,SubN d b
theorem Run.blocks {rs:List RD} {m x:Nat} {s:US} (hx:x < 2 ^ m) (R:Run rs ⟨x,beginBs m x,[]⟩ s):Blocks m rs x s.fx s.bs:=
  ⟨(R.good (m:=m) (Good.begin hx)).1,fun b hb=>R.kept hx hb,fun b hb=>apart_of (R.apart0 hx hb),fun d hd ha=>R.holds hx hd ha⟩
theorem Blocks.fix {m x fx:Nat} {rs:List RD} {bs:List Nat} (B:Blocks m rs x fx bs) {k:Nat}:HasB fx k↔k < m∧∀d,KeptS m rs d→Apart x d→¬HasB d k:=by
  unfold HasB
  rw [B.good.col]
  constructor
  · rintro ⟨h1,h2⟩
    refine ⟨h1,fun d hd ha hk=>?_⟩
    obtain ⟨b,hb,hs⟩:=B.holds d hd ha
    have:=hs k hk
    rw [h2 b hb] at this; cases this
  · rintro ⟨h1,h2⟩
    refine ⟨h1,fun b hb=>?_⟩
    cases e:b.testBit k with
    | false=>rfl
    | true=>exact absurd e (h2 b (B.kept b hb) (B.apart b hb))
end L2
namespace L2
open PySem PySem.Spec PyProof.Rows
end L2
namespace L2
open PySem PySem.Spec PyProof.Rows
theorem cols_has:∀a,a < 128→∀k,k < 8→(k∈colsN a↔a.testBit k=true):=by decide +kernel
theorem cols_mem {a:Nat} (ha:a < 128) (k:Nat):k∈colsN a↔HasB a k:=by
  by_cases hk:k < 8
  · exact cols_has a ha k hk
  · constructor
    · intro h
      have h1:=List.mem_range.mp (List.mem_filter.mp h).1
      have h2:bitsN a≤7:=by
        unfold bitsN Builtin.Int.intBits
        split
        · omega
        · rename_i z
          have h0:a≠0:=by intro e; subst e; exact z rfl
          have:a.log2 < 7:=(Nat.log2_lt h0).mpr ha
          show (a:Int).natAbs.log2 + 1≤7
          rw [Int.natAbs_natCast]
          omega
      omega
    · intro h
      have:=hasb_lt (m:=7) ha h
      omega
end L2
namespace L2
open PySem PySem.Spec PyProof.Rows
end L2
namespace L2
open PySem PySem.Spec PyProof.Rows
section
variable {prog:Program} {w:World} {A:Around} {E:Value→Shared→Prop} {s:Shared} {a₀:Array Keyed} {κ:KeyKind}
end
section
variable {X:Cx} {K:PySem.W.Frag}
end
end L2
namespace L2
open PySem PySem.Spec PyProof.Rows
section
variable {X:Cx} {K:PySem.W.Frag}
end
end L2
namespace L2
open PySem PySem.Spec PyProof.Rows
end L2
namespace L2
open PySem PySem.Spec PyProof.Rows
end L2
namespace L2
open PySem PySem.Spec PyProof.Rows
section
variable {X:Cx} {pins:List (Addr × Obj)} {σ:St} {H:Hp} {s:Shared}
end
end L2
namespace L2
open PySem PySem.Spec PyProof.Rows
end L2
namespace L2
open PySem PySem.Spec PyProof.Rows
end L2
namespace L2
open PySem PySem.Spec PyProof.Rows
theorem lc_enumS {K:PySem.W.Frag} {a:Addr} {xs:List V} {n k:Nat} {g:TG} {tc:TT} {te:TE} {σ:St} {H:Hp} {F:List V→Hp→Prop} (Pv:Nat→List V→Hp→Prop) (hn:xs.length≤1000000) (h0:Pv 0 [] H)
    (hl:∀i acc H,i≤xs.length→Pv i acc H→SqL K H a xs∧acc.length≤i)
    (hs:∀i x acc H t,xs[i]? = some x→Pv i acc H→H t=none→g (.ref t) (List.replicate n none++σ) (upd H t (.tup [vN (i + k),x])) fun σ2 H2=>σ2.drop n=σ∧tc σ2 H2 fun c H3=>if c=true then te σ2 H3 fun y H4=>Pv (i + 1) (acc++[y]) H4 else Pv (i + 1) acc H3)
    (hd:∀acc H,Pv xs.length acc H→F acc H):LCW n (ItS K a k) g tc te σ H F:=by
  have sz:(1000000:Nat) < sizeLine:=by rw [sizeLine_eq]; decide
  refine ⟨fun i m acc H=>m=xs.length - i∧i≤xs.length∧Pv i acc H,⟨xs.length,by simp,Nat.zero_le _,h0⟩,?_⟩
  rintro i m acc H ⟨rfl,hi,p⟩
  have q:=hl i acc H hi p
  by_cases hlt:i < xs.length
  · refine .inr ⟨⟨xs,xs[i],q.1,by simp [hlt]⟩,by omega,Pv (i + 1),fun acc' H' p'=>⟨xs.length - (i + 1),by omega,rfl,hlt,p'⟩,fun x H' y=>?_⟩
    obtain ⟨t,z,rfl,nt,y,rfl⟩:=y
    exact hs i z acc _ t (y xs q.1) p nt
  · have e:i=xs.length:=by omega
    subst e
    exact .inl ⟨⟨xs,q.1,rfl⟩,by omega,hd acc H p⟩
section
variable {X:Cx} {K:PySem.W.Frag}
def rCatA (K:PySem.W.Frag):R2:=fun x y H Q=>∃a b xs ys,x = .ref a∧y = .ref b∧SqT K H a xs∧SqT K H b ys∧xs.length + ys.length≤sizeLine∧(xs=[]→Q (.ref b) H)∧(xs≠[]→ys=[]→Q (.ref a) H)∧(xs≠[]→ys≠[]→∀p,H p=none→Q (.ref p) (upd H p (.tup (xs++ys))))
theorem op_catA (hK:X.K=K):OpR X (binaryOp .Add) (rCatA K):=by
  subst hK
  intro pins s σ H x y v u Q I rx ry h
  obtain ⟨a,b,xs,ys,rfl,rfl,ha,hb,hz,q0,q1,q2⟩:=h
  by_cases hx:xs=[]
  · cases rx
    cases ry
    obtain ⟨its,r1,p1,_⟩:=I.tuple ha
    obtain ⟨its2,r2,p2,_⟩:=I.tuple hb
    obtain ⟨⟨cls,dd,data,sl⟩,ho,hc,n,hd⟩:=id p1
    obtain ⟨⟨cls2,dd2,data2,sl2⟩,ho2,hc2,n2,hd2⟩:=id p2
    simp only at hc hd hc2 hd2
    subst hc hd hc2 hd2
    exact concat_meets ⟨_,ho,rfl⟩ ⟨_,ho2,rfl⟩ noFill_tuple_add seq_tuple_add PySem.F.slot_tuple_add PySem.F.entry_tuple_add (PySem.F.args_tuple_add_2 _ _)
      (tuple_addW0 a b its.toArray its2.toArray n n2 dd dd2 sl sl2 (by rw [r1.nil_iff.mpr hx]; rfl)) ⟨ho,ho2,⟨.ref b,H,I,rfl,q0 hx⟩⟩
  · exact op_catT pins s σ H _ _ v u Q I rx ry ⟨a,b,xs,ys,rfl,rfl,ha,hb,hx,hz,q1 hx,q2 hx⟩
theorem call_maxN (hc:X.calm=true):CallR X (.builtin "max") (fun xs H Q=>∃i j:Int,xs=[.int i,.int j]∧Q (.int (max i j)) H):=fun pins s σ H xs us Q I r h=>call_max2 hc pins s σ H xs us Q I r (by
  obtain ⟨i,j,rfl,q⟩:=h
  refine ⟨i,j,rfl,?_⟩
  have e:(if j > i then j else i)=max i j:=by omega
  rw [e]; exact q)
theorem call_minI (hc:X.calm=true):CallR X (.builtin "min") (fun xs H Q=>∃i j:Int,xs=[.int i,.int j]∧Q (.int (min i j)) H):=fun pins s σ H xs us Q I r h=>call_min2 hc pins s σ H xs us Q I r (by
  obtain ⟨i,j,rfl,q⟩:=h
  refine ⟨i,j,rfl,?_⟩
  have e:(if j < i then j else i)=min i j:=by omega
  rw [e]; exact q)
end
end L2
namespace L2
open PySem PySem.Spec PyProof.Rows
section
variable {K:PySem.W.Frag} {H H1 H2:Hp} {st g p:Addr} {ns:List Int} {m k k':Nat} {rs rs':List Rl} {o:HO} {ys:List V}
end
theorem bits_eq {a b:Nat} (h:∀k,HasB a k↔HasB b k):a=b:=Nat.eq_of_testBit_eq fun k=>by
  rw [Bool.eq_iff_iff]; exact h k
theorem hasb_all {m:Nat} (k:Nat):HasB (2 ^ m - 1) k↔k < m:=by
  have h0:(0:Nat) < 2 ^ m:=Nat.two_pow_pos m
  have h:=hasb_full h0 k
  rw [Nat.sub_zero] at h
  rw [h]
  exact ⟨fun z=>z.1,fun z=>⟨z,fun w=>by unfold HasB at w; rw [Nat.zero_testBit] at w; cases w⟩⟩
def tornB (x y b:Nat):Bool:=!decide (b&&&x=b) && !decide (b&&&y=b)
def CutV (H:Hp) (x y:Nat) (s:US) (t:Addr):Prop:=
  (∃b,s.bs.find? (tornB x y)=some b∧H t=some (.tup [.str "unsafe",vN b]))∨
  (s.bs.find? (tornB x y)=none∧∃(q:Addr) (sw:List SW),H q=some (.lst (sw.map fun w=>V.ref w.1))∧StepsAt H sw∧sw.map (·.2)=s.st∧sw.length≤300∧H t=some (.tup [.str "safe",.ref q]))
def spTorn (K:PySem.W.Frag):Sp:=fun vs H Q _=>∃(l:Addr) (x y:Nat) (bs:List Nat),vs=[.ref l,vN x,vN y]∧SqL K H l (bs.map vN)∧
  (bs.find? (tornB x y)=none→Q .non H)∧∀b,bs.find? (tornB x y)=some b→Q (vN b) H
def spCut (K:PySem.W.Frag) (a:Nat→V):Sp:=fun vs H Q _=>∃(m x y:Nat) (rl:Addr) (rs:List Rl),vs=[a m,.ref rl,vN x,vN y]∧m≤7∧x < 2 ^ m∧y < 2 ^ m∧x|||y=2 ^ m - 1∧SqL K H rl (rs.map fun r=>V.ref r.r)∧RulesAt H m rs∧rs.length≤200∧
  ∀(s:US) (t:Addr) (H':Hp),Run (rs.map Rl.d) ⟨x&&&y,beginBs m (x&&&y),[]⟩ s→Same H H'→CutV H' x y s t→(∀q,H' t=some (.tup [.str "safe",.ref q])→H q=none)→Q (.ref t) H'
end L2
namespace L2
open PySem PySem.Spec PyProof.Rows
abbrev Tbl:=List (List Int)
structure TB (H:Hp) (m:Nat) (ts:List Addr) (T:Tbl):Prop where
  len:ts.length=T.length
  at_:∀(i:Nat) (t:Addr) (r:List Int),ts[i]? = some t→T[i]? = some r→H t=some (.tup (r.map V.int))
  rl:∀r∈T,r.length=m
theorem TB.same {H H':Hp} {m:Nat} {ts:List Addr} {T:Tbl} (h:TB H m ts T) (e:Same H H'):TB H' m ts T:=⟨h.len,fun i t r h1 h2=>e _ _ (h.at_ i t r h1 h2),h.rl⟩
theorem TB.get {H:Hp} {m i:Nat} {ts:List Addr} {T:Tbl} {t:Addr} (h:TB H m ts T) (e:ts[i]? = some t):∃r,T[i]? = some r∧H t=some (.tup (r.map V.int))∧r.length=m:=by
  have hi:i < T.length:=by rw [←h.len]; exact (List.getElem?_eq_some_iff.mp e).1
  exact ⟨T[i],List.getElem?_eq_getElem hi,h.at_ i t _ e (List.getElem?_eq_getElem hi),h.rl _ (List.getElem_mem hi)⟩
theorem TB.nil (H:Hp) (m:Nat):TB H m [] []:=⟨rfl,(fun i a r h=>by cases h),fun r h=>absurd h List.not_mem_nil⟩
theorem TB.snoc {H:Hp} {m:Nat} {ts:List Addr} {T:Tbl} {t:Addr} {r:List Int} (h:TB H m ts T) (ht:H t=some (.tup (r.map V.int))) (hr:r.length=m):TB H m (ts++[t]) (T++[r]):=by
  refine ⟨by rw [List.length_append,List.length_append,h.len]; rfl,fun i b r' h1 h2=>?_,fun r' hr'=>?_⟩
  · by_cases z:i < ts.length
    · rw [List.getElem?_append_left z] at h1
      rw [List.getElem?_append_left (by rw [←h.len]; exact z)] at h2
      exact h.at_ i b r' h1 h2
    · have hi:i < (ts++[t]).length:=(List.getElem?_eq_some_iff.mp h1).1
      rw [List.length_append,List.length_singleton] at hi
      have ei:i=ts.length:=by omega
      rw [ei,List.getElem?_append_right (Nat.le_refl _),Nat.sub_self] at h1
      rw [ei,h.len,List.getElem?_append_right (Nat.le_refl _),Nat.sub_self] at h2
      rw [←Option.some.inj h1,←Option.some.inj h2]
      exact ht
  · rcases List.mem_append.mp hr' with hr' | hr'
    · exact h.rl r' hr'
    · rw [List.mem_singleton.mp hr']; exact hr
def unlN (r1 r2:List Int) (s:Nat):Option Nat:=(colsN s).find? fun c=>!decide (r1.getD c 0=r2.getD c 0)
def rowT (T:Tbl) (i:Nat):List Int:=T.getD i []
theorem rowT_of {T:Tbl} {i:Nat} {r:List Int} (h:T[i]? = some r):rowT T i=r:=by unfold rowT; rw [List.getD_eq_getElem?_getD,h]; rfl
def tryP (T:Tbl) (x y i j:Nat):Option (Nat × Nat × Nat):=if alikeL (rowT T i) (rowT T j) x=true then (unlN (rowT T i) (rowT T j) y).map fun c=>(i,j,c) else none
def inP (T:Tbl) (x y i:Nat):Option (Nat × Nat × Nat):=(List.range' (i + 1) (T.length - (i + 1))).findSome? (tryP T x y i)
def firstP (T:Tbl) (x y:Nat):Option (Nat × Nat × Nat):=(List.range T.length).findSome? (inP T x y)
def tryS (T:Tbl) (rs:List RD) (k:Nat):Option (Nat × Nat × Nat × Nat):=match rs[k]? with
  | some (true,x,y)=>(firstP T x y).map fun p=>(k,p)
  | _=>none
def firstS (T:Tbl) (rs:List RD):Option (Nat × Nat × Nat × Nat):=(List.range rs.length).findSome? (tryS T rs)
theorem some_hit {α β:Type} {f:α→Option β} {l:List α} {i:Nat} {a:α} {b:β} (h0:(l.take i).findSome? f=none) (e:l[i]? = some a) (h:f a=some b):l.findSome? f=some b:=by
  have hs:l=l.take i++a :: l.drop (i + 1):=by
    have hi:=(List.getElem?_eq_some_iff.mp e).1
    have e2:=(List.getElem?_eq_some_iff.mp e).2
    rw [←e2,←List.drop_eq_getElem_cons hi,List.take_append_drop]
  rw [hs,List.findSome?_append,h0,List.findSome?_cons,h]; rfl
theorem some_miss {α β:Type} {f:α→Option β} {l:List α} {i:Nat} {a:α} (h0:(l.take i).findSome? f=none) (e:l[i]? = some a) (h:f a=none):(l.take (i + 1)).findSome? f=none:=by
  rw [List.take_succ,e,List.findSome?_append,h0]
  simp [h]
theorem range'_get {s n i:Nat} (h:i < n):(List.range' s n)[i]? = some (s + i):=by
  rw [List.getElem?_range' h,Nat.one_mul]
def spUnlike (K:PySem.W.Frag):Sp:=fun vs H Q _=>∃(a b:Addr) (r1 r2:List Int) (s m:Nat),vs=[.ref a,.ref b,vN s]∧H a=some (.tup (r1.map V.int))∧H b=some (.tup (r2.map V.int))∧r1.length=m∧r2.length=m∧m≤7∧s < 2 ^ m∧
  (∀H',Same H H'→unlN r1 r2 s=none→Q .non H')∧∀c H',Same H H'→unlN r1 r2 s=some c→Q (vN c) H'
def spFirstPlace (K:PySem.W.Frag):Sp:=fun vs H Q _=>∃(tl r:Addr) (ts:List Addr) (T:Tbl) (m x y:Nat) (st:Bool),vs=[.ref tl,.ref r]∧SqL K H tl (ts.map V.ref)∧TB H m ts T∧m≤7∧T.length≤20∧RuleAt H r st x y∧x < 2 ^ m∧y < 2 ^ m∧
  (∀H',Same H H'→firstP T x y=none→Q .non H')∧∀(p:Nat × Nat × Nat) (t:Addr) (H':Hp),Same H H'→firstP T x y=some p→H t=none→H' t=some (.tup [vN p.1,vN p.2.1,vN p.2.2])→Q (.ref t) H'
def spFirstStep (K:PySem.W.Frag):Sp:=fun vs H Q _=>∃(rl tl:Addr) (rs:List Rl) (ts:List Addr) (T:Tbl) (m:Nat),vs=[.ref rl,.ref tl]∧SqL K H rl (rs.map fun r=>V.ref r.r)∧RulesAt H m rs∧rs.length≤200∧SqL K H tl (ts.map V.ref)∧TB H m ts T∧m≤7∧T.length≤20∧
  (∀H',Same H H'→firstS T (rs.map Rl.d)=none→Q .non H')∧∀(p:Nat × Nat × Nat × Nat) (t:Addr) (H':Hp),Same H H'→firstS T (rs.map Rl.d)=some p→H t=none→H' t=some (.tup [vN p.1,vN p.2.1,vN p.2.2.1,vN p.2.2.2])→Q (.ref t) H'
end L2
namespace L2
open PySem PySem.Spec PyProof.Rows
theorem for_rangeF {a n:Nat} {g:TG} {tb:TS} {D:Ends} {σ:St} {H:Hp} (Pv:Nat→St→Hp→Prop) (h0:Pv 0 σ H)
    (hs:∀i σ H,i < n→Pv i σ H→g (vN (a + i)) σ H fun σ2 H2=>tb { D with nx:=Pv (i + 1),ct:=Pv (i + 1),bk:=D.nx } σ2 H2) (hd:∀σ H,Pv n σ H→D.nx σ H) :
    ∃W:Nat→Nat→St→Hp→Prop,(∃m,W 0 m σ H)∧∀i m σ H,W i m σ H→
      ((Itr (a:Int) n).stop i H∧D.nx σ H)∨((Itr (a:Int) n).go i H∧∃N:St→Hp→Prop,(∀σ' H',N σ' H'→∃m',m' < m∧W (i + 1) m' σ' H')∧∀x H',(Itr (a:Int) n).yld i H x H'→g x σ H' fun σ2 H2=>tb { D with nx:=N,ct:=N,bk:=D.nx } σ2 H2):=
  for_range (lo:=(a:Int)) Pv h0 (fun i σ H hi p=>by
    have e:(a:Int) + (i:Int)=((a + i:Nat):Int):=by omega
    rw [e]; exact hs i σ H hi p) hd
theorem range_get2 {n i:Nat} (h:i < n):(List.range n)[i]? = some i:=by rw [List.getElem?_eq_getElem (by rw [List.length_range]; exact h),List.getElem_range]
def spWithN (K:PySem.W.Frag):Sp:=fun vs H Q _=>∃(a:Addr) (r:List Int) (c:Nat) (v:Int),vs=[.ref a,vN c,.int v]∧H a=some (.tup (r.map V.int))∧c < r.length∧r.length≤7∧∀(t:Addr) (H':Hp),Same H H'→H' t=some (.tup ((r.set c v).map V.int))→Q (.ref t) H'
theorem small7 {n:Nat} (h:n≤20):n≤sizeLine:=Nat.le_of_lt (small1000 (by omega))
def evenRow (c:Nat) (a b:Int) (r:List Int):List Int:=if r.getD c 0=max a b then r.set c (min a b) else r
def spMade (K:PySem.W.Frag):Sp:=fun vs H Q _=>∃(tl:Addr) (ts:List Addr) (T:Tbl) (m i j c:Nat) (ri rj:List Int),vs=[.ref tl,vN i,vN j,vN c]∧SqL K H tl (ts.map V.ref)∧TB H m ts T∧m≤7∧T.length≤20∧T[i]? = some ri∧T[j]? = some rj∧c < m∧
  ∀(tl':Addr) (ts':List Addr) (H':Hp),Same H H'→H tl' = none→H' tl' = some (.lst (ts'.map V.ref))→TB H' m ts' (T.map (evenRow c (ri.getD c 0) (rj.getD c 0)))→Q (.ref tl') H'
theorem to_nat {n a:Nat}:((n:Int) - (a:Int)).toNat=n - a:=by omega
end L2
namespace L2
open PySem PySem.Spec PyProof.Rows
abbrev Stp:=Nat × Nat × Nat × Nat
def begRow (m i p:Nat):List Int:=mixL (List.replicate m 0) (List.replicate m ((i + 1:Nat):Int)) p
def begK (m:Nat) (ps:List Nat) (k:Nat):Tbl:=(List.range k).map fun i=>begRow m i (ps.getD i 0)
def begT (m:Nat) (ps:List Nat):Tbl:=begK m ps ps.length
theorem begRow_len (m i p:Nat):(begRow m i p).length=m:=by
  unfold begRow mixL
  rw [List.length_map,List.length_range,List.length_replicate]
theorem begRow_get {m i p k:Nat} (hk:k < m):(begRow m i p).getD k 0=if hasB p k=true then 0 else ((i + 1:Nat):Int):=by
  unfold begRow mixL
  rw [List.getD_eq_getElem?_getD,List.getElem?_map,List.length_replicate,range_get2 hk]
  show (if hasB p k=true then (List.replicate m (0:Int)).getD k 0 else (List.replicate m ((i + 1:Nat):Int)).getD k 0)=_
  have h1:(List.replicate m (0:Int)).getD k 0=0:=by rw [List.getD_eq_getElem?_getD,List.getElem?_replicate,if_pos hk]; rfl
  have h2:(List.replicate m ((i + 1:Nat):Int)).getD k 0=((i + 1:Nat):Int):=by rw [List.getD_eq_getElem?_getD,List.getElem?_replicate,if_pos hk]; rfl
  rw [h1,h2]
def rsum (r:List Int):Nat:=(r.map Int.toNat).sum
def tsum (T:Tbl):Nat:=(T.map rsum).sum
def stepT (T:Tbl) (p:Stp):Tbl:=T.map (evenRow p.2.2.2 ((rowT T p.2.1).getD p.2.2.2 0) ((rowT T p.2.2.1).getD p.2.2.2 0))
def runT (rs:List RD):Nat→Tbl→Tbl × List Stp
  | 0,T=>(T,[])
  | n + 1,T=>match firstS T rs with
    | none=>(T,[])
    | some p=>((runT rs n (stepT T p)).1,p :: (runT rs n (stepT T p)).2)
structure StepP (T:Tbl) (rs:List RD) (p:Stp) (ri rj:List Int) (x y:Nat):Prop where
  rule:rs[p.1]? = some (true,x,y)
  ei:T[p.2.1]? = some ri
  ej:T[p.2.2.1]? = some rj
  lt:p.2.1 < p.2.2.1
  al:alikeL ri rj x=true
  un:unlN ri rj y=some p.2.2.2
theorem findSome_mem {α β:Type} {f:α→Option β}:∀{l:List α} {b:β},l.findSome? f=some b→∃a∈l,f a=some b
  | a :: l,b,h=>by
    rw [List.findSome?_cons] at h
    cases e:f a with
    | some c=>
      rw [e] at h
      exact ⟨a,List.mem_cons_self ..,by rw [e]; exact h⟩
    | none=>
      rw [e] at h
      obtain ⟨a',h1,h2⟩:=findSome_mem h
      exact ⟨a',List.mem_cons_of_mem _ h1,h2⟩
theorem firstS_some {T:Tbl} {rs:List RD} {p:Stp} (h:firstS T rs=some p):∃ri rj x y,StepP T rs p ri rj x y:=by
  obtain ⟨k,hk,h1⟩:=findSome_mem h
  unfold tryS at h1
  split at h1
  · rename_i x y hr
    rw [Option.map_eq_some_iff] at h1
    obtain ⟨q,hq,rfl⟩:=h1
    obtain ⟨i,hi,h2⟩:=findSome_mem hq
    obtain ⟨j,hj,h3⟩:=findSome_mem h2
    unfold tryP at h3
    split at h3
    · rename_i hal
      rw [Option.map_eq_some_iff] at h3
      obtain ⟨c,hc,rfl⟩:=h3
      have hi':=List.mem_range.mp hi
      obtain ⟨t,ht,ej⟩:=List.mem_range'.mp hj
      have hj':j < T.length:=by omega
      have e1:T[i]? = some T[i]:=List.getElem?_eq_getElem hi'
      have e2:T[j]? = some T[j]:=List.getElem?_eq_getElem hj'
      rw [rowT_of e1,rowT_of e2] at hal hc
      exact ⟨T[i],T[j],x,y,hr,e1,e2,by show i < j; omega,hal,hc⟩
    · cases h3
  · cases h1
theorem unlN_some {r1 r2:List Int} {s c m:Nat} (hs:s < 2 ^ m) (m7:m≤7) (h:unlN r1 r2 s=some c):c < m∧r1.getD c 0≠r2.getD c 0:=by
  have p7:=pow7 m7
  have h1:=List.mem_of_find?_eq_some h
  have h2:=List.find?_some h
  refine ⟨hasb_lt hs ((cols_mem (by omega) c).mp h1),fun z=>?_⟩
  rw [decide_eq_true z] at h2
  cases h2
theorem rsum_set:∀(r:List Int) (c:Nat) (v:Int),c < r.length→rsum (r.set c v) + (r.getD c 0).toNat=rsum r + v.toNat
  | x :: r,0,v,_=>by
    show ((v :: r).map Int.toNat).sum + _=((x :: r).map Int.toNat).sum + _
    rw [List.map_cons,List.map_cons,List.sum_cons,List.sum_cons]
    show v.toNat + _ + x.toNat=x.toNat + _ + v.toNat
    omega
  | x :: r,c + 1,v,h=>by
    have:=rsum_set r c v (by simpa using h)
    show ((x :: r.set c v).map Int.toNat).sum + (r.getD c 0).toNat=((x :: r).map Int.toNat).sum + _
    rw [List.map_cons,List.map_cons,List.sum_cons,List.sum_cons]
    have e1:((r.set c v).map Int.toNat).sum=rsum (r.set c v):=rfl
    have e2:(r.map Int.toNat).sum=rsum r:=rfl
    rw [e1,e2]
    omega
def NonN (T:Tbl):Prop:=∀r∈T,∀v∈r,(0:Int)≤v
theorem evenRow_len (c:Nat) (a b:Int) (r:List Int):(evenRow c a b r).length=r.length:=by
  unfold evenRow
  split
  · rw [List.length_set]
  · rfl
theorem evenRow_sum {c:Nat} {a b:Int} {r:List Int} (hc:c < r.length) (h:a≠b) (ha:0≤a) (hb:0≤b):rsum (evenRow c a b r)≤rsum r∧(r.getD c 0=max a b→rsum (evenRow c a b r) < rsum r):=by
  unfold evenRow
  split
  · rename_i e
    have:=rsum_set r c (min a b) hc
    rw [e] at this
    exact ⟨by omega,fun _=>by omega⟩
  · rename_i e
    exact ⟨Nat.le_refl _,fun z=>absurd z e⟩
theorem even_tsum {m c:Nat} {a b:Int} (hc:c < m) (h:a≠b) (ha:0≤a) (hb:0≤b):∀{T:Tbl},(∀r∈T,r.length=m)→tsum (T.map (evenRow c a b))≤tsum T∧((∃r∈T,r.getD c 0=max a b)→tsum (T.map (evenRow c a b)) < tsum T)
  | [],_=>⟨Nat.le_refl _,fun ⟨_,h,_⟩=>absurd h List.not_mem_nil⟩
  | r :: T,hl=>by
    obtain ⟨i1,i2⟩:=even_tsum hc h ha hb (T:=T) fun r' hr=>hl r' (List.mem_cons_of_mem _ hr)
    obtain ⟨e1,e2⟩:=evenRow_sum (r:=r) (by rw [hl r (List.mem_cons_self ..)]; exact hc) h ha hb
    have e:∀C:Tbl,∀x,tsum (x :: C)=rsum x + tsum C:=fun C x=>by unfold tsum; rw [List.map_cons,List.sum_cons]
    rw [List.map_cons,e,e]
    refine ⟨by omega,?_⟩
    rintro ⟨r',hr',er⟩
    rcases List.mem_cons.mp hr' with rfl | hr'
    · have:=e2 er; omega
    · have:=i2 ⟨r',hr',er⟩; omega
theorem evenRow_nonneg {c:Nat} {a b:Int} {r:List Int} (ha:0≤a) (hb:0≤b) (h:∀v∈r,(0:Int)≤v):∀v∈evenRow c a b r,(0:Int)≤v:=fun v hv=>by
  unfold evenRow at hv
  split at hv
  · rcases List.mem_or_eq_of_mem_set hv with hv | rfl
    · exact h v hv
    · omega
  · exact h v hv
def Rules (m:Nat) (rs:List RD):Prop:=∀r∈rs,r.2.1 < 2 ^ m∧r.2.2 < 2 ^ m
structure TAt (m:Nat) (rs:List RD) (T0:Tbl) (ss:List Stp) (T:Tbl) (n:Nat):Prop where
  nn:NonN T
  rl:∀r∈T,r.length=m
  ln:T.length=T0.length
  fuel:tsum T≤n
  eT:(runT rs n T).1=(runT rs 1000 T0).1
  eS:ss++(runT rs n T).2=(runT rs 1000 T0).2
  len:ss.length + n≤1000
theorem getD_mem {r:List Int} {c:Nat} (h:c < r.length):r.getD c 0∈r:=by
  rw [List.getD_eq_getElem?_getD,List.getElem?_eq_getElem h]; exact List.getElem_mem h
theorem TAt.next {m n:Nat} {rs:List RD} {T0 T:Tbl} {ss:List Stp} {p:Stp} (m7:m≤7) (hrs:Rules m rs) (A:TAt m rs T0 ss T n) (h:firstS T rs=some p) :
    (∃ri rj,T[p.2.1]? = some ri∧T[p.2.2.1]? = some rj∧p.2.2.2 < m∧stepT T p=T.map (evenRow p.2.2.2 (ri.getD p.2.2.2 0) (rj.getD p.2.2.2 0)))∧∃n',n=n' + 1∧TAt m rs T0 (ss++[p]) (stepT T p) n':=by
  obtain ⟨ri,rj,x,y,S⟩:=firstS_some h
  obtain ⟨hc,hne⟩:=unlN_some (hrs _ (List.mem_of_getElem? S.rule)).2 m7 S.un
  have hri:=List.mem_of_getElem? S.ei
  have hrj:=List.mem_of_getElem? S.ej
  have li:=A.rl ri hri
  have lj:=A.rl rj hrj
  have ha:=A.nn ri hri _ (getD_mem (c:=p.2.2.2) (by omega))
  have hb:=A.nn rj hrj _ (getD_mem (c:=p.2.2.2) (by omega))
  have es:stepT T p=T.map (evenRow p.2.2.2 (ri.getD p.2.2.2 0) (rj.getD p.2.2.2 0)):=by unfold stepT; rw [rowT_of S.ei,rowT_of S.ej]
  refine ⟨⟨ri,rj,S.ei,S.ej,hc,es⟩,?_⟩
  have dec:tsum (stepT T p) < tsum T:=by
    rw [es]
    refine (even_tsum hc hne ha hb A.rl).2 ?_
    by_cases z:ri.getD p.2.2.2 0 < rj.getD p.2.2.2 0
    · exact ⟨rj,hrj,by omega⟩
    · exact ⟨ri,hri,by omega⟩
  have hf:=A.fuel
  cases n with
  | zero=>omega
  | succ n=>
    have e1:=A.eT
    have e2:=A.eS
    unfold runT at e1 e2
    rw [h] at e1 e2
    have hl:=A.len
    refine ⟨n,rfl,?_,?_,?_,by omega,e1,by rw [List.append_assoc]; exact e2,by rw [List.length_append]; show ss.length + 1 + n≤1000; omega⟩
    · rw [es]
      intro r hr
      obtain ⟨r0,h0,rfl⟩:=List.mem_map.mp hr
      exact evenRow_nonneg ha hb (A.nn r0 h0)
    · rw [es]
      intro r hr
      obtain ⟨r0,h0,rfl⟩:=List.mem_map.mp hr
      rw [evenRow_len]; exact A.rl r0 h0
    · rw [es,List.length_map]; exact A.ln
theorem TAt.done {m n:Nat} {rs:List RD} {T0 T:Tbl} {ss:List Stp} (A:TAt m rs T0 ss T n) (h:firstS T rs=none):T=(runT rs 1000 T0).1∧ss=(runT rs 1000 T0).2:=by
  have e1:=A.eT
  have e2:=A.eS
  cases n with
  | zero=>
    unfold runT at e1 e2
    rw [List.append_nil] at e2
    exact ⟨e1,e2⟩
  | succ n=>
    unfold runT at e1 e2
    rw [h] at e1 e2
    rw [List.append_nil] at e2
    exact ⟨e1,e2⟩
abbrev SW4:=Addr × Stp
def Steps4 (H:Hp) (sw:List SW4):Prop:=∀w∈sw,H w.1=some (.tup [vN w.2.1,vN w.2.2.1,vN w.2.2.2.1,vN w.2.2.2.2])
theorem Steps4.same {H H':Hp} {sw:List SW4} (h:Steps4 H sw) (e:Same H H'):Steps4 H' sw:=fun w hw=>e _ _ (h w hw)
theorem Steps4.put {H:Hp} {sw:List SW4} {q:Addr} {xs ys:List V} (h:Steps4 H sw) (hq:H q=some (.lst xs)):Steps4 (upd H q (.lst ys)) sw:=fun w hw=>by
  rw [upd_ne (ne_of (h w hw) hq (by intro z; cases z))]; exact h w hw
theorem Steps4.snoc {H:Hp} {sw:List SW4} {w:SW4} (h:Steps4 H sw) (hw:H w.1=some (.tup [vN w.2.1,vN w.2.2.1,vN w.2.2.2.1,vN w.2.2.2.2])):Steps4 H (sw++[w]):=fun v hv=>by
  rcases List.mem_append.mp hv with hv | hv
  · exact h v hv
  · rw [List.mem_singleton.mp hv]; exact hw
theorem TB.putL {H:Hp} {m:Nat} {ts:List Addr} {T:Tbl} {q:Addr} {xs ys:List V} (h:TB H m ts T) (hq:H q=some (.lst xs)):TB (upd H q (.lst ys)) m ts T:=
  ⟨h.len,fun i t r h1 h2=>by
    have:=h.at_ i t r h1 h2
    rw [upd_ne (ne_of this hq (by intro z; cases z))]; exact this,h.rl⟩
def spCheck (K:PySem.W.Frag):Sp:=fun vs H Q _=>∃(m:Nat) (pl:Addr) (ps:List Nat),vs=[vN m,.ref pl]∧m≤7∧SqL K H pl (ps.map vN)∧ps.length≤10∧ps.foldl (·|||·) 0=2 ^ m - 1∧∀H',Same H H'→Q .non H'
def spBegunT (K:PySem.W.Frag):Sp:=fun vs H Q _=>∃(m:Nat) (pl:Addr) (ps:List Nat),vs=[vN m,.ref pl]∧1≤m∧m≤7∧SqL K H pl (ps.map vN)∧ps.length≤10∧∀(tl:Addr) (ts:List Addr) (H':Hp),Same H H'→H tl=none→H' tl=some (.lst (ts.map V.ref))→TB H' m ts (begT m ps)→Q (.ref tl) H'
def spFilled (K:PySem.W.Frag):Sp:=fun vs H Q _=>∃(m:Nat) (rl pl:Addr) (rs:List Rl) (ps:List Nat),vs=[vN m,.ref rl,.ref pl]∧1≤m∧m≤7∧SqL K H rl (rs.map fun r=>V.ref r.r)∧RulesAt H m rs∧rs.length≤200∧SqL K H pl (ps.map vN)∧ps.length≤10∧ps.foldl (·|||·) 0=2 ^ m - 1∧
  ∀(t tl sl:Addr) (ts:List Addr) (sw:List SW4) (H':Hp),Same H H'→H' t=some (.tup [.ref tl,.ref sl])→H tl=none→H' tl=some (.lst (ts.map V.ref))→TB H' m ts (runT (rs.map Rl.d) 1000 (begT m ps)).1→H sl=none→H' sl=some (.lst (sw.map fun w=>V.ref w.1))→Steps4 H' sw→sw.map (·.2)=(runT (rs.map Rl.d) 1000 (begT m ps)).2→sw.length≤1000→tl≠sl→Q (.ref t) H'
def FInv (H:Hp) (m:Nat) (rl pl:Addr) (rs:List Rl) (ps:List Nat) (n:Nat) (σ:St) (H':Hp):Prop:=
  ∃(T:Tbl) (ts:List Addr) (tl sl:Addr) (sw:List SW4) (v:V),σ=[some (vN m),some (.ref rl),some (.ref pl),some (.ref tl),some (.ref sl),some v]∧TAt m (rs.map Rl.d) (begT m ps) (sw.map (·.2)) T n∧Same H H'∧H tl=none∧H' tl=some (.lst (ts.map V.ref))∧TB H' m ts T∧H sl=none∧tl≠sl∧H' sl=some (.lst (sw.map fun w=>V.ref w.1))∧Steps4 H' sw∧
    ((firstS T (rs.map Rl.d)=none∧v = .non)∨∃p t,firstS T (rs.map Rl.d)=some p∧v = .ref t∧H' t=some (.tup [vN p.1,vN p.2.1,vN p.2.2.1,vN p.2.2.2]))
theorem sum_le {k:Nat}:∀{l:List Nat},(∀x∈l,x≤k)→l.sum≤k * l.length
  | [],_=>Nat.zero_le _
  | x :: l,h=>by
    have h1:=sum_le (l:=l) fun y hy=>h y (List.mem_cons_of_mem _ hy)
    have h2:=h x (List.mem_cons_self ..)
    rw [List.sum_cons,List.length_cons,Nat.mul_succ]
    omega
theorem beg_entry {m i p:Nat} {v:Int} (hv:v∈begRow m i p):v=0∨v=((i + 1:Nat):Int):=by
  obtain ⟨k,hk,e⟩:=List.getElem_of_mem hv
  have hk':k < m:=by rw [begRow_len] at hk; exact hk
  have h0:=begRow_get (m:=m) (i:=i) (p:=p) hk'
  rw [List.getD_eq_getElem?_getD,List.getElem?_eq_getElem hk,e] at h0
  have h1:v=if hasB p k=true then 0 else ((i + 1:Nat):Int):=h0
  split at h1
  · exact .inl h1
  · exact .inr h1
theorem begT_at {m:Nat} {rs:List RD} {ps:List Nat} (lp:ps.length≤10) (m7:m≤7):TAt m rs (begT m ps) [] (begT m ps) 1000:=by
  have nn:NonN (begT m ps):=fun r hr v hv=>by
    obtain ⟨i,_,rfl⟩:=List.mem_map.mp hr
    rcases beg_entry hv with h | h <;> omega
  refine ⟨nn,fun r hr=>?_,rfl,?_,rfl,rfl,Nat.le_refl _⟩
  · obtain ⟨i,_,rfl⟩:=List.mem_map.mp hr
    exact begRow_len ..
  · have h1:∀x∈(begT m ps).map rsum,x≤70:=fun x hx=>by
      obtain ⟨r,hr,rfl⟩:=List.mem_map.mp hx
      obtain ⟨i,hi,rfl⟩:=List.mem_map.mp hr
      have hi':=List.mem_range.mp hi
      have h2:∀y∈(begRow m i (ps.getD i 0)).map Int.toNat,y≤10:=fun y hy=>by
        obtain ⟨v,hv,rfl⟩:=List.mem_map.mp hy
        rcases beg_entry hv with h | h <;> omega
      have h3:=sum_le h2
      rw [List.length_map,begRow_len] at h3
      show ((begRow m i (ps.getD i 0)).map Int.toNat).sum≤70
      omega
    have h4:=sum_le h1
    have h5:((begT m ps).map rsum).length=ps.length:=by unfold begT begK; rw [List.length_map,List.length_map,List.length_range]
    rw [h5] at h4
    show ((begT m ps).map rsum).sum≤1000
    omega
end L2
namespace L2
open PySem PySem.Spec PyProof.Rows
section
variable {X:Cx} {K:PySem.W.Frag} {pins:List (Addr × Obj)} {σ:St} {H:Hp} {s:Shared}
theorem op_inTT (h:X.K=K) (hu:X.A.units + 64 < cLine):OpR X (compareOp .In) (fun x y H Q=>∃(t l:Addr) (ns:List Int) (rws:List RW),x = .ref t∧y = .ref l∧H t=some (.tup (ns.map V.int))∧SqL K H l (refsOf rws)∧(∀rw0∈rws,H rw0.1=some (.tup (rw0.2.map V.int)))∧
    ∀b:Bool,(b=true↔∃c∈rws,c.2=ns)→Q (.bl b) H):=by
  subst h
  intro pins s σ H x y v u Q I rx ry h
  obtain ⟨t,l,ns,rws,rfl,rfl,ht,hl,hr,q⟩:=h
  cases rx; cases ry
  obtain ⟨its,rv,pl,hz⟩:=I.list hl
  have eits:its=rws.map fun rw0=>Value.ref rw0.1:=by
    have:Vals ((rws.map (·.1)).map V.ref) its:=by rw [List.map_map]; exact rv
    rw [vals_refs this,List.map_map]
    rfl
  have content:∀a∈rws,∀b∈rws,a.1=b.1→a.2=b.2:=fun a ha b hb e=>by
    have h1:=hr a ha
    rw [e,hr b hb] at h1
    exact (map_int_inj (HO.tup.inj (Option.some.inj h1))).symm
  refine SeqAt.in_listAt (fun v=>rws.any fun rw0=>decide (v=Value.ref rw0.1) && decide (rw0.2=ns)) pl.isList (fun w hw=>?_) ?_
  · have hw':w∈rws.map fun rw0=>Value.ref rw0.1:=by rw [←eits]; simpa using hw
    obtain ⟨a,ha,rfl⟩:=List.mem_map.mp hw'
    have e1:(rws.any fun rw0=>decide (Value.ref a.1=Value.ref rw0.1) && decide (rw0.2=ns))=decide (a.2=ns):=by
      rw [Bool.eq_iff_iff,List.any_eq_true,decide_eq_true_iff]
      constructor
      · rintro ⟨b,hb,e⟩
        rw [Bool.and_eq_true] at e
        have eab:a.1=b.1:=Value.ref.inj (of_decide_eq_true e.1)
        rw [content a ha b hb eab]
        exact of_decide_eq_true e.2
      · intro e
        exact ⟨a,ha,by rw [decide_eq_true rfl,decide_eq_true e]; rfl⟩
    show SeqAt.EqAt X.A.in1 s (Value.ref a.1) (Value.ref t) (rws.any fun rw0=>decide (Value.ref a.1=Value.ref rw0.1) && decide (rw0.2=ns))
    rw [e1]
    exact eqAt_tups (show X.A.units + 1 < cLine by omega) I (hr a ha) ht
  · refine ⟨.bl _,H,I,rfl,q _ ?_⟩
    rw [eits,List.any_toArray,List.any_eq_true]
    constructor
    · rintro ⟨v,_,hv⟩
      obtain ⟨c,hc,hcc⟩:=List.any_eq_true.mp hv
      rw [Bool.and_eq_true] at hcc
      exact ⟨c,hc,of_decide_eq_true hcc.2⟩
    · rintro ⟨c,hc,ec⟩
      exact ⟨Value.ref c.1,List.mem_map.mpr ⟨c,hc,rfl⟩,List.any_eq_true.mpr ⟨c,hc,by rw [decide_eq_true rfl,decide_eq_true ec]; rfl⟩⟩
end
theorem zip_refs:∀{ts:List Addr} {T:Tbl},ts.length=T.length→refsOf (ts.zip T)=ts.map V.ref
  | [],[],_=>rfl
  | [],_ :: _,e=>by cases e
  | _ :: _,[],e=>by cases e
  | t :: ts,r :: T,e=>by
    show V.ref t :: refsOf (ts.zip T)=V.ref t :: ts.map V.ref
    rw [zip_refs (by simpa using e)]
theorem TB.zip {H:Hp} {m:Nat} {ts:List Addr} {T:Tbl} (h:TB H m ts T):(∀w∈ts.zip T,H w.1=some (.tup (w.2.map V.int)))∧∀ns,(∃c∈ts.zip T,c.2=ns)↔ns∈T:=by
  constructor
  · intro w hw
    obtain ⟨i,hi⟩:=List.getElem?_of_mem hw
    rw [List.getElem?_zip_eq_some] at hi
    exact h.at_ i w.1 w.2 hi.1 hi.2
  · intro ns
    constructor
    · rintro ⟨c,hc,rfl⟩
      exact (List.of_mem_zip hc).2
    · intro hn
      obtain ⟨i,hi⟩:=List.getElem?_of_mem hn
      have hl:i < ts.length:=by rw [h.len]; exact (List.getElem?_eq_some_iff.mp hi).1
      refine ⟨(ts[i],ns),List.mem_of_getElem? (i:=i) ?_,rfl⟩
      rw [List.getElem?_zip_eq_some]
      exact ⟨List.getElem?_eq_getElem hl,hi⟩
def spSafe (K:PySem.W.Frag):Sp:=fun vs H Q _=>∃(m:Nat) (rl pl:Addr) (rs:List Rl) (ps:List Nat),vs=[vN m,.ref rl,.ref pl]∧1≤m∧m≤7∧SqL K H rl (rs.map fun r=>V.ref r.r)∧RulesAt H m rs∧rs.length≤200∧SqL K H pl (ps.map vN)∧ps.length≤10∧ps.foldl (·|||·) 0=2 ^ m - 1∧
  ∀(b:Bool) (H':Hp),Same H H'→(b=true↔List.replicate m 0∈(runT (rs.map Rl.d) 1000 (begT m ps)).1)→Q (.bl b) H'
theorem or_bits (k:Nat):∀(l:List Nat) (a:Nat),HasB (l.foldl (·|||·) a) k↔HasB a k∨∃p∈l,HasB p k
  | [],a=>⟨.inl,fun h=>h.elim id fun ⟨_,h,_⟩=>absurd h List.not_mem_nil⟩
  | x :: l,a=>by
    rw [List.foldl_cons,or_bits k l (a|||x),hasb_or]
    constructor
    · rintro ((h | h) | ⟨p,hp,h⟩)
      · exact .inl h
      · exact .inr ⟨x,List.mem_cons_self ..,h⟩
      · exact .inr ⟨p,List.mem_cons_of_mem _ hp,h⟩
    · rintro (h | ⟨p,hp,h⟩)
      · exact .inl (.inl h)
      · rcases List.mem_cons.mp hp with rfl | hp
        · exact .inl (.inr h)
        · exact .inr ⟨p,hp,h⟩
end L2
namespace L2
open PySem PySem.Spec PyProof.Rows
theorem lc_tup {K:PySem.W.Frag} {a:Addr} {xs:List V} {n:Nat} {g:TG} {tc:TT} {te:TE} {σ:St} {H:Hp} {F:List V→Hp→Prop} (Pv:Nat→List V→Hp→Prop) (hn:xs.length≤1000000) (h0:Pv 0 [] H)
    (hl:∀i acc H,i≤xs.length→Pv i acc H→SqT K H a xs∧acc.length≤i)
    (hs:∀i x acc H,xs[i]? = some x→Pv i acc H→g x (List.replicate n none++σ) H fun σ2 H2=>σ2.drop n=σ∧tc σ2 H2 fun c H3=>if c=true then te σ2 H3 fun y H4=>Pv (i + 1) (acc++[y]) H4 else Pv (i + 1) acc H3)
    (hd:∀acc H,Pv xs.length acc H→F acc H):LCW n (Itt K a) g tc te σ H F:=by
  have sz:(1000000:Nat) < sizeLine:=by rw [sizeLine_eq]; decide
  refine ⟨fun i m acc H=>m=xs.length - i∧i≤xs.length∧Pv i acc H,⟨xs.length,by simp,Nat.zero_le _,h0⟩,?_⟩
  rintro i m acc H ⟨rfl,hi,p⟩
  have q:=hl i acc H hi p
  by_cases hlt:i < xs.length
  · refine .inr ⟨⟨xs,xs[i],q.1,by simp [hlt]⟩,by omega,Pv (i + 1),fun acc' H' p'=>⟨xs.length - (i + 1),by omega,rfl,hlt,p'⟩,fun x H' y=>?_⟩
    obtain ⟨e,y⟩:=y
    subst e
    exact hs i x acc _ (y xs q.1) p
  · have e:i=xs.length:=by omega
    subst e
    exact .inl ⟨⟨xs,q.1,Nat.le_refl _⟩,by omega,hd acc H p⟩
def LowT (m:Nat) (T U:Tbl):Prop:=T.length=U.length∧∀(i:Nat) (r u:List Int),T[i]? = some r→U[i]? = some u→∀c,c < m→(0:Int)≤r.getD c 0∧r.getD c 0≤u.getD c 0
theorem run_low {m:Nat} {rs:List RD} (m7:m≤7) (hrs:Rules m rs):∀(n:Nat) (T U:Tbl),(∀r∈T,r.length=m)→NonN T→LowT m T U→LowT m (runT rs n T).1 U∧(∀r∈(runT rs n T).1,r.length=m)
  | 0,T,U,hl,hn,h=>⟨h,hl⟩
  | n + 1,T,U,hl,hn,h=>by
    unfold runT
    cases e:firstS T rs with
    | none=>exact ⟨h,hl⟩
    | some p=>
      obtain ⟨ri,rj,x,y,S⟩:=firstS_some e
      obtain ⟨hc,hne⟩:=unlN_some (hrs _ (List.mem_of_getElem? S.rule)).2 m7 S.un
      have hri:=List.mem_of_getElem? S.ei
      have hrj:=List.mem_of_getElem? S.ej
      have ha:=hn ri hri _ (getD_mem (c:=p.2.2.2) (by rw [hl ri hri]; exact hc))
      have hb:=hn rj hrj _ (getD_mem (c:=p.2.2.2) (by rw [hl rj hrj]; exact hc))
      have es:stepT T p=T.map (evenRow p.2.2.2 (ri.getD p.2.2.2 0) (rj.getD p.2.2.2 0)):=by unfold stepT; rw [rowT_of S.ei,rowT_of S.ej]
      refine run_low m7 hrs n (stepT T p) U ?_ ?_ ⟨by rw [es,List.length_map]; exact h.1,fun i r u h1 h2 c hcm=>?_⟩
      · rw [es]
        intro r hr
        obtain ⟨r0,h0,rfl⟩:=List.mem_map.mp hr
        rw [evenRow_len]; exact hl r0 h0
      · rw [es]
        intro r hr
        obtain ⟨r0,h0,rfl⟩:=List.mem_map.mp hr
        exact evenRow_nonneg ha hb (hn r0 h0)
      · rw [es,List.getElem?_map] at h1
        cases e0:T[i]? with
        | none=>rw [e0] at h1; cases h1
        | some r0=>
          rw [e0] at h1
          obtain rfl:=(Option.some.inj h1).symm
          obtain ⟨l1,l2⟩:=h.2 i r0 u e0 h2 c hcm
          unfold evenRow
          split
          · rename_i em
            by_cases ec:c=p.2.2.2
            · rw [ec] at l1 l2 ⊢
              have hlen:p.2.2.2 < r0.length:=by rw [hl r0 (List.mem_of_getElem? e0)]; exact hc
              rw [List.getD_eq_getElem?_getD,List.getElem?_set_self hlen]
              show (0:Int)≤min _ _∧min _ _≤_
              omega
            · rw [List.getD_eq_getElem?_getD,List.getElem?_set_ne (Ne.symm ec),←List.getD_eq_getElem?_getD]
              exact ⟨l1,l2⟩
          · exact ⟨l1,l2⟩
end L2
namespace L2
open PySem PySem.Spec PyProof.Rows
theorem hasb_test:∀p,p < 128→∀k,k < 7→hasB p k=p.testBit k:=by decide +kernel
section
variable {X:Cx} {K:PySem.W.Frag}
end
end L2
namespace L2
open PySem PySem.Spec PyProof.Rows
theorem alike_unl {r1 r2:List Int} {s:Nat}:alikeL r1 r2 s=true↔unlN r1 r2 s=none:=by
  unfold alikeL unlN
  rw [List.find?_eq_none,List.all_map,List.all_eq_true]
  constructor
  · intro h c hc z
    have h1:decide (r1.getD c 0=r2.getD c 0)=true:=h c hc
    rw [h1] at z
    cases z
  · intro h c hc
    show decide (r1.getD c 0=r2.getD c 0)=true
    cases e:decide (r1.getD c 0=r2.getD c 0) with
    | true=>rfl
    | false=>exact absurd (by rw [e]; rfl) (h c hc)
end L2
namespace L2
open PySem PySem.Spec PyProof.Rows
structure TMod (m:Nat) (rs:List RD) (ps:List Nat) (z:Nat→Int) (g:Nat→Nat→Int):Prop where
  own:∀i p,ps[i]? = some p→∀c,c < m→HasB p c→g i c=z c
  keep:∀r∈rs,r.1=true→∀i j,i < ps.length→j < ps.length→(∀c,c < m→HasB r.2.1 c→g i c=g j c)→∀c,c < m→HasB r.2.2 c→g i c=g j c
def cellT (T:Tbl) (i c:Nat):Int:=(rowT T i).getD c 0
structure Fits (m n:Nat) (T:Tbl) (z:Nat→Int) (g:Nat→Nat→Int):Prop where
  eq:∀i j c,i < n→j < n→c < m→cellT T i c=cellT T j c→g i c=g j c
  nought:∀i c,i < n→c < m→cellT T i c=0→g i c=z c
theorem alikeL_iff {m s:Nat} {r1 r2:List Int} (m7:m≤7) (hs:s < 2 ^ m):alikeL r1 r2 s=true↔∀c,c < m→HasB s c→r1.getD c 0=r2.getD c 0:=by
  have p7:=pow7 m7
  have cm:=cols_mem (a:=s) (by omega)
  unfold alikeL
  rw [List.all_map,List.all_eq_true]
  constructor
  · intro h c _ hc
    exact of_decide_eq_true (h c ((cm c).mpr hc))
  · intro h c hc
    have hb:=(cm c).mp hc
    exact decide_eq_true (h c (hasb_lt hs hb) hb)
theorem beg_cell {m i c p:Nat} {ps:List Nat} (m7:m≤7) (hc:c < m) (hp:p < 2 ^ m) (e:ps[i]? = some p):cellT (begT m ps) i c=if p.testBit c=true then 0 else ((i + 1:Nat):Int):=by
  have p7:=pow7 m7
  have hi:i < ps.length:=(List.getElem?_eq_some_iff.mp e).1
  have er:(begT m ps)[i]? = some (begRow m i p):=by
    unfold begT begK
    rw [List.getElem?_map,range_get2 hi]
    show some (begRow m i (ps.getD i 0))=_
    rw [List.getD_eq_getElem?_getD,e]; rfl
  unfold cellT
  rw [rowT_of er,begRow_get hc,hasb_test p (by omega) c (by omega)]
theorem fits_beg {m:Nat} {rs:List RD} {ps:List Nat} {z:Nat→Int} {g:Nat→Nat→Int} (m7:m≤7) (hps:∀p∈ps,p < 2 ^ m) (M:TMod m rs ps z g):Fits m ps.length (begT m ps) z g:=by
  have key:∀i,i < ps.length→∃p,ps[i]? = some p∧p < 2 ^ m:=fun i hi=>⟨ps[i],List.getElem?_eq_getElem hi,hps _ (List.getElem_mem hi)⟩
  refine ⟨fun i j c hi hj hc e=>?_,fun i c hi hc e=>?_⟩
  · obtain ⟨p,ep,hp⟩:=key i hi
    obtain ⟨u,eu,hu⟩:=key j hj
    rw [beg_cell m7 hc hp ep,beg_cell m7 hc hu eu] at e
    split at e
    · rename_i h1
      split at e
      · rename_i h2
        rw [M.own i p ep c hc h1,M.own j u eu c hc h2]
      · omega
    · split at e
      · omega
      · have:i=j:=by omega
        rw [this]
  · obtain ⟨p,ep,hp⟩:=key i hi
    rw [beg_cell m7 hc hp ep] at e
    split at e
    · rename_i h1
      exact M.own i p ep c hc h1
    · omega
theorem cell_even {T:Tbl} {p:Stp} {i c:Nat} {m:Nat} {ri rj:List Int} (hl:∀r∈T,r.length=m) (hi:i < T.length) (hc:c < m) (hp:p.2.2.2 < m) (es:stepT T p=T.map (evenRow p.2.2.2 (ri.getD p.2.2.2 0) (rj.getD p.2.2.2 0))) :
    cellT (stepT T p) i c=if c=p.2.2.2∧cellT T i c=max (ri.getD p.2.2.2 0) (rj.getD p.2.2.2 0) then min (ri.getD p.2.2.2 0) (rj.getD p.2.2.2 0) else cellT T i c:=by
  have e1:T[i]? = some T[i]:=List.getElem?_eq_getElem hi
  have e2:(stepT T p)[i]? = some (evenRow p.2.2.2 (ri.getD p.2.2.2 0) (rj.getD p.2.2.2 0) T[i]):=by rw [es,List.getElem?_map,e1]; rfl
  have hm:=hl T[i] (List.getElem_mem hi)
  unfold cellT
  rw [rowT_of e2,rowT_of e1]
  unfold evenRow
  by_cases ec:c=p.2.2.2
  · subst ec
    by_cases h:T[i].getD p.2.2.2 0=max (ri.getD p.2.2.2 0) (rj.getD p.2.2.2 0)
    · rw [if_pos h,if_pos ⟨rfl,h⟩,List.getD_eq_getElem?_getD,List.getElem?_set_self (by omega)]
      rfl
    · rw [if_neg h,if_neg fun w=>h w.2]
  · have h2:¬(c=p.2.2.2∧T[i].getD c 0=max (ri.getD p.2.2.2 0) (rj.getD p.2.2.2 0)):=fun w=>ec w.1
    rw [if_neg h2]
    by_cases h:T[i].getD p.2.2.2 0=max (ri.getD p.2.2.2 0) (rj.getD p.2.2.2 0)
    · rw [if_pos h,List.getD_eq_getElem?_getD,List.getElem?_set_ne (Ne.symm ec),←List.getD_eq_getElem?_getD]
    · rw [if_neg h]
theorem fits_step {m n:Nat} {rs:List RD} {ps:List Nat} {T0 T:Tbl} {ss:List Stp} {p:Stp} {z:Nat→Int} {g:Nat→Nat→Int} (m7:m≤7) (hrs:Rules m rs) (A:TAt m rs T0 ss T n) (hn:T.length=ps.length) (M:TMod m rs ps z g) (F:Fits m ps.length T z g) (h:firstS T rs=some p):Fits m ps.length (stepT T p) z g:=by
  obtain ⟨ri,rj,x,y,S⟩:=firstS_some h
  have hr:=List.mem_of_getElem? S.rule
  obtain ⟨hc0,_⟩:=unlN_some (hrs _ hr).2 m7 S.un
  have p7:=pow7 m7
  have hi0:p.2.1 < ps.length:=by rw [←hn]; exact (List.getElem?_eq_some_iff.mp S.ei).1
  have hj0:p.2.2.1 < ps.length:=by rw [←hn]; exact (List.getElem?_eq_some_iff.mp S.ej).1
  have ci:cellT T p.2.1 p.2.2.2=ri.getD p.2.2.2 0:=by unfold cellT; rw [rowT_of S.ei]
  have cj:cellT T p.2.2.1 p.2.2.2=rj.getD p.2.2.2 0:=by unfold cellT; rw [rowT_of S.ej]
  have hyb:HasB y p.2.2.2:=(cols_mem (a:=y) (by have:y < 2 ^ m:=(hrs _ hr).2; omega) _).mp (List.mem_of_find?_eq_some S.un)
  have gij:g p.2.1 p.2.2.2=g p.2.2.1 p.2.2.2:=by
    refine M.keep _ hr rfl _ _ hi0 hj0 (fun c hc hb=>?_) _ hc0 hyb
    refine F.eq _ _ c hi0 hj0 hc ?_
    have e9:ri.getD c 0=rj.getD c 0:=(alikeL_iff m7 (hrs _ hr).1).mp S.al c hc hb
    unfold cellT
    rw [rowT_of S.ei,rowT_of S.ej,e9]
  have es:stepT T p=T.map (evenRow p.2.2.2 (ri.getD p.2.2.2 0) (rj.getD p.2.2.2 0)):=by unfold stepT; rw [rowT_of S.ei,rowT_of S.ej]
  have cv:=fun i c (hi:i < ps.length) (hc:c < m)=>cell_even (ri:=ri) (rj:=rj) A.rl (i:=i) (c:=c) (by rw [hn]; exact hi) hc hc0 es
  have two:∀i,i < ps.length→(cellT T i p.2.2.2=ri.getD p.2.2.2 0∨cellT T i p.2.2.2=rj.getD p.2.2.2 0)→g i p.2.2.2=g p.2.1 p.2.2.2:=fun i hi w=>by
    rcases w with w | w
    · exact F.eq _ _ _ hi hi0 hc0 (by rw [w,ci])
    · rw [gij]; exact F.eq _ _ _ hi hj0 hc0 (by rw [w,cj])
  refine ⟨fun i j c hi hj hc e=>?_,fun i c hi hc e=>?_⟩
  · rw [cv i c hi hc,cv j c hj hc] at e
    by_cases ec:c=p.2.2.2
    · subst ec
      by_cases h1:cellT T i p.2.2.2=max (ri.getD p.2.2.2 0) (rj.getD p.2.2.2 0)
      · rw [if_pos ⟨rfl,h1⟩] at e
        have t1:=two i hi (by omega)
        by_cases h2:cellT T j p.2.2.2=max (ri.getD p.2.2.2 0) (rj.getD p.2.2.2 0)
        · rw [t1,two j hj (by omega)]
        · rw [if_neg fun w=>h2 w.2] at e
          rw [t1,two j hj (by omega)]
      · rw [if_neg fun w=>h1 w.2] at e
        by_cases h2:cellT T j p.2.2.2=max (ri.getD p.2.2.2 0) (rj.getD p.2.2.2 0)
        · rw [if_pos ⟨rfl,h2⟩] at e
          rw [two i hi (by omega),two j hj (by omega)]
        · rw [if_neg fun w=>h2 w.2] at e
          exact F.eq i j _ hi hj hc e
    · rw [if_neg fun w=>ec w.1,if_neg fun w=>ec w.1] at e
      exact F.eq i j c hi hj hc e
  · rw [cv i c hi hc] at e
    split at e
    · rename_i w
      obtain ⟨rfl,w⟩:=w
      rw [two i hi (by omega)]
      by_cases q:ri.getD p.2.2.2 0=0
      · exact F.nought _ _ hi0 hc0 (by rw [ci]; exact q)
      · rw [gij]; exact F.nought _ _ hj0 hc0 (by rw [cj]; omega)
    · exact F.nought i c hi hc e
theorem fits_run {m:Nat} {rs:List RD} {ps:List Nat} {T0:Tbl} {z:Nat→Int} {g:Nat→Nat→Int} (m7:m≤7) (hrs:Rules m rs) (h0:T0.length=ps.length) (M:TMod m rs ps z g):∀(n:Nat) (T:Tbl) (ss:List Stp),TAt m rs T0 ss T n→Fits m ps.length T z g→Fits m ps.length (runT rs n T).1 z g∧firstS (runT rs n T).1 rs=none
  | 0,T,ss,A,F=>by
    refine ⟨F,?_⟩
    cases e:firstS T rs with
    | none=>exact e
    | some p=>
      obtain ⟨_,n',hn,_⟩:=A.next m7 hrs e
      omega
  | n + 1,T,ss,A,F=>by
    unfold runT
    cases e:firstS T rs with
    | none=>exact ⟨F,e⟩
    | some p=>
      obtain ⟨_,n',hn,A'⟩:=A.next m7 hrs e
      have:n=n':=by omega
      subst this
      exact fits_run m7 hrs h0 M n (stepT T p) _ A' (fits_step m7 hrs A (by rw [A.ln]; exact h0) M F e)
theorem firstS_none {T:Tbl} {rs:List RD} (h:firstS T rs=none) {r:RD} (hr:r∈rs) (h1:r.1=true) {i j:Nat} (hij:i < j) (hj:j < T.length) (al:alikeL (rowT T i) (rowT T j) r.2.1=true):unlN (rowT T i) (rowT T j) r.2.2=none:=by
  obtain ⟨k,hk⟩:=List.getElem?_of_mem hr
  have h2:=List.findSome?_eq_none_iff.mp h k (List.mem_range.mpr (List.getElem?_eq_some_iff.mp hk).1)
  obtain ⟨st,x,y⟩:=r
  have h1':st=true:=h1
  subst h1'
  unfold tryS at h2
  rw [hk] at h2
  have h3:firstP T x y=none:=Option.map_eq_none_iff.mp h2
  have h4:=List.findSome?_eq_none_iff.mp h3 i (List.mem_range.mpr (by omega))
  have h5:=List.findSome?_eq_none_iff.mp h4 j (List.mem_range'.mpr ⟨j - (i + 1),by omega,by omega⟩)
  unfold tryP at h5
  rw [if_pos al] at h5
  exact Option.map_eq_none_iff.mp h5
theorem begT_len (m:Nat) (ps:List Nat):(begT m ps).length=ps.length:=by unfold begT begK; rw [List.length_map,List.length_range]
theorem run_mod {m:Nat} {rs:List RD} {ps:List Nat} (m7:m≤7) (hrs:Rules m rs) (hps:∀p∈ps,p < 2 ^ m) (lp:ps.length≤10) :
    TMod m rs ps (fun _=>0) (cellT (runT rs 1000 (begT m ps)).1)∧(runT rs 1000 (begT m ps)).1.length=ps.length∧∀r∈(runT rs 1000 (begT m ps)).1,r.length=m:=by
  have A0:=begT_at (m:=m) (rs:=rs) lp m7
  have low0:LowT m (begT m ps) (begT m ps):=⟨rfl,fun i r u h1 h2 c hc=>by
    rw [h1] at h2
    rw [←Option.some.inj h2]
    have hrm:=List.mem_of_getElem? h1
    exact ⟨A0.nn r hrm _ (L2.getD_mem (by rw [A0.rl r hrm]; exact hc)),Int.le_refl _⟩⟩
  obtain ⟨low,hl⟩:=run_low m7 hrs 1000 (begT m ps) (begT m ps) A0.rl A0.nn low0
  have triv:TMod m rs ps (fun _=>0) (fun _ _=>0):=⟨fun _ _ _ _ _ _=>rfl,fun _ _ _ _ _ _ _ _ _ _ _=>rfl⟩
  obtain ⟨_,stop⟩:=fits_run m7 hrs (begT_len m ps) triv 1000 (begT m ps) [] A0 (fits_beg m7 hps triv)
  have ln:(runT rs 1000 (begT m ps)).1.length=ps.length:=low.1.trans (begT_len m ps)
  generalize (runT rs 1000 (begT m ps)).1=T at low stop ln hl
  have sym:∀r∈rs,r.1=true→∀i j,i < j→j < ps.length→(∀c,c < m→HasB r.2.1 c→cellT T i c=cellT T j c)→∀c,c < m→HasB r.2.2 c→cellT T i c=cellT T j c:=fun r hr h1 i j hij hj hal c hc hb=>by
    have h2:=firstS_none stop hr h1 hij (by omega) ((alikeL_iff m7 (hrs r hr).1).mpr hal)
    exact (alikeL_iff m7 (hrs r hr).2).mp (alike_unl.mpr h2) c hc hb
  refine ⟨⟨fun i p ep c hc hb=>?_,fun r hr h1 i j hi hj hal c hc hb=>?_⟩,ln,?_⟩
  · have hi:i < ps.length:=(List.getElem?_eq_some_iff.mp ep).1
    have e1:T[i]? = some T[i]:=List.getElem?_eq_getElem (by omega)
    have e2:(begT m ps)[i]? = some ((begT m ps)[i]'(by rw [begT_len]; exact hi)):=List.getElem?_eq_getElem _
    have h3:=low.2 i _ _ e1 e2 c hc
    have h4:=beg_cell m7 hc (hps p (List.mem_of_getElem? ep)) ep
    unfold cellT at h4
    have hb':p.testBit c=true:=hb
    rw [rowT_of e2,if_pos hb'] at h4
    unfold cellT
    rw [rowT_of e1]
    omega
  · rcases Nat.lt_trichotomy i j with h | h | h
    · exact sym r hr h1 i j h hj hal c hc hb
    · rw [h]
    · exact (sym r hr h1 j i h hi (fun c hc hb=>(hal c hc hb).symm) c hc hb).symm
  · exact hl
theorem row_iff {m i:Nat} {rs:List RD} {ps:List Nat} (m7:m≤7) (hrs:Rules m rs) (hps:∀p∈ps,p < 2 ^ m) (lp:ps.length≤10) (hi:i < ps.length) :
    (runT rs 1000 (begT m ps)).1[i]? = some (List.replicate m 0)↔∀z g,TMod m rs ps z g→∀c,c < m→g i c=z c:=by
  obtain ⟨M,ln,hl⟩:=run_mod m7 hrs hps lp
  constructor
  · intro e z g G c hc
    obtain ⟨F,_⟩:=fits_run m7 hrs (begT_len m ps) G 1000 (begT m ps) [] (begT_at lp m7) (fits_beg m7 hps G)
    refine F.nought i c hi hc ?_
    unfold cellT
    rw [rowT_of e,List.getD_eq_getElem?_getD,List.getElem?_replicate,if_pos hc]
    rfl
  · intro h
    have h0:=h _ _ M
    generalize (runT rs 1000 (begT m ps)).1=T at ln hl h0
    have e1:T[i]? = some T[i]:=List.getElem?_eq_getElem (by omega)
    have hm:=hl T[i] (List.getElem_mem _)
    rw [e1]
    refine congrArg some (List.ext_getElem (by rw [hm,List.length_replicate]) fun c h1 h2=>?_)
    have h3:=h0 c (by omega)
    unfold cellT at h3
    rw [rowT_of e1,List.getD_eq_getElem?_getD,List.getElem?_eq_getElem h1] at h3
    rw [List.getElem_replicate]
    exact h3
theorem safe_iff {m:Nat} {rs:List RD} {ps:List Nat} (m7:m≤7) (hrs:Rules m rs) (hps:∀p∈ps,p < 2 ^ m) (lp:ps.length≤10) :
    List.replicate m 0∈(runT rs 1000 (begT m ps)).1↔∃i,i < ps.length∧∀z g,TMod m rs ps z g→∀c,c < m→g i c=z c:=by
  obtain ⟨_,ln,_⟩:=run_mod m7 hrs hps lp
  constructor
  · intro h
    obtain ⟨i,hi⟩:=List.getElem?_of_mem h
    have hil:i < ps.length:=by rw [←ln]; exact (List.getElem?_eq_some_iff.mp hi).1
    exact ⟨i,hil,(row_iff m7 hrs hps lp hil).mp hi⟩
  · rintro ⟨i,hi,h⟩
    exact List.mem_of_getElem? ((row_iff m7 hrs hps lp hi).mpr h)
end L2
namespace L2
open PySem PySem.Spec PyProof.Rows
end L2
namespace L2
open PySem PySem.Spec PyProof.Rows
section
variable {X:Cx} {K:PySem.W.Frag}
end
end L2
namespace L2
open PySem PySem.Spec PyProof.Rows
theorem run_setok {m:Nat} {rs:List RD} {ps:List Nat} {ts:List Addr} (m7:m≤7) (hrs:Rules m rs) (hps:∀p∈ps,p < 2 ^ m) (lp:ps.length≤10) {x y:Nat} (h:(true,x,y)∈rs):SetOk (ts.zip (runT rs 1000 (begT m ps)).1) x y:=by
  obtain ⟨M,ln,hl⟩:=run_mod m7 hrs hps lp
  obtain ⟨hx,hy⟩:=hrs _ h
  generalize (runT rs 1000 (begT m ps)).1=T at M ln hl
  have at_:∀a∈ts.zip T,∃i,i < ps.length∧rowT T i=a.2∧a.2.length=m:=fun a ha=>by
    have h1:a.2∈T:=(List.of_mem_zip (a:=a.1) (b:=a.2) ha).2
    obtain ⟨i,hi⟩:=List.getElem?_of_mem h1
    refine ⟨i,by rw [←ln]; exact (List.getElem?_eq_some_iff.mp hi).1,rowT_of hi,hl _ h1⟩
  intro a ha b hb he
  obtain ⟨i,hi,ei,la⟩:=at_ a ha
  obtain ⟨j,hj,ej,lb⟩:=at_ b hb
  refine (alike_seen (by omega) hy la lb).mp ((alikeL_iff m7 hy).mpr ?_)
  have hal:=(alikeL_iff m7 hx).mp ((alike_seen (by omega) hx la lb).mpr he)
  intro c hc hyc
  have:=M.keep _ h rfl i j hi hj (fun c' hc' hx'=>by unfold cellT; rw [ei,ej]; exact hal c' hc' hx') c hc hyc
  unfold cellT at this
  rw [ei,ej] at this
  exact this
end L2
namespace L2
open PySem PySem.Spec PySem.W PyProof.Rows
structure Asc (ks src:List (List Int)):Prop where
  up:ks.Pairwise fun x y=>ST.lexB y x=false
  nd:ks.Nodup
  mem:∀k,k∈ks↔k∈src
theorem up_eq {m:Nat}:∀{a b:List (List Int)},a.Pairwise (fun x y=>ST.lexB y x=false)→b.Pairwise (fun x y=>ST.lexB y x=false)→a.Nodup→b.Nodup→(∀k,k∈a↔k∈b)→(∀k∈a,k.length=m)→a=b
  | [],[],_,_,_,_,_,_=>rfl
  | [],y :: b,_,_,_,_,h,_=>absurd ((h y).mpr (List.mem_cons_self ..)) List.not_mem_nil
  | x :: a,[],_,_,_,_,h,_=>absurd ((h x).mp (List.mem_cons_self ..)) List.not_mem_nil
  | x :: a,y :: b,u1,u2,n1,n2,h,l=>by
    obtain ⟨u1',v1⟩:=List.pairwise_cons.mp u1
    obtain ⟨u2',v2⟩:=List.pairwise_cons.mp u2
    obtain ⟨m1,n1'⟩:=List.nodup_cons.mp n1
    obtain ⟨m2,n2'⟩:=List.nodup_cons.mp n2
    have e:x=y:=by
      rcases List.mem_cons.mp ((h x).mp (List.mem_cons_self ..)) with e | e
      · exact e
      · rcases List.mem_cons.mp ((h y).mpr (List.mem_cons_self ..)) with e' | e'
        · exact e'.symm
        · exact ST.lex_total ((l x (List.mem_cons_self ..)).trans (l y (List.mem_cons_of_mem _ e')).symm) (u2' x e) (u1' y e')
    subst e
    rw [up_eq v1 v2 n1' n2' (fun k=>?_) fun k hk=>l k (List.mem_cons_of_mem _ hk)]
    constructor
    · intro hk
      rcases List.mem_cons.mp ((h k).mp (List.mem_cons_of_mem _ hk)) with rfl | e
      · exact absurd hk m1
      · exact e
    · intro hk
      rcases List.mem_cons.mp ((h k).mpr (List.mem_cons_of_mem _ hk)) with rfl | e
      · exact absurd hk m2
      · exact e
theorem Asc.eq {m:Nat} {a b s t:List (List Int)} (A:Asc a s) (B:Asc b t) (h:∀k,k∈s↔k∈t) (l:∀k∈s,k.length=m):a=b:=
  up_eq A.up B.up A.nd B.nd (fun k=>(A.mem k).trans ((h k).trans (B.mem k).symm)) fun k hk=>l k ((A.mem k).mp hk)
theorem Asc.of {rows:List RW} {src:List (List Int)} (up:ST.RUp rows) (nd:(rows.map (·.2)).Nodup) (mem:∀k,k∈rows.map (·.2)↔k∈src):Asc (rows.map (·.2)) src:=
  ⟨by rw [List.pairwise_map]; exact up,nd,mem⟩
theorem nd_len:∀{a b:List (List Int)},a.Nodup→(∀k∈a,k∈b)→a.length≤b.length:=fun {a b}=>ST.nd_sub
theorem putK_keys {kvs:List (List Key × V)} {ks:List (List Int)} {k:List Int} {v:V} (e:kvs.map (·.1)=ks.map tks) (nd:ks.Nodup):∃ks':List (List Int),(putK kvs (tks k) v).map (·.1)=ks'.map tks∧ks'.Nodup∧∀x,x∈ks'↔x∈ks∨x=k:=by
  have hm:(kvs.any fun kv=>decide (kv.1=tks k))=true↔k∈ks:=by
    rw [List.any_eq_true]
    constructor
    · rintro ⟨kv,hk,he⟩
      have:kv.1∈ks.map tks:=by
        rw [←e]
        exact List.mem_map.mpr ⟨kv,hk,rfl⟩
      obtain ⟨k',h',e'⟩:=List.mem_map.mp this
      rw [←tks_inj (e'.trans (of_decide_eq_true he))]
      exact h'
    · intro h
      have:tks k∈kvs.map (·.1):=by
        rw [e]
        exact List.mem_map.mpr ⟨k,h,rfl⟩
      obtain ⟨kv,hk,e'⟩:=List.mem_map.mp this
      exact ⟨kv,hk,decide_eq_true e'⟩
  unfold putK
  by_cases c:(kvs.any fun kv=>decide (kv.1=tks k))=true
  · rw [if_pos c]
    refine ⟨ks,?_,nd,fun x=>⟨.inl,fun h=>?_⟩⟩
    · rw [←e,List.map_map]
      refine List.map_congr_left fun kv _=>?_
      dsimp only [Function.comp]
      split <;> rfl
    · rcases h with h | rfl
      · exact h
      · exact hm.mp c
  · rw [if_neg c]
    refine ⟨ks++[k],by rw [List.map_append,List.map_append,e]; rfl,?_,fun x=>by rw [List.mem_append,List.mem_singleton]⟩
    rw [List.nodup_append]
    refine ⟨nd,by simp,fun a ha b hb z=>?_⟩
    rw [List.mem_singleton.mp hb] at z
    rw [z] at ha
    exact c (hm.mpr ha)
end L2
namespace L2
open PySem PySem.Spec PyProof.Rows
def rowD (r:List Int):PyData:=.tuple (r.map PyData.int)
theorem same_rowD (a b:List Int):same (rowD a) (rowD b)=decide (a=b):=by
  unfold rowD
  simp only [same]
  exact sameAll_map (fun i j=>by simp only [same]; first | rfl | (by_cases e:i=j <;> simp [e])) a b
theorem noMix_rowD (a b:List Int):SeqAt.noMix (rowD a) (rowD b)=true:=by
  unfold rowD
  simp only [SeqAt.noMix]
  exact noMixAll_map (fun i j=>by simp [SeqAt.noMix]) a b
theorem shaped_book (rs:List (List Int)):SeqAt.shaped (.list (rs.map rowD))=true:=
  shaped_map (fun a=>by unfold rowD; simp only [PyData.canLay0]; exact canLayAll_map (fun i=>by simp [PyData.canLay0]) a)
    (fun a=>by
      have:=depthAll_map (f:=PyData.int) (n:=3) (fun i=>by simp [PyData.depth]) a
      unfold rowD
      simp only [PyData.depth]
      omega) rs
theorem same_book (rs:List (List Int)):same (.list (rs.map rowD)) (.list (rs.map rowD))=true:=by
  simp only [same]
  rw [sameAll_map same_rowD]
  exact decide_eq_true rfl
theorem noMix_book (a b:List (List Int)):SeqAt.noMix (.list (a.map rowD)) (.list (b.map rowD))=true:=by
  simp only [SeqAt.noMix]
  exact noMixAll_map noMix_rowD a b
theorem row_dv {K:PySem.W.Frag} {H:Hp}:∀r:List Int,DVs K H (r.map V.int) (r.map PyData.int)
  | []=>.nil
  | x :: r=>.cons (.int x) (row_dv r)
theorem rows_dv {K:PySem.W.Frag} {H:Hp} {m:Nat}:∀{rws:List RW},RowsOk H m rws→DVs K H (refsOf rws) ((rws.map (·.2)).map rowD)
  | [],_=>.nil
  | r :: rws,h=>.cons (.tup (SqT.of (h r (List.mem_cons_self ..)).1) (row_dv r.2)) (rows_dv fun x hx=>h x (List.mem_cons_of_mem _ hx))
theorem book_dv {K:PySem.W.Frag} {H:Hp} {m:Nat} {p:Addr} {rws:List RW} (h:H p=some (.lst (refsOf rws))) (R:RowsOk H m rws):DV K H (.ref p) (.list ((rws.map (·.2)).map rowD)):=.lst (SqL.of h) (rows_dv R)
end L2
namespace L2
open PySem PySem.Spec PySem.W PyProof.Rows
theorem call_sortedR {X:Cx} {K:PySem.W.Frag} (hK:X.K=K):CallR X (.builtin "sorted") (fun xs H Q=>∃(p:Addr) (m:Nat) (rows:List RW),xs=[.ref p]∧SqL K H p (refsOf rows)∧RowsOk H m rows∧1≤m∧rows.length < 1000∧
    ∀(l:Addr) (rows':List RW),H l=none→rows'.Perm rows→ST.RUp rows'→Q (.ref l) (upd H l (.lst (refsOf rows')))):=by
  subst hK
  intro pins s σ H xs us Q I r h
  obtain ⟨p,m,rows,rfl,hq,R,hm,h64,q⟩:=h
  obtain ⟨u,rfl,rx⟩:=vals1 r
  cases rx
  obtain ⟨its,rv,pl,hz⟩:=I.list hq
  have hits:its=rows.map ST.rf:=by
    have all:∀{rs:List RW} {vs:List Value},Vals (refsOf rs) vs→vs=rs.map ST.rf:=by
      intro rs
      induction rs with
      | nil=>intro vs h; cases h; rfl
      | cons x rs ih=>
        intro vs h
        cases h with
        | cons h1 h2=>
          rw [ih h2]
          cases h1
          rfl
    exact all rv
  subst hits
  refine ST.sorted_src (S:=fun x=>x=rows) hm (fun Q' hQ=>?_) fun a h' tk x rows' c hS hr pr up h6 le ha keep=>by
    subst hS
    exact sorted_laid I le ha (by rw [pr.length_eq]; exact h6) keep (q a rows' (I.hok.fresh le) pr up)
  refine collect_list pl.isList (hQ rows _ s.toks rfl (row_at I.hok R) h64 ?_ fun b o e=>?_) (by rw [List.length_map]; exact Nat.le_of_lt (small1000 (by omega)))
  · rw [Heap.size_update,size_push']
    exact Nat.le_succ _
  · exact (Heap.get?_update_other _ _ (Nat.ne_of_gt (Heap.lt_size e))).trans (Heap.get?_push_of_some _ e)
end L2
namespace L2
open PySem PySem.Spec PySem.W PyProof.Rows
end L2
namespace L2
open PySem PySem.Spec PyProof.Rows
section
variable {X:Cx}
end
theorem kept_us {st:Bool} {x y d:Nat}:keptB st x y d=true↔usB (st,x,y) d=false:=by
  show _↔usableB st x y d=false
  have e:keptB st x y d = !usableB st x y d:=by
    unfold keptB usableB
    by_cases h1:x&&&d=0
    · rw [h1]
      by_cases h2:y&&&d=0 <;> by_cases h3:y&&&d=d <;> cases st <;> simp [h2,h3]
    · have h1':0 < x&&&d:=Nat.pos_of_ne_zero h1
      simp [h1,h1']
  rw [e]
  cases usableB st x y d <;> simp
end L2
namespace L2
open PySem PySem.Spec PyProof.Rows
theorem hasB_iff {s k:Nat}:hasB s k=true↔HasB s k:=by
  unfold hasB HasB
  rw [Nat.testBit_eq_decide_div_mod_eq]
end L2
namespace L2
open PySem PySem.Spec PyProof.Rows
structure PJ (T:List (List Int)) (m:Nat) (qs:List Nat) (k:List Int):Prop where
  len:k.length=m
  off:∀c,c < m→(∀q∈qs,¬HasB q c)→k.getD c 0=0
  on:∀q∈qs,∃r∈T,∀c,c < m→HasB q c→k.getD c 0=r.getD c 0
theorem seen_at {r:List Int} {s c m:Nat} (h:r.length=m) (hc:c < m):(HasB s c→(seenL r s).getD c 0=r.getD c 0)∧(¬HasB s c→(seenL r s).getD c 0=0):=by
  rw [seen_get (by omega)]
  exact ⟨fun z=>if_pos (hasB_iff.mpr z),fun z=>if_neg fun w=>z (hasB_iff.mp w)⟩
theorem mix_at {a b:List Int} {s c m:Nat} (h:a.length=m) (hc:c < m):(HasB s c→(mixL a b s).getD c 0=a.getD c 0)∧(¬HasB s c→(mixL a b s).getD c 0=b.getD c 0):=by
  rw [mix_get (by omega)]
  exact ⟨fun z=>if_pos (hasB_iff.mpr z),fun z=>if_neg fun w=>z (hasB_iff.mp w)⟩
theorem pj_safe {T:List RW} {m:Nat} {rs:List RD} {ps:List Nat} {k:List Int} (hl:∀r∈T,r.2.length=m) (m7:m≤7) (hrs:Rules m rs) (hps:∀p∈ps,p < 2 ^ m) (lp:ps.length≤10)
    (keep:∀r∈rs,r.1=true→SetOk T r.2.1 r.2.2) (safe:List.replicate m 0∈(runT rs 1000 (begT m ps)).1) (h:PJ (T.map (·.2)) m ps k):k∈T.map (·.2):=by
  obtain ⟨i,hi,w⟩:=(safe_iff m7 hrs hps lp).mp safe
  have ch:∀j:Nat,∃r:List Int,∀p,ps[j]? = some p→r∈T.map (·.2)∧∀c,c < m→HasB p c→k.getD c 0=r.getD c 0:=fun j=>by
    cases e:ps[j]? with
    | none=>exact ⟨[],fun p z=>by cases z⟩
    | some p=>
      obtain ⟨r,hr,z⟩:=h.on p (List.mem_of_getElem? e)
      exact ⟨r,fun p' e'=>by rw [←Option.some.inj e']; exact ⟨hr,z⟩⟩
  let g:Nat→List Int:=fun j=>(ch j).choose
  have hg:∀j p,ps[j]? = some p→g j∈T.map (·.2)∧∀c,c < m→HasB p c→k.getD c 0=(g j).getD c 0:=fun j=>(ch j).choose_spec
  have hgl:∀j,j < ps.length→∃r∈T,r.2=g j:=fun j hj=>List.mem_map.mp (hg j _ (List.getElem?_eq_getElem hj)).1
  have M:TMod m rs ps (fun c=>k.getD c 0) (fun j c=>(g j).getD c 0):=by
    refine ⟨fun j p e c hc hb=>((hg j p e).2 c hc hb).symm,fun r hr h1 a b ha hb al c hc hy=>?_⟩
    obtain ⟨ra,hra,ea⟩:=hgl a ha
    obtain ⟨rb,hrb,eb⟩:=hgl b hb
    have la:=hl ra hra
    have lb:=hl rb hrb
    have:=keep r hr h1 ra hra rb hrb ((seen_iff la lb).mpr fun c hc hx=>by rw [ea,eb]; exact al c hc (hasB_iff.mp hx))
    have:=(seen_iff la lb).mp this c hc (hasB_iff.mpr hy)
    rw [ea,eb] at this
    exact this
  have w2:=w _ _ M
  obtain ⟨r,hr,e⟩:=hgl i hi
  refine List.mem_map.mpr ⟨r,hr,ext_getD (by rw [hl r hr,h.len]) fun c hc=>?_⟩
  rw [hl r hr] at hc
  rw [e]
  exact w2 c hc
theorem pj_own {T:List RW} {m:Nat} {ps:List Nat} {k:List Int} (hl:∀r∈T,r.2.length=m) (full:ps.foldl (·|||·) 0=2 ^ m - 1) (h:k∈T.map (·.2)):PJ (T.map (·.2)) m ps k:=by
  obtain ⟨r,hr,rfl⟩:=List.mem_map.mp h
  refine ⟨hl r hr,fun c hc z=>?_,fun q _=>⟨r.2,h,fun c _ _=>rfl⟩⟩
  have:=(hasb_all (m:=m) c).mpr hc
  rw [←full,or_bits] at this
  rcases this with w | ⟨p,hp,w⟩
  · exact absurd w (by unfold HasB; rw [Nat.zero_testBit]; decide)
  · exact absurd w (z p hp)
theorem pj_filled {m:Nat} {rs:List RD} {ps:List Nat} (m7:m≤7) (hrs:Rules m rs) (hps:∀p∈ps,p < 2 ^ m) (lp:ps.length≤10):PJ (runT rs 1000 (begT m ps)).1 m ps (List.replicate m 0):=by
  obtain ⟨M,ln,hl⟩:=run_mod m7 hrs hps lp
  have z0:∀c,(List.replicate m (0:Int)).getD c 0=0:=fun c=>by
    rw [List.getD_eq_getElem?_getD,List.getElem?_replicate]
    split <;> rfl
  refine ⟨List.length_replicate,fun c _ _=>z0 c,fun q hq=>?_⟩
  obtain ⟨i,ei⟩:=List.getElem?_of_mem hq
  have hi:i < (runT rs 1000 (begT m ps)).1.length:=by rw [ln]; exact (List.getElem?_eq_some_iff.mp ei).1
  refine ⟨_,List.getElem_mem hi,fun c hc hb=>?_⟩
  have:=M.own i q ei c hc hb
  unfold cellT at this
  rw [rowT_of (List.getElem?_eq_getElem hi)] at this
  rw [z0,this]
end L2
namespace L2
open PySem PySem.Spec PySem.W PyProof.Rows
end L2
namespace L2
open PySem PySem.Spec PySem.W PyProof.Rows
end L2
namespace L2
open PySem PySem.Spec PySem.W PyProof.Rows
end L2
namespace L2
open PySem PySem.Spec PySem.W PyProof.Rows
end L2
namespace L2
open PySem PySem.Spec PyProof.Rows
section
variable {X:Cx} {K:PySem.W.Frag} {pins:List (Addr × Obj)} {σ:St} {H:Hp} {s:Shared}
end
end L2
namespace L2
open PySem PySem.Spec PySem.W PyProof.Rows
section
variable {m:Nat} {rs:List RD} {bs:List Nat} {lo hi:Nat→Int} {T:List RW}
end
theorem torn_some {m x y b:Nat} {rs:List Rl} {s:US} (hx:x < 2 ^ m) (run:Run (rs.map Rl.d) ⟨x&&&y,beginBs m (x&&&y),[]⟩ s) (uns:s.bs.find? (tornB x y)=some b) :
    b < 2 ^ m∧(∀rws:List RW,rws.map (·.2)=bookL m b→∀r∈rs,ROk rws r.st r.x r.y)∧b&&&x&&&y=0∧b&&&x≠b∧b&&&y≠b:=by
  have hxy:x&&&y < 2 ^ m:=Nat.lt_of_le_of_lt Nat.and_le_left hx
  have B:=run.blocks hxy
  have hb:=List.mem_of_find?_eq_some uns
  have K:=B.kept b hb
  have t:=List.find?_some uns
  unfold tornB at t
  rw [Bool.and_eq_true,Bool.not_eq_true',Bool.not_eq_true',decide_eq_false_iff_not,decide_eq_false_iff_not] at t
  refine ⟨K.2.1,fun rws e r hr=>(book_keeps K.2.1 e).mpr (kept_us.mpr (K.2.2 r.d (List.mem_map.mpr ⟨r,hr,rfl⟩))),?_,t.1,t.2⟩
  refine Classical.byContradiction fun z=>?_
  rw [Nat.and_assoc] at z
  obtain ⟨k,h1,h2⟩:=and_ne.mp z
  exact B.apart b hb k h1 h2
end L2
namespace L2
open PySem PySem.Spec PyProof.Rows
section
variable {T:List RW} {m x fx:Nat} {bs:List Nat} {rs:List RD}
def Snd (T:List RW) (m x fx:Nat) (bs:List Nat):Prop:=∀a∈T,∀b∈T,(∀c,c < m→HasB x c→a.2.getD c 0=b.2.getD c 0)→(∀c,c < m→HasB fx c→a.2.getD c 0=b.2.getD c 0)∧∀B∈bs,∃d∈T,∀c,c < m→(HasB B c→d.2.getD c 0=a.2.getD c 0)∧(¬HasB B c→d.2.getD c 0=b.2.getD c 0)
theorem snd_begin (hx:x < 2 ^ m):Snd T m x x (beginBs m x):=fun a ha b hb al=>by
  refine ⟨al,fun B hB=>⟨a,ha,fun c hc=>⟨fun _=>rfl,fun n=>al c hc ?_⟩⟩⟩
  unfold beginBs at hB
  split at hB
  · rw [List.mem_singleton.mp hB] at n
    refine Classical.byContradiction fun z=>n ?_
    show (2 ^ m - 1 - x).testBit c=true
    rw [show 2 ^ m - 1 - x=2 ^ m - (x + 1) by omega,Nat.testBit_two_pow_sub_succ hx,decide_eq_true hc,Bool.true_and]
    cases e:x.testBit c with
    | false=>rfl
    | true=>exact absurd e z
  · exact absurd hB List.not_mem_nil
theorem snd_use (S:Snd T m x fx bs) (hl:∀r∈T,r.2.length=m) (g:Good m fx bs) {st:Bool} {l y i:Nat} (hi:i < bs.length) (hu:usableB st l y (bs.getD i 0)=true) (ok:ROk T st l y):Snd T m x (behindFx st y fx bs i) (behindBs st y bs i):=fun a ha b hb al=>by
  obtain ⟨s1,s2⟩:=S a ha b hb al
  have hB:bs.getD i 0∈bs:=by rw [List.getD_eq_getElem?_getD,List.getElem?_eq_getElem hi]; exact List.getElem_mem hi
  obtain ⟨d,hd,ed⟩:=s2 _ hB
  have hfx:=g.dis _ hB
  have la:=hl a ha
  have lb:=hl b hb
  have ld:=hl d hd
  generalize hbe:bs.getD i 0=B at hB ed hfx hu
  have l0:l&&&B=0:=by
    unfold usableB at hu
    rw [Bool.and_eq_true,Bool.and_eq_true] at hu
    exact of_decide_eq_true hu.1.1
  have off:∀c,HasB l c→¬HasB B c:=fun c h1 h2=>by
    have:HasB (l&&&B) c:=(hasb_and _ _ _).mpr ⟨h1,h2⟩
    rw [l0] at this
    unfold HasB at this
    rw [Nat.zero_testBit] at this
    cases this
  have hin:∀c,HasB (inN y bs i) c↔HasB B c∧HasB y c:=fun c=>by unfold inN; rw [hbe,hasb_and]
  have hout:∀c,HasB (outN y bs i) c↔HasB B c∧¬HasB y c:=fun c=>by
    unfold outN inN
    rw [hbe]
    unfold HasB
    rw [tb_out,Bool.and_eq_true,Bool.not_eq_true']
    cases y.testBit c <;> simp
  have sdb:seenL d.2 l=seenL b.2 l:=(seen_iff ld lb).mpr fun c hc hbc=>(ed c hc).2 (off c (hasB_iff.mp hbc))
  unfold ROk at ok
  cases st with
  | true=>
    rw [if_pos rfl] at ok
    have sy:=(seen_iff ld lb).mp (ok d hd b hb sdb)
    have ey:∀c,c < m→HasB B c→HasB y c→a.2.getD c 0=b.2.getD c 0:=fun c hc h1 h2=>by rw [←(ed c hc).1 h1]; exact sy c hc (hasB_iff.mpr h2)
    refine ⟨fun c hc hb'=>?_,fun C hC=>?_⟩
    · unfold behindFx at hb'
      rw [if_pos rfl,←or_add fx (inN y bs i) (by unfold inN; rw [hbe,←Nat.and_assoc,hfx,Nat.zero_and]),hasb_or] at hb'
      rcases hb' with h | h
      · exact s1 c hc h
      · exact ey c hc ((hin c).mp h).1 ((hin c).mp h).2
    · unfold behindBs at hC
      rw [if_pos rfl] at hC
      rcases List.mem_append.mp hC with hC | hC
      · rcases List.mem_append.mp hC with hC | hC
        · exact s2 C (List.mem_of_mem_take hC)
        · have:C=outN y bs i:=by
            split at hC
            · exact List.mem_singleton.mp hC
            · exact absurd hC List.not_mem_nil
          rw [this]
          refine ⟨d,hd,fun c hc=>⟨fun h=>(ed c hc).1 ((hout c).mp h).1,fun h=>?_⟩⟩
          by_cases h1:HasB B c
          · have h2:HasB y c:=Classical.byContradiction fun z=>h ((hout c).mpr ⟨h1,z⟩)
            rw [(ed c hc).1 h1,ey c hc h1 h2]
          · exact (ed c hc).2 h1
      · exact s2 C (List.mem_of_mem_drop hC)
  | false=>
    rw [if_neg Bool.false_ne_true] at ok
    obtain ⟨u,hu',eu⟩:=ok d hd b hb sdb
    obtain ⟨v,hv,ev⟩:=ok b hb d hd sdb.symm
    refine ⟨fun c hc hb'=>?_,fun C hC=>?_⟩
    · unfold behindFx at hb'
      rw [if_neg Bool.false_ne_true] at hb'
      exact s1 c hc hb'
    · unfold behindBs at hC
      rw [if_neg Bool.false_ne_true] at hC
      rcases List.mem_append.mp hC with hC | hC
      · rcases List.mem_append.mp hC with hC | hC
        · exact s2 C (List.mem_of_mem_take hC)
        · rcases List.mem_cons.mp hC with rfl | hC
          · refine ⟨u,hu',fun c hc=>⟨fun h=>?_,fun h=>?_⟩⟩
            · obtain ⟨h1,h2⟩:=(hin c).mp h
              rw [eu,(mix_at ld hc).1 ((hasb_or _ _ _).mpr (.inr h2)),(ed c hc).1 h1]
            · by_cases h1:HasB B c
              · have h2:¬HasB y c:=fun z=>h ((hin c).mpr ⟨h1,z⟩)
                rw [eu,(mix_at ld hc).2 fun z=>?_]
                rcases (hasb_or _ _ _).mp z with z | z
                · exact off c z h1
                · exact h2 z
              · by_cases h2:HasB (l|||y) c
                · rw [eu,(mix_at ld hc).1 h2,(ed c hc).2 h1]
                · rw [eu,(mix_at ld hc).2 h2]
          · rw [List.mem_singleton.mp hC]
            refine ⟨v,hv,fun c hc=>⟨fun h=>?_,fun h=>?_⟩⟩
            · obtain ⟨h1,h2⟩:=(hout c).mp h
              rw [ev,(mix_at lb hc).2 fun z=>?_,(ed c hc).1 h1]
              rcases (hasb_or _ _ _).mp z with z | z
              · exact off c z h1
              · exact h2 z
            · by_cases h2:HasB (l|||y) c
              · rw [ev,(mix_at lb hc).1 h2]
              · rw [ev,(mix_at lb hc).2 h2]
                refine (ed c hc).2 fun h1=>h ((hout c).mpr ⟨h1,fun z=>h2 ((hasb_or _ _ _).mpr (.inr z))⟩)
      · exact s2 C (List.mem_of_mem_drop hC)
theorem snd_run (hl:∀r∈T,r.2.length=m) (ok:∀r∈rs,ROk T r.1 r.2.1 r.2.2) {s t:US} (R:Run rs s t):Good m s.fx s.bs→Snd T m x s.fx s.bs→Snd T m x t.fx t.bs:=by
  induction R with
  | done _=>exact fun _ h=>h
  | step e _ ih=>
    intro g S
    obtain ⟨h1,h2,h3⟩:=mem_usesN (by rw [e]; exact List.mem_cons_self ..)
    refine ih (g.use h2 h3).1 (snd_use S hl g h2 h3 (ok _ ?_))
    unfold rdAt
    rw [List.getD_eq_getElem?_getD,List.getElem?_eq_getElem h1]
    exact List.getElem_mem h1
theorem book_cut {y:Nat} {s:US} (hl:∀r∈T,r.2.length=m) (ok:∀r∈rs,ROk T r.1 r.2.1 r.2.2) (hx:x < 2 ^ m) (cov:∀c,c < m→HasB x c∨HasB y c) (run:Run rs ⟨x&&&y,beginBs m (x&&&y),[]⟩ s) (safe:s.bs.find? (tornB x y)=none)
    {a b:RW} (ha:a∈T) (hb:b∈T) (al:∀c,c < m→HasB x c→HasB y c→a.2.getD c 0=b.2.getD c 0):mixL a.2 b.2 x∈T.map (·.2):=by
  have hxy:x&&&y < 2 ^ m:=Nat.lt_of_le_of_lt Nat.and_le_left hx
  have B:=run.blocks hxy
  have S:Snd T m (x&&&y) s.fx s.bs:=snd_run hl ok run (Good.begin hxy) (snd_begin hxy)
  have al':∀c,c < m→HasB (x&&&y) c→a.2.getD c 0=b.2.getD c 0:=fun c hc h=>al c hc ((hasb_and _ _ _).mp h).1 ((hasb_and _ _ _).mp h).2
  have fixd:=(S a ha b hb al').1
  have key:∀l:List Nat,(∀B∈l,B∈s.bs)→∃d∈T,∀c,c < m→((∃B∈l,HasB B c)→d.2.getD c 0=a.2.getD c 0)∧(¬(∃B∈l,HasB B c)→d.2.getD c 0=b.2.getD c 0):=fun l=>by
    induction l with
    | nil=>exact fun _=>⟨b,hb,fun c hc=>⟨fun ⟨_,h,_⟩=>absurd h List.not_mem_nil,fun _=>rfl⟩⟩
    | cons C l ih=>
      intro hC
      obtain ⟨d,hd,ed⟩:=ih fun B h=>hC B (List.mem_cons_of_mem _ h)
      obtain ⟨e,he,ee⟩:=(S a ha d hd (fun c hc h=>by
        by_cases z:∃B∈l,HasB B c
        · rw [(ed c hc).1 z]
        · rw [(ed c hc).2 z]; exact al' c hc h)).2 C (hC C (List.mem_cons_self ..))
      refine ⟨e,he,fun c hc=>⟨fun ⟨B,h1,h2⟩=>?_,fun h=>?_⟩⟩
      · by_cases z:HasB C c
        · exact (ee c hc).1 z
        · rw [(ee c hc).2 z]
          rcases List.mem_cons.mp h1 with rfl | h1
          · exact absurd h2 z
          · exact (ed c hc).1 ⟨B,h1,h2⟩
      · rw [(ee c hc).2 fun z=>h ⟨C,List.mem_cons_self ..,z⟩]
        exact (ed c hc).2 fun ⟨B,h1,h2⟩=>h ⟨B,List.mem_cons_of_mem _ h1,h2⟩
  obtain ⟨d,hd,ed⟩:=key (s.bs.filter fun C=>decide (C&&&x=C)) fun C h=>(List.mem_filter.mp h).1
  refine List.mem_map.mpr ⟨d,hd,ext_getD (by rw [hl d hd,mix_len,hl a ha]) fun c hc=>?_⟩
  rw [hl d hd] at hc
  by_cases hxc:HasB x c
  · rw [(mix_at (hl a ha) hc).1 hxc]
    by_cases z:∃C∈s.bs.filter (fun C=>decide (C&&&x=C)),HasB C c
    · exact (ed c hc).1 z
    · rw [(ed c hc).2 z]
      by_cases hf:HasB s.fx c
      · exact (fixd c hc hf).symm
      · refine absurd (B.fix.mpr ⟨hc,fun D hD hap hDc=>?_⟩) hf
        obtain ⟨C,hC,sub⟩:=B.holds D hD hap
        have hCc:HasB C c:=sub c hDc
        have t:=List.find?_eq_none.mp safe C hC
        have n1:¬(C&&&x=C):=fun e=>z ⟨C,List.mem_filter.mpr ⟨hC,decide_eq_true e⟩,hCc⟩
        have e2:C&&&y=C:=by
          refine Classical.byContradiction fun w=>t ?_
          unfold tornB
          rw [decide_eq_false n1,decide_eq_false w]
          rfl
        have hyc:HasB y c:=by
          have h:=hCc
          rw [←e2] at h
          exact ((hasb_and _ _ _).mp h).2
        exact B.apart C hC c hCc ((hasb_and _ _ _).mpr ⟨hxc,hyc⟩)
  · rw [(mix_at (hl a ha) hc).2 hxc]
    refine (ed c hc).2 fun ⟨C,h1,h2⟩=>hxc ?_
    have e:=of_decide_eq_true (List.mem_filter.mp h1).2
    rw [←e] at h2
    exact ((hasb_and _ _ _).mp h2).2
end
end L2
namespace L2
open PySem PySem.Spec PySem.W PyProof.Rows
theorem vals_rf:∀rows:List RW,Vals (refsOf rows) (rows.map ST.rf)
  | []=>.nil
  | _ :: rows=>.cons rfl (vals_rf rows)
section
variable {X:Cx}
theorem call_listD (hc:X.calm=true):CallR X (.type "list") (fun xs H Q=>∃(p:Addr) (m:Nat) (kvs:List (List Key × V)) (rs:List (List Int)),xs=[.ref p]∧H p=some (.dT kvs)∧kvs.map (·.1)=rs.map tks∧(∀r∈rs,r.length=m)∧rs.length < 1000∧
    ∀(l:Addr) (rows:List RW),H l=none→RowsOk H m rows→rows.map (·.2)=rs→Q (.ref l) (upd H l (.lst (refsOf rows)))):=by
  intro pins s σ H xs us Q I r h
  obtain ⟨p,m,kvs,rs,rfl,hp,hk,hl,h64,q⟩:=h
  obtain ⟨u,rfl,rx⟩:=vals1 r
  cases rx
  obtain ⟨z,lo,xs,rel,o,es,ep,at_,ex,da,el,nd⟩:=(show ObjOk X.prog X.w H s.heap p (.dT kvs) from I.hok p _ hp)
  obtain ⟨rows,e2,ef,tr⟩:=keys_rows rel hk
  have R:RowsOk H m rows:=fun r hr=>⟨tr r hr,hl _ (by rw [←e2]; exact List.mem_map.mpr ⟨r,hr,rfl⟩)⟩
  have lr:rows.length=rs.length:=by rw [←e2,List.length_map]
  have hs:es.size=rows.length:=by
    have h1:=congrArg List.length el
    have h2:=congrArg List.length ef
    simp at h1 h2
    omega
  have ek:es.toList.map DictEntry.key=rows.map ST.rf:=by
    rw [el,ef,List.map_map]
    rfl
  have lrf:(refsOf rows).length=rows.length:=List.length_map ..
  refine PySem.W.kdl_call (ST.src_keys lo ex.1 da) (I.ok.hd hc) at_ (by rw [hs]; exact Nat.le_of_lt (small1000 (by omega))) fun h' tk acc c' kp e it=>?_
  have e1:acc.toList=(es.map DictEntry.key).toList:=list_of (by rw [Array.length_toList,Array.size_map]; exact it.1) fun j v e=>by
    rw [Array.getElem?_map]
    exact it.2 j v (by rw [←Array.getElem?_toList]; exact e)
  rw [Array.toList_map,ek] at e1
  refine ⟨.ref s.heap.objs.size,_,I.laid (t':=tk) kp (Nat.le_refl _) (show ObjOk X.prog X.w _ h' _ (.lst (refsOf rows)) from ⟨by rw [lrf]; exact Nat.le_of_lt (small1000 (by omega)),rows.map ST.rf,c',vals_rf rows,?_⟩),rfl,q _ rows I.fresh R e2⟩
  rw [←e1,Array.toArray_toList]
  exact e
end
theorem pj_nil {T:List (List Int)} {m:Nat} {k:List Int}:PJ T m [] k↔k=List.replicate m 0:=by
  have z0:∀c,(List.replicate m (0:Int)).getD c 0=0:=fun c=>by
    rw [List.getD_eq_getElem?_getD,List.getElem?_replicate]
    split <;> rfl
  constructor
  · intro h
    refine ext_getD (by rw [h.len,List.length_replicate]) fun c hc=>?_
    rw [h.len] at hc
    rw [z0,h.off c hc fun q hq=>absurd hq List.not_mem_nil]
  · rintro rfl
    exact ⟨List.length_replicate,fun c _ _=>z0 c,fun q hq=>absurd hq List.not_mem_nil⟩
theorem pj_next {T:List (List Int)} {m x y:Nat} {qs:List Nat} (hl:∀r∈T,r.length=m) (hx:∀c,HasB x c↔∃q∈qs,HasB q c) (k:List Int) :
    PJ T m (qs++[y]) k↔∃a,PJ T m qs a∧∃b∈T,(∀c,c < m→HasB (x&&&y) c→a.getD c 0=b.getD c 0)∧k=mixL b a y:=by
  constructor
  · intro h
    obtain ⟨b,hb,z⟩:=h.on y (List.mem_append_right _ (List.mem_singleton.mpr rfl))
    have lb:=hl b hb
    refine ⟨seenL k x,⟨(seen_len _ _).trans h.len,fun c hc w=>(seen_at h.len hc).2 fun hb=>?_,fun q hq=>?_⟩,b,hb,fun c hc hbc=>?_,ext_getD (by rw [mix_len,h.len,lb]) fun c hc=>?_⟩
    · obtain ⟨q,hq,hb'⟩:=(hx c).mp hb
      exact w q hq hb'
    · obtain ⟨t,ht,e⟩:=h.on q (List.mem_append_left _ hq)
      exact ⟨t,ht,fun c hc hb=>by rw [(seen_at h.len hc).1 ((hx c).mpr ⟨q,hq,hb⟩)]; exact e c hc hb⟩
    · obtain ⟨u1,u2⟩:=(hasb_and _ _ _).mp hbc
      rw [(seen_at h.len hc).1 u1,z c hc u2]
    · have hc:c < m:=by rw [←h.len]; exact hc
      by_cases hyc:HasB y c
      · rw [(mix_at lb hc).1 hyc,z c hc hyc]
      · rw [(mix_at lb hc).2 hyc]
        by_cases hxc:HasB x c
        · rw [(seen_at h.len hc).1 hxc]
        · rw [(seen_at h.len hc).2 hxc]
          refine h.off c hc fun q hq hb'=>?_
          rcases List.mem_append.mp hq with hq | hq
          · exact hxc ((hx c).mpr ⟨q,hq,hb'⟩)
          · rw [List.mem_singleton.mp hq] at hb'
            exact hyc hb'
  · rintro ⟨a,pa,b,hb,s,rfl⟩
    have lb:=hl b hb
    refine ⟨(mix_len _ _ _).trans lb,fun c hc z=>?_,fun q hq=>?_⟩
    · rw [(mix_at lb hc).2 (z y (List.mem_append_right _ (List.mem_singleton.mpr rfl)))]
      exact pa.off c hc fun q hq=>z q (List.mem_append_left _ hq)
    · rcases List.mem_append.mp hq with hq | hq
      · obtain ⟨t,ht,e⟩:=pa.on q hq
        refine ⟨t,ht,fun c hc hb'=>?_⟩
        rw [←e c hc hb']
        by_cases hyc:HasB y c
        · rw [(mix_at lb hc).1 hyc,s c hc ((hasb_and _ _ _).mpr ⟨(hx c).mpr ⟨q,hq,hb'⟩,hyc⟩)]
        · rw [(mix_at lb hc).2 hyc]
      · rw [List.mem_singleton.mp hq]
        exact ⟨b,hb,fun c hc hb'=>(mix_at lb hc).1 hb'⟩
theorem pj_less {T:List (List Int)} {m y:Nat} {qs:List Nat} {k:List Int} (full:∀c,c < m→∃q∈qs,HasB q c) (h:PJ T m (qs++[y]) k):PJ T m qs k:=
  ⟨h.len,fun c hc z=>by obtain ⟨q,hq,hb⟩:=full c hc; exact absurd hb (z q hq),fun q hq=>h.on q (List.mem_append_left _ hq)⟩
theorem pj_two {T:List RW} {m x y:Nat} {rs:List RD} {s:US} {k:List Int} (hl:∀r∈T,r.2.length=m) (ok:∀r∈rs,ROk T r.1 r.2.1 r.2.2) (hx:x < 2 ^ m) (cov:∀c,c < m→HasB x c∨HasB y c) (run:Run rs ⟨x&&&y,beginBs m (x&&&y),[]⟩ s) (safe:s.bs.find? (tornB x y)=none)
    (h:PJ (T.map (·.2)) m [x,y] k):k∈T.map (·.2):=by
  obtain ⟨a',ha',ea⟩:=h.on x (List.mem_cons_self ..)
  obtain ⟨b',hb',eb⟩:=h.on y (List.mem_cons_of_mem _ (List.mem_singleton.mpr rfl))
  obtain ⟨a,ha,rfl⟩:=List.mem_map.mp ha'
  obtain ⟨b,hb,rfl⟩:=List.mem_map.mp hb'
  have:=book_cut hl ok hx cov run safe ha hb fun c hc h1 h2=>by rw [←ea c hc h1,←eb c hc h2]
  have e:mixL a.2 b.2 x=k:=ext_getD (by rw [mix_len,hl a ha,h.len]) fun c hc=>by
    rw [mix_len,hl a ha] at hc
    by_cases hxc:HasB x c
    · rw [(mix_at (hl a ha) hc).1 hxc,ea c hc hxc]
    · rw [(mix_at (hl a ha) hc).2 hxc,eb c hc ((cov c hc).resolve_left hxc)]
  rw [←e]
  exact this
theorem ones_at {m b c:Nat} (hc:c < m):(HasB b c→(onesL m b).getD c 0=1)∧(¬HasB b c→(onesL m b).getD c 0=0):=by
  rw [ones_get hc]
  exact ⟨fun h=>if_pos (hasB_iff.mpr h),fun h=>if_neg fun z=>h (hasB_iff.mp z)⟩
theorem pj_torn {m x y b:Nat} (z0:b&&&x&&&y=0) (nx:b&&&x≠b) (ny:b&&&y≠b) (hb:b < 2 ^ m) (cov:∀c,c < m→HasB x c∨HasB y c) :
    PJ [List.replicate m 0,onesL m b] m [x,y] (mixL (List.replicate m 0) (onesL m b) x)∧mixL (List.replicate m 0) (onesL m b) x∉[List.replicate m (0:Int),onesL m b]:=by
  have l0:(List.replicate m (0:Int)).length=m:=List.length_replicate
  have zr:∀c,(List.replicate m (0:Int)).getD c 0=0:=fun c=>by
    rw [List.getD_eq_getElem?_getD,List.getElem?_replicate]
    split <;> rfl
  have sub:∀s:Nat,b&&&s≠b→∃c,c < m∧HasB b c∧¬HasB s c:=fun s h=>Classical.byContradiction fun no=>h (bits_eq fun c=>by
    rw [hasb_and]
    exact ⟨fun z=>z.1,fun z=>⟨z,Classical.byContradiction fun w=>no ⟨c,hasb_lt hb z,z,w⟩⟩⟩)
  have no:∀c,HasB b c→HasB x c→HasB y c→False:=fun c h1 h2 h3=>by
    have:HasB (b&&&x&&&y) c:=(hasb_and _ _ _).mpr ⟨(hasb_and _ _ _).mpr ⟨h1,h2⟩,h3⟩
    rw [z0] at this
    unfold HasB at this
    rw [Nat.zero_testBit] at this
    cases this
  refine ⟨⟨(mix_len _ _ _).trans l0,fun c hc z=>?_,fun q hq=>?_⟩,fun hm=>?_⟩
  · rcases cov c hc with h | h
    · exact absurd h (z x (List.mem_cons_self ..))
    · exact absurd h (z y (List.mem_cons_of_mem _ (List.mem_singleton.mpr rfl)))
  · rcases List.mem_cons.mp hq with rfl | hq
    · exact ⟨_,List.mem_cons_self ..,fun c hc h=>(mix_at l0 hc).1 h⟩
    · rw [List.mem_singleton.mp hq]
      refine ⟨_,List.mem_cons_of_mem _ (List.mem_singleton.mpr rfl),fun c hc h=>?_⟩
      by_cases hx:HasB x c
      · rw [(mix_at l0 hc).1 hx,zr,(ones_at hc).2 fun z=>no c z hx h]
      · exact (mix_at l0 hc).2 hx
  · rcases List.mem_cons.mp hm with e | hm
    · obtain ⟨c,hc,h1,h2⟩:=sub x nx
      have:=congrArg (fun r=>r.getD c 0) e
      rw [(mix_at l0 hc).2 h2,(ones_at hc).1 h1,zr] at this
      exact absurd this (by decide)
    · have e:=List.mem_singleton.mp hm
      obtain ⟨c,hc,h1,h2⟩:=sub y ny
      have:=congrArg (fun r=>r.getD c 0) e
      rw [(mix_at l0 hc).1 ((cov c hc).resolve_right h2),zr,(ones_at hc).1 h1] at this
      exact absurd this (by decide)
theorem shr_has (x i:Nat):decide (x / 2 ^ i&&&1=1)=hasB x i:=by unfold hasB; rw [Nat.and_one_is_mod]
def PairOk (T:List RW) (st:Bool) (x y:Nat) (a b:RW):Prop:=seenL a.2 x=seenL b.2 x→if st=true then seenL a.2 y=seenL b.2 y else ∃c∈T,c.2=mixL a.2 b.2 (x|||y)
theorem rok_pairs {T:List RW} {st:Bool} {x y:Nat}:ROk T st x y↔∀a∈T,∀b∈T,PairOk T st x y a b:=by
  unfold ROk PairOk
  cases st with
  | true=>exact Iff.rfl
  | false=>exact Iff.rfl
def spKeeps91 (K:PySem.W.Frag):Sp:=fun vs H Q _=>∃(tb r:Addr) (T:List RW) (m:Nat) (st:Bool) (x y:Nat),vs=[.ref tb,.ref r]∧SqL K H tb (refsOf T)∧RowsOk H m T∧T.length≤20∧m≤7∧RuleAt H r st x y∧∀(b:Bool) (H':Hp),Same H H'→(b=true↔ROk T st x y)→Q (.bl b) H'
def spPut91 (K:PySem.W.Frag):Sp:=fun vs H Q _=>∃(tb pl:Addr) (T:List RW) (ps:List Nat) (m:Nat),vs=[.ref tb,.ref pl]∧SqL K H tb (refsOf T)∧RowsOk H m T∧1≤m∧m≤7∧1≤T.length∧T.length≤6∧SqL K H pl (ps.map vN)∧(∀p∈ps,p < 2 ^ m)∧2≤ps.length∧ps.length≤4∧(∀c,c < m→∃q∈ps.take 2,HasB q c)∧
  ∀(l:Addr) (ws:List RW) (H':Hp),Same H H'→H l=none→H' l=some (.lst (refsOf ws))→RowsOk H' m ws→Asc (ws.map (·.2)) (ws.map (·.2))→ws.length≤36→(∀k,k∈ws.map (·.2)↔PJ (T.map (·.2)) m ps k)→Q (.ref l) H'
def spTable91 (K:PySem.W.Frag):Sp:=fun vs H Q _=>∃(st:Addr) (ns:List Int) (k m:Nat),vs=[.ref st,vN m]∧STF K H st ns k∧k≤1000∧ns.length≤63∧1≤m∧m≤7∧
  ∀(tb:Addr) (T:List RW) (k':Nat) (H':Hp),1≤T.length→T.length≤6→H tb=none→H' tb=some (.lst (refsOf T))→RowsOk H' m T→k'≤k + 300→STF K H' st ns k'→But st H H'→tb≠st→Q (.ref tb) H'
def spKept91 (K:PySem.W.Frag):Sp:=fun vs H Q _=>∃(st tb:Addr) (ns:List Int) (k m:Nat) (T:List RW),vs=[.ref st,vN m,.ref tb]∧STF K H st ns k∧k≤2000∧ns.length≤63∧1≤m∧m≤7∧H tb=some (.lst (refsOf T))∧tb≠st∧RowsOk H m T∧T.length≤20∧
  ∀(rs:List Rl) (rl:Addr) (k':Nat) (H':Hp),rs.length≤12→RulesAt H' m rs→(∀r∈rs,ROk T r.st r.x r.y)→H rl=none→rl≠st→H' rl=some (.lst (rs.map fun r=>V.ref r.r))→k'≤k + 200→STF K H' st ns k'→But st H H'→Q (.ref rl) H'
def spGains91 (K:PySem.W.Frag):Sp:=fun vs H Q _=>∃(tb rl pl:Addr) (T:List RW) (rs:List Rl) (ps:List Nat) (m:Nat),vs=[.ref tb,.ref rl,.ref pl]∧SqL K H tb (refsOf T)∧RowsOk H m T∧1≤m∧m≤7∧1≤T.length∧T.length≤6∧SqL K H rl (rs.map fun r=>V.ref r.r)∧RulesAt H m rs∧rs.length≤20∧SqL K H pl (ps.map vN)∧(∀p∈ps,p < 2 ^ m)∧2≤ps.length∧ps.length≤4∧(∀c,c < m→∃q∈ps.take 2,HasB q c)∧
  (∀r∈rs,ROk T r.st r.x r.y)∧(∃k,PJ (T.map (·.2)) m ps k∧k∉T.map (·.2))∧∀H',Same H H'→Q (.bl true) H'
def spTwo91 (K:PySem.W.Frag):Sp:=fun vs H Q _=>∃(tb rl:Addr) (T:List RW) (rs:List Rl) (x y m:Nat),vs=[vN m,.ref tb,.ref rl,vN x,vN y]∧SqL K H tb (refsOf T)∧RowsOk H m T∧1≤m∧m≤7∧1≤T.length∧T.length≤6∧SqL K H rl (rs.map fun r=>V.ref r.r)∧RulesAt H m rs∧rs.length≤20∧x < 2 ^ m∧y < 2 ^ m∧x|||y=2 ^ m - 1∧
  (∀r∈rs,ROk T r.st r.x r.y)∧∀H',Same H H'→Q (.bl true) H'
def spSev91 (K:PySem.W.Frag):Sp:=fun vs H Q _=>∃(tb rl pl:Addr) (T:List RW) (rs:List Rl) (ps:List Nat) (m:Nat),vs=[vN m,.ref tb,.ref rl,.ref pl]∧SqL K H tb (refsOf T)∧RowsOk H m T∧1≤m∧m≤7∧1≤T.length∧T.length≤6∧SqL K H rl (rs.map fun r=>V.ref r.r)∧RulesAt H m rs∧rs.length≤20∧SqL K H pl (ps.map vN)∧(∀p∈ps,p < 2 ^ m)∧2≤ps.length∧ps.length≤4∧(∀c,c < m→∃q∈ps.take 2,HasB q c)∧
  (∀r∈rs,ROk T r.st r.x r.y)∧∀H',Same H H'→Q (.bl true) H'
theorem full_of {m:Nat} {ps:List Nat} (hps:∀p∈ps,p < 2 ^ m) (h:∀c,c < m→∃q∈ps.take 2,HasB q c):ps.foldl (·|||·) 0=2 ^ m - 1:=bits_eq fun c=>by
  rw [or_bits,hasb_all]
  constructor
  · rintro (z | ⟨p,hp,z⟩)
    · exact absurd z (by unfold HasB; rw [Nat.zero_testBit]; decide)
    · exact hasb_lt (hps p hp) z
  · intro hc
    obtain ⟨q,hq,z⟩:=h c hc
    exact .inr ⟨q,List.mem_of_mem_take hq,z⟩
theorem same_books (a b:List (List Int)):Spec.same (.list (a.map rowD)) (.list (b.map rowD))=decide (a=b):=by
  simp only [Spec.same]
  exact sameAll_map same_rowD a b
theorem len_if (i:Nat):(if i=0 then 1 else if i=1 then 6 else 36)≤36:=by
  split
  · decide
  · split
    · decide
    · decide
structure PuI (H:Hp) (T:List RW) (m:Nat) (ps:List Nat) (i:Nat) (x:Nat) (ws:List RW) (H':Hp):Prop where
  s:Same H H'
  ok:RowsOk H' m ws
  nd:(ws.map (·.2)).Nodup
  len:ws.length≤if i=0 then 1 else if i=1 then 6 else 36
  x2:x < 2 ^ m
  hx:∀c,HasB x c↔∃q∈ps.take i,HasB q c
  mem:∀k,k∈ws.map (·.2)↔PJ (T.map (·.2)) m (ps.take i) k
end L2
namespace Own
open PySem L2
def top (i:Nat):Stmt:=PySem.Challenge.pw_splithouse_k91_whole_cuts_of_books.main.body.getD i (.Pass ⟨0,0,0,0⟩)
section
variable {P:Program} {w:World} {K:PySem.W.Frag} {mg:Str→Option Value} {base:Heap}
seal PySem.wpAny
abbrev sAlike9:Stmt:=top 36
theorem scAlike9:FnScope ["_law_one","_law_other","_law_some"] ["_law_one","_law_other","_law_some"] (defScope sAlike9):=⟨rfl,rfl,rfl,by decide +kernel,rfl,by decide +kernel,by decide +kernel⟩
theorem ok_alike91 {f:Addr} {fd:FuncData} (F:Fun K "_law_alike" "_law_alike" sAlike9 f fd) (zrange:mg "range" = none) (zlen:mg "len" = none):FnOk P w K mg base CX0 1 f fd ["_law_one","_law_other","_law_some"] (spAgree K):=by
  refine F.ok scAlike9 (fun vs H Q E h=>?_) (fun cdv A outer s H vs Q E hr h=>?_)
  · obtain ⟨a,b,r1,r2,x,rfl,_⟩:=h
    rfl
  · obtain ⟨a,b,r1,r2,x,rfl,ha,hb,hl,hl2,q⟩:=h
    refine ⟨_,(pss_one (ps_ret (pe_cmpR (op_eqLK (K:=K) rfl hr.units) (pe_comp (xs:=["_law_c"]) (cs ["_law_one","_law_other","_law_some"] (defScope sAlike9) rfl rfl (by decide +kernel)) rfl (pi_range1 rfl zrange (pa_cons (pe_callB (call_lenK (K:=K) rfl) (by rfl) zlen PySem.boot_len (pa_cons (pv 0) pa_nil)) pa_nil)) (fun _ _ _=>pg_name (i:=0) (show (["_law_c","_law_one","_law_other","_law_some"]:List Str).Nodup by decide +kernel) rfl (Or.inl rfl)) (fun _ _ _=>(pts_one (PW.pt (pw_and (pt_cmpR op_eqN (pe_op op_andN (pe_op op_shrN (pv 3) (pv 0)) pe_int) pe_int (nomark _)) (pw_and1 (pt_cmpR op_neI (pe_ix (ix_tupK (K:=K) rfl) (pv 1) (pv 0) (fun _ _=>rfl)) (pe_ix (ix_tupK (K:=K) rfl) (pv 2) (pv 0) (fun _ _=>rfl)) (nomark _))))))) (fun _ _ _=>(pv 0))) (pe_lst pa_nil) (nomark _)))),?_⟩
    have lm:(r1.map V.int).length=r1.length:=List.length_map ..
    refine ⟨_,rfl,a,_,rfl,.inr ha,_,rfl,(by omega),(by omega),lc_rangeN (k:=(r1.map V.int).length) (n:=1) (fun i acc H'=>H' = H∧acc=((List.range i).filter fun k=>hasB x k && !decide (r1.getD k 0=r2.getD k 0)).map vN) (by omega) ⟨rfl,rfl⟩ (fun i acc H' hi h=>?_) (fun i acc H' hi h=>?_) (fun acc H' h=>?_)⟩
    · rw [h.2,List.length_map]
      exact Nat.le_trans (List.length_filter_le _ _) (by simp)
    · obtain ⟨rfl,rfl⟩:=h
      rw [lm] at hi
      refine ⟨rfl,_,rfl,_,rfl,x,i,rfl,rfl,x / 2 ^ i,1,rfl,rfl,x / 2 ^ i&&&1,1,rfl,rfl,_,rfl,?_⟩
      rw [shr_has]
      refine ite2 (fun hc=>?_) (fun hc=>?_)
      · refine ⟨_,rfl,_,rfl,a,_,_,_,rfl,rfl,ha,atI_nat (j:=i) (getD_int hi),_,rfl,_,rfl,b,_,_,_,rfl,rfl,hb,atI_nat (j:=i) (getD_int (by omega)),_,_,rfl,rfl,_,rfl,?_⟩
        refine ite2 (fun hd=>?_) (fun hd=>?_)
        · refine ⟨_,rfl,rfl,?_⟩
          rw [filt_succ,if_pos (by rw [hc,Bool.true_and]; exact hd),List.map_append]
          rfl
        · refine ⟨rfl,?_⟩
          rw [filt_succ,if_neg (by rw [hc,Bool.true_and]; exact hd),List.append_nil]
      · refine iteF ⟨rfl,?_⟩
        rw [filt_succ,if_neg (by intro z; rw [Bool.and_eq_true] at z; exact hc z.1),List.append_nil]
    · obtain ⟨rfl,rfl⟩:=h
      intro d hd
      refine ⟨(by show 0≤sizeLine; exact Nat.zero_le _),fun e he=>?_⟩
      refine ⟨d,e,(offL r1 r2 x).map fun (k:Nat)=>(k:Int),[],rfl,rfl,SqL.of ?_,SqL.of upd_same,?_⟩
      · rw [upd_ne (ne_of_none upd_same he),upd_same,map_int,lm]
        rfl
      · have e1:decide ((offL r1 r2 x).map (fun (k:Nat)=>(k:Int))=[])=agreeL r1 r2 x:=by
          unfold agreeL
          rw [decide_eq_decide,List.map_eq_nil_iff]
        show Q (V.bl (decide _)) _
        rw [e1]
        exact q _ ((Same.new hd).trans (Same.new he))
abbrev sMix9:Stmt:=top 37
theorem scMix9:FnScope ["_law_one","_law_other","_law_some"] ["_law_one","_law_other","_law_some"] (defScope sMix9):=⟨rfl,rfl,rfl,by decide +kernel,rfl,by decide +kernel,by decide +kernel⟩
theorem ok_mix91 {f:Addr} {fd:FuncData} (F:Fun K "_law_mix" "_law_mix" sMix9 f fd) (zrange:mg "range" = none) (zlen:mg "len" = none) (ztuple:mg "tuple" = none):FnOk P w K mg base CX0 1 f fd ["_law_one","_law_other","_law_some"] (spMixed K):=by
  refine F.ok scMix9 (fun vs H Q E h=>?_) (fun cdv A outer s H vs Q E hr h=>?_)
  · obtain ⟨a,b,r1,r2,x,rfl,_⟩:=h
    rfl
  · obtain ⟨a,b,r1,r2,x,rfl,ha,hb,hl,hl2,q⟩:=h
    refine ⟨_,(pss_one (ps_ret (pe_callTy (call_tupleK (K:=K) rfl) (by rfl) ztuple PyProof.Rows.boot_tuple (pa_cons (pe_comp (xs:=["_law_c"]) (cs ["_law_one","_law_other","_law_some"] (defScope sMix9) rfl rfl (by decide +kernel)) rfl (pi_range1 rfl zrange (pa_cons (pe_callB (call_lenK (K:=K) rfl) (by rfl) zlen PySem.boot_len (pa_cons (pv 0) pa_nil)) pa_nil)) (fun _ _ _=>pg_name (i:=0) (show (["_law_c","_law_one","_law_other","_law_some"]:List Str).Nodup by decide +kernel) rfl (Or.inl rfl)) (fun _ _ _=>pts_nil) (fun _ _ _=>(pe_ix (ix_listK (K:=K) rfl) (pe_lst (pa_cons (pe_ix (ix_tupK (K:=K) rfl) (pv 2) (pv 0) (fun _ _=>rfl)) (pa_cons (pe_ix (ix_tupK (K:=K) rfl) (pv 1) (pv 0) (fun _ _=>rfl)) pa_nil))) (pe_op op_andN (pe_op op_shrN (pv 3) (pv 0)) pe_int) (fun _ _=>rfl)))) pa_nil)))),?_⟩
    have lm:(r1.map V.int).length=r1.length:=List.length_map ..
    refine ⟨_,rfl,a,_,rfl,.inr ha,_,rfl,(by omega),(by omega),lc_rangeN (k:=(r1.map V.int).length) (n:=1) (fun i acc H'=>Same H H'∧acc=((List.range i).map fun k=>if hasB x k=true then r1.getD k 0 else r2.getD k 0).map V.int) (by omega) ⟨Same.refl _,rfl⟩ (fun i acc H' hi h=>?_) (fun i acc H' hi h=>?_) (fun acc H' h=>?_)⟩
    · rw [h.2,List.length_map,List.length_map,List.length_range]; exact Nat.le_refl _
    · obtain ⟨s2,rfl⟩:=h
      rw [lm] at hi
      refine ⟨rfl,_,rfl,_,rfl,b,_,_,_,rfl,rfl,s2.tupS hb,atI_nat (j:=i) (getD_int (by omega)),_,rfl,_,rfl,a,_,_,_,rfl,rfl,s2.tupS ha,atI_nat (j:=i) (getD_int hi),(by show 2≤sizeLine; decide),fun l hl=>?_⟩
      have ev:([V.int (r2.getD i 0),V.int (r1.getD i 0)]:List V)[x / 2 ^ i&&&1]? = some (V.int (if hasB x i=true then r1.getD i 0 else r2.getD i 0)):=by
        have hb:hasB x i=decide (x / 2 ^ i % 2=1):=rfl
        rw [Nat.and_one_is_mod,hb]
        rcases Nat.mod_two_eq_zero_or_one (x / 2 ^ i) with z | z <;> rw [z] <;> rfl
      refine ⟨_,rfl,_,rfl,x,i,rfl,rfl,x / 2 ^ i,1,rfl,rfl,l,_,_,_,rfl,rfl,SqL.of upd_same,atI_nat ev,s2.trans (Same.new hl),?_⟩
      rw [List.range_succ,List.map_append,List.map_append]
      rfl
    · obtain ⟨s2,rfl⟩:=h
      intro d hd
      refine ⟨d,_,rfl,.inl ⟨SqL.of upd_same,fun t ht=>?_⟩⟩
      have ss:=s2.trans (Same.new (o:=.lst (((List.range (r1.map V.int).length).map fun k=>if hasB x k=true then r1.getD k 0 else r2.getD k 0).map V.int)) hd)
      refine q t _ (ss.trans (Same.new ht)) (ss.free ht) ?_
      rw [upd_same,lm]
      rfl
abbrev sKeeps9:Stmt:=top 38
theorem scKeeps9:FnScope ["_law_table_here","_law_rule","_law_word","_law_left","_law_right","_law_one","_law_other"] ["_law_table_here","_law_rule"] (defScope sKeeps9):=⟨rfl,rfl,rfl,by decide +kernel,rfl,by decide +kernel,by decide +kernel⟩
theorem ok_keeps91 {f fLA fLX:Addr} {fd fdLA fdLX:FuncData} (F:Fun K "_law_keeps" "_law_keeps" sKeeps9 f fd) (GLA:FnOk P w K mg base CX0 1 fLA fdLA ["_law_one","_law_other","_law_some"] (spAgree K)) (mLA:mg "_law_alike" = some (.ref fLA)) (kLA:PySem.W.keepIn K (.ref fLA)=true) (bLA:Binds K fdLA ["_law_one","_law_other","_law_some"] []) (GLX:FnOk P w K mg base CX0 1 fLX fdLX ["_law_one","_law_other","_law_some"] (spMixed K)) (mLX:mg "_law_mix" = some (.ref fLX)) (kLX:PySem.W.keepIn K (.ref fLX)=true) (bLX:Binds K fdLX ["_law_one","_law_other","_law_some"] []):FnOk P w K mg base CX0 2 f fd ["_law_table_here","_law_rule"] (spKeeps91 K):=by
  refine F.ok scKeeps9 (fun vs H Q E h=>?_) (fun cdv A outer s H vs Q E hr h=>?_)
  · obtain ⟨tb,r,T,m,st,x,y,rfl,_⟩:=h
    rfl
  · obtain ⟨tb,r,T,m,st,x,y,rfl,hT,R,lT,m7,hR,q⟩:=h
    have nd:=scKeeps9.nd
    have hr1:Room 1 _:=hr.mono (by decide)
    have lrf:(refsOf T).length=T.length:=List.length_map ..
    have q0:∀{H':Hp} {a b:RW},Same H H'→a∈T→b∈T→¬PairOk T st x y a b→Q (.bl false) H':=fun s' ha hb no=>q false _ s' ⟨(fun z=>by cases z),fun z=>absurd (rok_pairs.mp z _ ha _ hb) no⟩
    refine ⟨_,(pss_cons (ps_asg (pv 1) (pg_tup rfl (pgs_cons (pg_name (i:=2) nd rfl (Or.inl rfl)) (pgs_cons (pg_name (i:=3) nd rfl (Or.inl rfl)) (pgs_cons (pg_name (i:=4) nd rfl (Or.inl rfl)) pgs_nil)))))
      (pss_cons (ps_for PassesOwn.never rfl (pi_listK (K:=K) rfl (pv 0)) (pg_name (i:=5) nd rfl (Or.inl rfl)) (pss_one (ps_for PassesOwn.never rfl (pi_listK (K:=K) rfl (pv 0)) (pg_name (i:=6) nd rfl (Or.inl rfl)) (pss_one (ps_if (pt_val (pe_call GLA hr1 rfl mLA kLA bLA .nil pass0 (pa_cons (pv 5) (pa_cons (pv 6) (pa_cons (pv 3) pa_nil))))) (pss_cons (ps_if (PW.pt (pw_and (pt_cmpR op_eq (pv 2) pe_str (nomark _)) (pw_and1 (pt_not (pt_val (pe_call GLA hr1 rfl mLA kLA bLA .nil pass0 (pa_cons (pv 5) (pa_cons (pv 6) (pa_cons (pv 4) pa_nil))))))))) (pss_one (ps_ret pe_bl)) pss_nil)
      (pss_one (ps_if (PW.pt (pw_and (pt_cmpR op_eq (pv 2) pe_str (nomark _)) (pw_and1 (pt_cmpR (op_notInTK (K:=K) rfl hr.units) (pe_call GLX hr1 rfl mLX kLX bLX .nil pass0 (pa_cons (pv 5) (pa_cons (pv 6) (pa_cons (pe_op op_orN (pv 3) (pv 4)) pa_nil)))) (pv 0) (by rfl))))) (pss_one (ps_ret pe_bl)) pss_nil))) pss_nil)))))
      (pss_one (ps_ret pe_bl)))),?_⟩
    refine ⟨_,rfl,r,_,rfl,SqT.of hR,rfl,_,_,rfl,_,_,rfl,_,_,rfl,rfl,?_⟩
    refine ⟨_,rfl,tb,rfl,⟨_,hT⟩,for_list (xs:=refsOf T) (fun i σ H2=>(∃v5 v6,σ=[some (.ref tb),some (.ref r),some (.str (wordS st)),some (vN x),some (vN y),v5,v6])∧Same H H2∧∀a∈T.take i,∀b∈T,PairOk T st x y a b) ⟨⟨none,none,rfl⟩,Same.refl _,fun a h=>absurd h (by rw [List.take_zero]; exact List.not_mem_nil)⟩ (fun i σ H2 _ h=>h.2.1.seq hT) ?_ ?_⟩
    · rintro i v σ H2 hv ⟨⟨v5,v6,rfl⟩,s2,done⟩
      unfold refsOf at hv
      rw [List.getElem?_map] at hv
      cases er:T[i]? with
      | none=>rw [er] at hv; cases hv
      | some a=>
        rw [er] at hv
        obtain rfl:=(Option.some.inj hv).symm
        have am:=List.mem_of_getElem? er
        refine ⟨_,rfl,tb,rfl,⟨_,s2.seq hT⟩,for_list (xs:=refsOf T) (fun j σ H3=>(∃v6,σ=[some (.ref tb),some (.ref r),some (.str (wordS st)),some (vN x),some (vN y),some (.ref a.1),v6])∧Same H H3∧∀b∈T.take j,PairOk T st x y a b) ⟨⟨_,rfl⟩,s2,fun b h=>absurd h (by rw [List.take_zero]; exact List.not_mem_nil)⟩ (fun j σ H3 _ h=>h.2.1.seq hT) ?_ ?_⟩
        · rintro j v σ H3 hv ⟨⟨v6',rfl⟩,s3,dn⟩
          unfold refsOf at hv
          rw [List.getElem?_map] at hv
          cases eb:T[j]? with
          | none=>rw [eb] at hv; cases hv
          | some b=>
            rw [eb] at hv
            obtain rfl:=(Option.some.inj hv).symm
            have bm:=List.mem_of_getElem? eb
            have la:=(R a am).2
            have lb:=(R b bm).2
            have fin:∀{H4:Hp},Same H H4→PairOk T st x y a b→(∃v6,([some (.ref tb),some (.ref r),some (.str (wordS st)),some (vN x),some (vN y),some (.ref a.1),some (.ref b.1)]:St)=[some (.ref tb),some (.ref r),some (.str (wordS st)),some (vN x),some (vN y),some (.ref a.1),v6])∧Same H H4∧∀b∈T.take (j + 1),PairOk T st x y a b:=fun s4 ok=>by
              refine ⟨⟨_,rfl⟩,s4,fun b' hb'=>?_⟩
              rw [List.take_succ,eb] at hb'
              rcases List.mem_append.mp hb' with h | h
              · exact dn b' h
              · rw [show b' = b by simpa using h]; exact ok
            refine ⟨_,rfl,_,rfl,_,rfl,a.1,b.1,a.2,b.2,x,rfl,SqT.of (s3 _ _ (R a am).1),SqT.of (s3 _ _ (R b bm).1),by omega,by omega,fun H4 s4=>⟨_,rfl,?_⟩⟩
            have s04:=s3.trans s4
            refine ite2 (fun hc=>?_) (fun hc=>?_)
            · have sx:=(agree_seen la lb).mp hc
              cases st with
              | true=>
                refine ⟨_,rfl,rfl,_,rfl,ite2 (fun _=>?_) (fun z=>absurd (decide_eq_true rfl) z)⟩
                refine ⟨_,rfl,_,rfl,_,rfl,a.1,b.1,a.2,b.2,y,rfl,SqT.of (s04 _ _ (R a am).1),SqT.of (s04 _ _ (R b bm).1),by omega,by omega,fun H5 s5=>⟨_,rfl,?_⟩⟩
                have s05:=s04.trans s5
                cases c:agreeL a.2 b.2 y with
                | false=>
                  refine iteT (q0 s05 am bm fun ok=>?_)
                  have z:=(agree_seen la lb).mpr (ok sx)
                  rw [c] at z
                  cases z
                | true=>
                  refine iteF ⟨_,rfl,rfl,_,rfl,ite2 (fun z=>absurd (of_decide_eq_true z) (by intro z; injection z with z; revert z; decide)) (fun _=>?_)⟩
                  exact iteF (fin s05 fun _=>(agree_seen la lb).mp c)
              | false=>
                refine ⟨_,rfl,rfl,_,rfl,ite2 (fun z=>absurd (of_decide_eq_true z) (by intro z; injection z with z; revert z; decide)) (fun _=>?_)⟩
                refine iteF ⟨_,rfl,rfl,_,rfl,ite2 (fun _=>?_) (fun z=>absurd (decide_eq_true rfl) z)⟩
                refine ⟨_,rfl,_,rfl,_,rfl,_,rfl,x,y,rfl,rfl,a.1,b.1,a.2,b.2,x|||y,rfl,SqT.of (s04 _ _ (R a am).1),SqT.of (s04 _ _ (R b bm).1),by omega,by omega,fun p H5 s5 hp hp5=>?_⟩
                have s05:=s04.trans s5
                refine ⟨_,rfl,p,tb,mixL a.2 b.2 (x|||y),T,rfl,rfl,hp5,s05.seq hT,(fun w hw=>s05 _ _ (R w hw).1),fun k hk=>⟨_,rfl,?_⟩⟩
                cases k with
                | true=>exact iteT (q0 s05 am bm fun ok=>by
                    obtain ⟨c,hc',ec⟩:=ok sx
                    exact hk.mp rfl c hc' ec)
                | false=>exact iteF (fin s05 fun _=>Classical.byContradiction fun no=>by
                    have:=hk.mpr fun c hc' ec=>no ⟨c,hc',ec⟩
                    cases this)
            · exact fin s04 fun z=>absurd ((agree_seen la lb).mpr z) hc
        · rintro σ H3 ⟨⟨v6',rfl⟩,s3,dn⟩
          rw [lrf,List.take_length] at dn
          refine ⟨⟨_,_,rfl⟩,s3,fun a' ha'=>?_⟩
          rw [List.take_succ,er] at ha'
          rcases List.mem_append.mp ha' with h | h
          · exact done a' h
          · rw [show a' = a by simpa using h]; exact dn
    · rintro σ H2 ⟨⟨v5,v6,rfl⟩,s2,done⟩
      rw [lrf,List.take_length] at done
      exact q true H2 s2 ⟨fun _=>rok_pairs.mpr done,fun _=>rfl⟩
end
end Own
namespace Own
open PySem L2
section
variable {P:Program} {w:World} {K:PySem.W.Frag} {mg:Str→Option Value} {base:Heap}
seal PySem.wpAny
abbrev sPut9:Stmt:=top 39
theorem scPut9:FnScope ["_law_table_here","_law_parts","_law_joint","_law_rows","_law_part","_law_fresh","_law_row","_law_other"] ["_law_table_here","_law_parts"] (defScope sPut9):=⟨rfl,rfl,rfl,by decide +kernel,rfl,by decide +kernel,by decide +kernel⟩
theorem ok_put91 {f fLA fLX:Addr} {fd fdLA fdLX:FuncData} (F:Fun K "_law_put" "_law_put" sPut9 f fd) (GLA:FnOk P w K mg base CX0 1 fLA fdLA ["_law_one","_law_other","_law_some"] (spAgree K)) (mLA:mg "_law_alike" = some (.ref fLA)) (kLA:PySem.W.keepIn K (.ref fLA)=true) (bLA:Binds K fdLA ["_law_one","_law_other","_law_some"] []) (GLX:FnOk P w K mg base CX0 1 fLX fdLX ["_law_one","_law_other","_law_some"] (spMixed K)) (mLX:mg "_law_mix" = some (.ref fLX)) (kLX:PySem.W.keepIn K (.ref fLX)=true) (bLX:Binds K fdLX ["_law_one","_law_other","_law_some"] []) (ztuple:mg "tuple" = none) (zlist:mg "list" = none) (zsorted:mg "sorted" = none):FnOk P w K mg base CX0 2 f fd ["_law_table_here","_law_parts"] (spPut91 K):=by
  refine F.ok scPut9 (fun vs H Q E h=>?_) (fun cdv A outer s H vs Q E hr h=>?_)
  · obtain ⟨tb,pl,T,ps,m,rfl,_⟩:=h
    rfl
  · obtain ⟨tb,pl,T,ps,m,rfl,hT,R,m1,m7,lT1,lT,hpl,hps,lp2,lp4,cov,q⟩:=h
    have nd:=scPut9.nd
    have hr1:Room 1 _:=hr.mono (by decide)
    have hl:∀r∈T.map (·.2),r.length=m:=fun r h=>by
      obtain ⟨r',h1,rfl⟩:=List.mem_map.mp h
      exact (R r' h1).2
    have lrf:(refsOf T).length=T.length:=List.length_map ..
    have lpm:(ps.map vN).length=ps.length:=List.length_map ..
    obtain ⟨t0,e0⟩:∃t,T[0]? = some t:=⟨_,List.getElem?_eq_getElem (show 0 < T.length by omega)⟩
    have t0m:=List.mem_of_getElem? e0
    obtain ⟨h0,l0⟩:=R t0 t0m
    have l0m:(t0.2.map V.int).length=m:=by rw [List.length_map,l0]
    refine ⟨_,(pss_cons (ps_set (i:=2) nd rfl (Or.inl rfl) pe_int)
      (pss_cons (ps_set (i:=3) nd rfl (Or.inl rfl) (pe_lst (pa_cons (pe_callTy (call_tupleK (K:=K) rfl) (by rfl) ztuple PyProof.Rows.boot_tuple (pa_cons (pe_comp (xs:=["_law_number"]) (cs ["_law_table_here","_law_parts","_law_joint","_law_rows","_law_part","_law_fresh","_law_row","_law_other"] (defScope sPut9) rfl rfl (by decide +kernel)) rfl (pi_tupK (K:=K) rfl (pe_ix (ix_listK (K:=K) rfl) (pv 0) pe_int (fun _ _=>rfl))) (fun _ _ _=>pg_name (i:=0) (show (["_law_number","_law_table_here","_law_parts","_law_joint","_law_rows","_law_part","_law_fresh","_law_row","_law_other"]:List Str).Nodup by decide +kernel) rfl (Or.inl rfl)) (fun _ _ _=>pts_nil) (fun _ _ _=>pe_int)) pa_nil)) pa_nil)))
      (pss_cons (ps_for PassesOwn.never rfl (pi_listK (K:=K) rfl (pv 1)) (pg_name (i:=4) nd rfl (Or.inl rfl)) (pss_cons (ps_set (i:=5) nd rfl (Or.inl rfl) pe_dnewT)
      (pss_cons (ps_for PassesOwn.never rfl (pi_listK (K:=K) rfl (pv 3)) (pg_name (i:=6) nd rfl (Or.inl rfl)) (pss_one (ps_for PassesOwn.never rfl (pi_listK (K:=K) rfl (pv 0)) (pg_name (i:=7) nd rfl (Or.inl rfl)) (pss_one (ps_if (pt_val (pe_call GLA hr1 rfl mLA kLA bLA .nil pass0 (pa_cons (pv 6) (pa_cons (pv 7) (pa_cons (pe_op op_andN (pv 2) (pv 4)) pa_nil))))) (pss_one (ps_dput (hu_of hr) (pv 5) (pe_call GLX hr1 rfl mLX kLX bLX .nil pass0 (pa_cons (pv 7) (pa_cons (pv 6) (pa_cons (pv 4) pa_nil)))) pe_bl rfl)) pss_nil)))))
      (pss_cons (ps_set (i:=3) nd rfl (Or.inl rfl) (pe_callTy (call_listD rfl) (by rfl) zlist PyProof.Rows.boot_list (pa_cons (pv 5) pa_nil)))
      (pss_one (ps_set (i:=2) nd rfl (Or.inl rfl) (pe_op op_orN (pv 2) (pv 4))))))))
      (pss_one (ps_ret (pe_callB (call_sortedR (K:=K) rfl) (by rfl) zsorted PyProof.Rows.boot_sorted (pa_cons (pv 3) pa_nil))))))),?_⟩
    refine ⟨_,rfl,tb,_,_,_,rfl,rfl,hT,atI_nat (j:=0) (v:=V.ref t0.1) (by unfold refsOf; rw [List.getElem?_map,e0]; rfl),t0.1,rfl,⟨_,SqT.of h0⟩,lc_tup (K:=K) (xs:=t0.2.map V.int) (fun j acc H2=>H2=H∧acc=(List.replicate j (0:Int)).map V.int) (by omega) ⟨rfl,rfl⟩ (fun j acc H2 hj h=>?_) (fun j v acc H2 hv h=>?_) (fun acc H2 h=>?_)⟩
    · obtain ⟨rfl,rfl⟩:=h
      exact ⟨SqT.of h0,by rw [List.length_map,List.length_replicate]; exact Nat.le_refl _⟩
    · obtain ⟨rfl,rfl⟩:=h
      refine ⟨rfl,rfl,?_⟩
      rw [List.replicate_succ',List.map_append]
      rfl
    obtain ⟨rfl,rfl⟩:=h
    rw [l0m]
    intro zl hzl
    refine ⟨zl,_,rfl,.inl ⟨SqL.of upd_same,fun zt hzt=>?_⟩⟩
    have sA:=(Same.new (o:=.lst ((List.replicate m (0:Int)).map V.int)) hzl).trans (Same.new (o:=.tup ((List.replicate m (0:Int)).map V.int)) hzt)
    have hztA:(upd (upd H2 zl (.lst ((List.replicate m (0:Int)).map V.int))) zt (.tup ((List.replicate m (0:Int)).map V.int))) zt=some (.tup ((List.replicate m (0:Int)).map V.int)):=upd_same
    generalize upd (upd H2 zl (.lst ((List.replicate m (0:Int)).map V.int))) zt (.tup ((List.replicate m (0:Int)).map V.int))=HA at sA hztA
    refine ⟨(by show 1≤sizeLine; decide),fun l0a hl0=>?_⟩
    have sB:=Same.new (o:=.lst [V.ref zt]) hl0
    have hl0B:(upd HA l0a (.lst [V.ref zt])) l0a=some (.lst (refsOf [(zt,List.replicate m (0:Int))])):=upd_same
    have J0:PuI H2 T m ps 0 0 [(zt,List.replicate m (0:Int))] (upd HA l0a (.lst [V.ref zt])):=by
      refine ⟨sA.trans sB,fun r hr0=>?_,(by simp),Nat.le_refl _,Nat.two_pow_pos m,fun c=>⟨fun z=>absurd z (by unfold HasB; rw [Nat.zero_testBit]; decide),fun ⟨q',hq,_⟩=>absurd hq (by rw [List.take_zero]; exact List.not_mem_nil)⟩,fun k=>?_⟩
      · rw [List.mem_singleton.mp hr0]
        exact ⟨sB _ _ hztA,List.length_replicate⟩
      · rw [List.take_zero,pj_nil]
        exact List.mem_singleton
    generalize upd HA l0a (.lst [V.ref zt])=HB at hl0B J0
    refine ⟨_,rfl,pl,rfl,⟨_,J0.s.seq hpl⟩,for_list (K:=K) (xs:=ps.map vN) (fun i σ H'=>∃(x:Nat) (l:Addr) (ws:List RW) (v4 v5 v6 v7:Option V),σ=[some (.ref tb),some (.ref pl),some (vN x),some (.ref l),v4,v5,v6,v7]∧H' l=some (.lst (refsOf ws))∧PuI H2 T m ps i x ws H') ⟨0,l0a,_,_,_,_,_,rfl,hl0B,J0⟩ (fun i σ H' _ h=>by obtain ⟨_,_,_,_,_,_,_,_,_,J⟩:=h; exact J.s.seq hpl) ?_ ?_⟩
    · clear J0 hl0B sB hl0 hztA sA hzt hzl
      rintro i v σ H3 hv ⟨x,l,ws,v4,v5,v6,v7,rfl,hws,J⟩
      have hi:i < ps.length:=by rw [←lpm]; exact (List.getElem?_eq_some_iff.mp hv).1
      rw [List.getElem?_map] at hv
      cases ey:ps[i]? with
      | none=>rw [ey] at hv; cases hv
      | some y=>
        rw [ey] at hv
        obtain rfl:=(Option.some.inj hv).symm
        have hy:=hps y (List.mem_of_getElem? ey)
        have x2:=J.x2
        have lw:ws.length≤36:=Nat.le_trans J.len (len_if i)
        have lrw:(refsOf ws).length=ws.length:=List.length_map ..
        have bound:∀{ks:List (List Int)},ks.Nodup→(∀k∈ks,∃a∈ws,∃b∈T,agreeL a.2 b.2 (x&&&y)=true∧k=mixL b.2 a.2 y)→ks.length≤ws.length * T.length:=fun {ks} n1 sub=>by
          have h1:=nd_len (b:=ws.flatMap fun a=>T.map fun b=>mixL b.2 a.2 y) n1 fun k hk=>by
            obtain ⟨a,ha,b,hb,_,e⟩:=sub k hk
            exact List.mem_flatMap.mpr ⟨a,ha,List.mem_map.mpr ⟨b,hb,e.symm⟩⟩
          refine Nat.le_trans h1 ?_
          rw [List.length_flatMap]
          simp only [List.length_map,List.map_const',List.sum_replicate_nat]
          exact Nat.le_refl _
        have b216:ws.length * T.length≤216:=Nat.le_trans (Nat.mul_le_mul lw lT) (by decide)
        intro d hd
        have sD:=Same.new (o:=.dT []) hd
        have J1s:=J.s.trans sD
        have hdH:=J.s.free hd
        refine ⟨_,rfl,l,rfl,⟨_,SqL.of (sD _ _ hws)⟩,for_list (xs:=refsOf ws) (fun i σ H4=>(∃v6 v7,σ=[some (.ref tb),some (.ref pl),some (vN x),some (.ref l),some (vN y),some (.ref d),v6,v7])∧Same H3 H4∧∃kvs ks,H4 d=some (.dT kvs)∧kvs.map (·.1)=ks.map tks∧ks.Nodup∧(∀k,k∈ks↔∃a∈ws.take i,∃b∈T,agreeL a.2 b.2 (x&&&y)=true∧k=mixL b.2 a.2 y))
          ⟨⟨_,_,rfl⟩,sD,[],[],upd_same,rfl,List.nodup_nil,fun k=>⟨(fun h=>by cases h),fun ⟨a,h,_⟩=>by cases h⟩⟩ (fun i σ H4 _ h=>SqL.of (h.2.1 _ _ hws)) ?_ ?_⟩
        · rintro i' v σ H4 hv ⟨⟨v6',v7',rfl⟩,s4,kvs,ks,hd4,ek,nk,mk⟩
          unfold refsOf at hv
          rw [List.getElem?_map] at hv
          cases er:ws[i']? with
          | none=>rw [er] at hv; cases hv
          | some a=>
            rw [er] at hv
            obtain rfl:=(Option.some.inj hv).symm
            have am:=List.mem_of_getElem? er
            have s04:=J.s.trans s4
            refine ⟨_,rfl,tb,rfl,⟨_,s04.seq hT⟩,for_list (xs:=refsOf T) (fun j σ H5=>(∃v7,σ=[some (.ref tb),some (.ref pl),some (vN x),some (.ref l),some (vN y),some (.ref d),some (.ref a.1),v7])∧Same H3 H5∧∃kvs ks,H5 d=some (.dT kvs)∧kvs.map (·.1)=ks.map tks∧ks.Nodup∧(∀k,k∈ks↔(∃a∈ws.take i',∃b∈T,agreeL a.2 b.2 (x&&&y)=true∧k=mixL b.2 a.2 y)∨∃b∈T.take j,agreeL a.2 b.2 (x&&&y)=true∧k=mixL b.2 a.2 y))
              ⟨⟨_,rfl⟩,s4,kvs,ks,hd4,ek,nk,fun k=>by rw [mk k]; exact ⟨.inl,fun h=>h.elim id fun ⟨b,hb,_⟩=>by cases hb⟩⟩ (fun j σ H5 _ h=>(J.s.trans h.2.1).seq hT) ?_ ?_⟩
            · rintro j v σ H5 hv ⟨⟨v7'',rfl⟩,s5,kvs3,ks3,hd3,ek3,nk3,mk3⟩
              unfold refsOf at hv
              rw [List.getElem?_map] at hv
              cases eb:T[j]? with
              | none=>rw [eb] at hv; cases hv
              | some b=>
                rw [eb] at hv
                obtain rfl:=(Option.some.inj hv).symm
                have bm:=List.mem_of_getElem? eb
                have s05:=J.s.trans s5
                have aT:∀{HX:Hp},Same H3 HX→HX a.1=some (.tup (a.2.map V.int)):=fun sX=>sX _ _ (J.ok a am).1
                have la:=(J.ok a am).2
                have lb:=(R b bm).2
                have l256:kvs3.length≤216:=by
                  have:=bound nk3 (fun k hk=>by
                    rcases (mk3 k).mp hk with ⟨a',h1,h2⟩ | ⟨b',h1,h2⟩
                    · exact ⟨a',List.mem_of_mem_take h1,h2⟩
                    · exact ⟨a,am,b',List.mem_of_mem_take h1,h2⟩)
                  have h3:=congrArg List.length ek3
                  rw [List.length_map,List.length_map] at h3
                  omega
                refine ⟨_,rfl,_,rfl,_,rfl,_,rfl,x,y,rfl,rfl,a.1,b.1,a.2,b.2,x&&&y,rfl,SqT.of (aT s5),SqT.of (s05 _ _ (R b bm).1),by omega,by omega,fun H6 s6=>⟨_,rfl,?_⟩⟩
                have s36:=s5.trans s6
                have tk:∀k,(∃b'∈T.take (j + 1),agreeL a.2 b'.2 (x&&&y)=true∧k=mixL b'.2 a.2 y)↔(∃b'∈T.take j,agreeL a.2 b'.2 (x&&&y)=true∧k=mixL b'.2 a.2 y)∨(agreeL a.2 b.2 (x&&&y)=true∧k=mixL b.2 a.2 y):=fun k=>by
                  rw [List.take_succ,eb]
                  constructor
                  · rintro ⟨b',hb',e⟩
                    rcases List.mem_append.mp hb' with h | h
                    · exact .inl ⟨b',h,e⟩
                    · rw [show b' = b by simpa using h] at e
                      exact .inr e
                  · rintro (⟨b',hb',e⟩ | e)
                    · exact ⟨b',List.mem_append_left _ hb',e⟩
                    · exact ⟨b,by simp,e⟩
                refine ite2 (fun hc=>?_) (fun hc=>?_)
                · refine ⟨_,rfl,_,rfl,_,rfl,_,rfl,b.1,a.1,b.2,a.2,y,rfl,SqT.of ((J.s.trans s36) _ _ (R b bm).1),SqT.of (aT s36),by omega,by omega,fun p H7 s7 hp hp7=>?_⟩
                  have hd7:=s7 _ _ (s6 _ _ hd3)
                  refine ⟨d,_,rfl,DPut.t (k:=tks (mixL b.2 a.2 y)) hd7 (by rw [tks_kV]; exact hp7) (small1000 (by omega)),?_⟩
                  obtain ⟨ks',e1,n1,m1'⟩:=putK_keys (k:=mixL b.2 a.2 y) (v:=V.bl true) ek3 nk3
                  refine ⟨⟨_,rfl⟩,fun c o e=>?_,_,ks',upd_same,e1,n1,fun k=>?_⟩
                  · rw [upd_ne (ne_of_none e hd)]
                    exact s7 _ _ (s36 c o e)
                  · rw [m1' k,mk3 k,tk k,or_assoc]
                    simp [hc]
                · refine ⟨⟨_,rfl⟩,s36,kvs3,ks3,s6 _ _ hd3,ek3,nk3,fun k=>?_⟩
                  rw [mk3 k,tk k]
                  simp [hc]
            · rintro σ H5 ⟨⟨v7'',rfl⟩,s5,kvs3,ks3,hd3,ek3,nk3,mk3⟩
              rw [lrf,List.take_length] at mk3
              refine ⟨⟨_,_,rfl⟩,s5,kvs3,ks3,hd3,ek3,nk3,fun k=>?_⟩
              rw [mk3 k,List.take_succ,er]
              constructor
              · rintro (⟨a',h1,h2⟩ | h2)
                · exact ⟨a',List.mem_append_left _ h1,h2⟩
                · exact ⟨a,by simp,h2⟩
              · rintro ⟨a',h1,h2⟩
                rcases List.mem_append.mp h1 with h | h
                · exact .inl ⟨a',h,h2⟩
                · rw [show a' = a by simpa using h] at h2
                  exact .inr h2
        · rintro σ H4 ⟨⟨v6',v7',rfl⟩,s4,kvs,ks,hd4,ek,nk,mk⟩
          rw [lrw,List.take_length] at mk
          have lk:ks.length≤216:=Nat.le_trans (bound nk fun k hk=>(mk k).mp hk) b216
          have et:ps.take (i + 1)=ps.take i++[y]:=by rw [List.take_succ,ey]; rfl
          have mem:∀k,k∈ks↔PJ (T.map (·.2)) m (ps.take (i + 1)) k:=fun k=>by
            rw [mk k,et,pj_next hl J.hx]
            constructor
            · rintro ⟨a,ha,b,hb,ag,e⟩
              refine ⟨a.2,(J.mem _).mp (List.mem_map.mpr ⟨a,ha,rfl⟩),b.2,List.mem_map.mpr ⟨b,hb,rfl⟩,fun c hc hbc=>?_,e⟩
              exact (seen_iff (J.ok a ha).2 (R b hb).2).mp ((agree_seen (J.ok a ha).2 (R b hb).2).mp ag) c hc (hasB_iff.mpr hbc)
            · rintro ⟨a',pa,b',hb',al,e⟩
              obtain ⟨a,ha,rfl⟩:=List.mem_map.mp ((J.mem _).mpr pa)
              obtain ⟨b,hb,rfl⟩:=List.mem_map.mp hb'
              exact ⟨a,ha,b,hb,(agree_seen (J.ok a ha).2 (R b hb).2).mpr ((seen_iff (J.ok a ha).2 (R b hb).2).mpr fun c hc hbc=>al c hc (hasB_iff.mp hbc)),e⟩
          refine ⟨_,rfl,d,m,kvs,ks,rfl,hd4,ek,(fun r hr0=>((mem r).mp hr0).len),by omega,fun l5 rows hl5 R5 e5=>?_⟩
          have s5:=Same.new (o:=.lst (refsOf rows)) hl5
          refine ⟨_,rfl,_,rfl,x,y,rfl,rfl,?_⟩
          refine ⟨x|||y,l5,rows,_,_,_,_,rfl,upd_same,(J.s.trans s4).trans s5,R5.same s5,by rw [e5]; exact nk,?_,Nat.or_lt_two_pow x2 hy,fun c=>?_,fun k=>by rw [e5]; exact mem k⟩
          · have lrows:rows.length=ks.length:=by rw [←e5,List.length_map]
            rw [lrows,if_neg (by omega)]
            have h1:=bound nk fun k hk=>(mk k).mp hk
            by_cases z:i=0
            · have jl:=J.len
              rw [z,if_pos rfl] at jl
              rw [if_pos (by omega)]
              exact Nat.le_trans h1 (Nat.le_trans (Nat.mul_le_mul jl lT) (by decide))
            · rw [if_neg (by omega)]
              by_cases z1:i=1
              · have jl:=J.len
                rw [z1,if_neg (by decide),if_pos rfl] at jl
                exact Nat.le_trans h1 (Nat.le_trans (Nat.mul_le_mul jl lT) (by decide))
              · refine Nat.le_trans (nd_len (b:=ws.map (·.2)) nk fun k hk=>?_) (by rw [List.length_map]; exact lw)
                have hk':=(mem k).mp hk
                rw [et] at hk'
                refine (J.mem k).mpr (pj_less (fun c hc=>?_) hk')
                obtain ⟨q',hq,hb⟩:=cov c hc
                refine ⟨q',?_,hb⟩
                have:ps.take 2=(ps.take i).take 2:=by rw [List.take_take,Nat.min_eq_left (by omega)]
                rw [this] at hq
                exact List.mem_of_mem_take hq
          · rw [hasb_or,J.hx,et]
            constructor
            · rintro (⟨q',hq,hb⟩ | hb)
              · exact ⟨q',List.mem_append_left _ hq,hb⟩
              · exact ⟨y,List.mem_append_right _ (List.mem_singleton.mpr rfl),hb⟩
            · rintro ⟨q',hq,hb⟩
              rcases List.mem_append.mp hq with hq | hq
              · exact .inl ⟨q',hq,hb⟩
              · rw [List.mem_singleton.mp hq] at hb; exact .inr hb
    · rintro σ H3 ⟨x,l,ws,v4,v5,v6,v7,rfl,hws,J⟩
      rw [lpm] at J
      have lw:=J.len
      rw [if_neg (by omega),if_neg (by omega)] at lw
      have mem:=J.mem
      rw [List.take_length] at mem
      refine ⟨_,rfl,l,m,ws,rfl,SqL.of hws,J.ok,m1,by omega,fun l2 us hl2 pr up=>?_⟩
      have sU:=Same.new (o:=.lst (refsOf us)) hl2
      have pm:(us.map (·.2)).Perm (ws.map (·.2)):=pr.map _
      refine q l2 us _ (J.s.trans sU) (J.s.free hl2) upd_same (fun r hr0=>(J.ok.same sU) r (pr.mem_iff.mp hr0)) (Asc.of up (pm.nodup_iff.mpr J.nd) fun k=>Iff.rfl) (by rw [pr.length_eq]; exact lw) fun k=>by rw [pm.mem_iff]; exact mem k
end
end Own
namespace Own
open PySem L2
section
variable {P:Program} {w:World} {K:PySem.W.Frag} {mg:Str→Option Value} {base:Heap}
seal PySem.wpAny
abbrev sTable9:Stmt:=top 40
theorem scTable9:FnScope ["_law_state","_law_many","_law_far","_law_rows","_law_k","_law_row","_law_turn"] ["_law_state","_law_many"] (defScope sTable9):=⟨rfl,rfl,rfl,by decide +kernel,rfl,by decide +kernel,by decide +kernel⟩
theorem ok_table91 {f fT:Addr} {fd fdT:FuncData} (F:Fun K "_law_table" "_law_table" sTable9 f fd) (GT:FnOk P w K mg base CX0 1 fT fdT ["_law_state","_law_most"] (spTakeF K)) (mT:mg "_law_take" = some (.ref fT)) (kT:PySem.W.keepIn K (.ref fT)=true) (bT:Binds K fdT ["_law_state","_law_most"] []) (zrange:mg "range" = none) (zlist:mg "list" = none) (ztuple:mg "tuple" = none):FnOk P w K mg base CX0 2 f fd ["_law_state","_law_many"] (spTable91 K):=by
  refine F.ok scTable9 (fun vs H Q E h=>?_) (fun cdv A outer s H vs Q E hr h=>?_)
  · obtain ⟨st,ns,k,m,rfl,_⟩:=h
    rfl
  · obtain ⟨st,ns,k,m,rfl,S,hk,hl,m1,m7,q⟩:=h
    have nd:=scTable9.nd
    have hr1:Room 1 _:=hr.mono (by decide)
    refine ⟨_,(pss_cons (ps_set (i:=2) nd rfl (Or.inr rfl) (pe_ix (ix_listK (K:=K) rfl) (pe_lst (pa_cons pe_int (pa_cons pe_int (pa_cons pe_int (pa_cons (pe_op op_mul pe_int (pe_op op_pow pe_int pe_int)) pa_nil))))) (pe_call GT hr1 rfl mT kT bT .nil pass0 (pa_cons (pv 0) (pa_cons pe_int pa_nil))) (fun _ _=>rfl)))
      (pss_cons (ps_set (i:=3) nd rfl (Or.inl rfl) (pe_lst pa_nil))
      (pss_cons (ps_for PassesOwn.never rfl (pi_range1 rfl zrange (pa_cons (pe_op op_addN pe_int (pe_call GT hr1 rfl mT kT bT .nil pass0 (pa_cons (pv 0) (pa_cons pe_int pa_nil)))) pa_nil)) (pg_name (i:=4) nd rfl (Or.inl rfl)) (pss_cons (ps_comp (i:=5) (xs:=["_law_c"]) (cs ["_law_state","_law_many","_law_far","_law_rows","_law_k","_law_row","_law_turn"] (defScope sTable9) rfl rfl (by decide +kernel)) rfl nd rfl rfl (pi_range1 rfl zrange (pa_cons (pv 1) pa_nil)) (fun _ _ _=>pg_name (i:=0) (show (["_law_c","_law_state","_law_many","_law_far","_law_rows","_law_k","_law_row","_law_turn"]:List Str).Nodup by decide +kernel) rfl (Or.inl rfl)) (fun _ _ _=>pts_nil) (fun _ _ _=>(pe_op op_sub (pe_call GT hr1 rfl mT kT bT .nil pass0 (pa_cons (pv 1) (pa_cons (pv 3) pa_nil))) (pe_op op_fdiv (pv 3) pe_int))))
      (pss_cons (ps_if (PW.pt (pw_and (pt_cmpR op_gtN (pv 4) pe_int (nomark _)) (pw_and1 (pt_cmpR op_gt (pe_call GT hr1 rfl mT kT bT .nil pass0 (pa_cons (pv 0) (pa_cons pe_int pa_nil))) pe_int (nomark _))))) (pss_cons (ps_set (i:=5) nd rfl (Or.inl rfl) (pe_callTy (call_listK (K:=K) rfl) (by rfl) zlist PyProof.Rows.boot_list (pa_cons (pe_ix (ix_listK (K:=K) rfl) (pv 3) (pe_call GT hr1 rfl mT kT bT .nil pass0 (pa_cons (pv 0) (pa_cons (pv 4) pa_nil))) (fun _ _=>rfl)) pa_nil)))
      (pss_one (ps_for PassesOwn.never rfl (pi_range1 rfl zrange (pa_cons (pe_call GT hr1 rfl mT kT bT .nil pass0 (pa_cons (pv 0) (pa_cons pe_int pa_nil))) pa_nil)) (pg_name (i:=6) nd rfl (Or.inl rfl)) (pss_one (ps_asg (pe_op op_sub (pe_call GT hr1 rfl mT kT bT .nil pass0 (pa_cons (pv 0) (pa_cons (pv 2) pa_nil))) (pe_op op_fdiv (pv 2) pe_int)) (pg_sub (pv 5) (pe_call GT hr1 rfl mT kT bT .nil pass0 (pa_cons (pv 0) (pa_cons (pv 1) pa_nil))) set_list)))))) pss_nil)
      (pss_one (ps_expr (pe_bm PySem.F.plainAttrs_list PySem.F.slot_list_append PySem.F.type_list_append mt_append (pv 3) (pa_cons (pe_callTy (call_tupleK (K:=K) rfl) (by rfl) ztuple PyProof.Rows.boot_tuple (pa_cons (pv 5) pa_nil)) pa_nil)))))))
      (pss_one (ps_ret (pv 3)))))),?_⟩
    refine ⟨10,59,rfl,rfl,⟨by decide,by decide,by decide⟩,2,10 ^ (59:Int).toNat,rfl,rfl,.inl ⟨by decide,by decide⟩,(by show 4≤sizeLine; decide),fun p0 hp0=>?_⟩
    have np0:=(stf_fresh S (But.refl _ _) hp0).2
    have s0:=Same.new (o:=.lst [V.int 2,V.int 3,V.int 2,V.int (2 * 10 ^ (59:Int).toNat)]) hp0
    have hp1:(upd H p0 (.lst [V.int 2,V.int 3,V.int 2,V.int (2 * 10 ^ (59:Int).toNat)])) p0=some (.lst [V.int 2,V.int 3,V.int 2,V.int (2 * 10 ^ (59:Int).toNat)]):=upd_same
    have S1:=S.same s0
    generalize upd H p0 (.lst [V.int 2,V.int 3,V.int 2,V.int (2 * 10 ^ (59:Int).toNat)])=H1 at s0 hp1 S1
    refine ⟨_,rfl,st,ns,k,4,rfl,S1,by omega,hl,by decide,fun r1 H2 a2 b2 S2 B2=>?_⟩
    obtain ⟨n1,rfl,hn1⟩:=nat_of (n:=4) a2 b2
    have hp2:=B2 _ _ hp1 np0
    obtain ⟨far,ef,hf⟩:∃far:Int,([V.int 2,V.int 3,V.int 2,V.int (2 * 10 ^ (59:Int).toNat)]:List V)[n1]? = some (V.int far)∧2≤far:=by
      match n1,hn1 with
      | 0,_=>exact ⟨2,rfl,by decide⟩
      | 1,_=>exact ⟨3,rfl,by decide⟩
      | 2,_=>exact ⟨2,rfl,by decide⟩
      | 3,_=>exact ⟨2 * 10 ^ (59:Int).toNat,rfl,by decide⟩
    refine ⟨p0,_,_,_,rfl,rfl,SqL.of hp2,atI_nat ef,?_⟩
    have BH2:=s0.but.trans B2
    clear hp2 hp1 S1 s0 B2 hp0 a2 b2 ef
    refine ⟨(by show 0≤sizeLine; exact Nat.zero_le _),fun g hg=>?_⟩
    obtain ⟨hgH,hgs⟩:=stf_fresh S2 BH2 hg
    have sG:=Same.new (o:=.lst []) hg
    have hg3:(upd H2 g (.lst [])) g=some (.lst (refsOf [])):=upd_same
    have S3:=S2.same sG
    have B3:=BH2.trans sG.but
    generalize upd H2 g (.lst [])=H3 at hg3 S3 B3
    refine ⟨_,rfl,st,ns,k + 1,6,rfl,S3,by omega,hl,by decide,fun r2 H4 a4 b4 S4 B4=>?_⟩
    obtain ⟨n2,rfl,hn2⟩:=nat_of (n:=6) a4 b4
    refine ⟨1,n2,rfl,rfl,((1 + n2:Nat):Int),rfl,by omega,by omega,for_rangeN (n:=1 + n2) (fun i σ H2=>(∃v4 v5 v6,σ=[some (.ref st),some (vN m),some (.int far),some (.ref g),v4,v5,v6])∧∃(T:List RW) (k2:Nat),T.length=i∧RowsOk H2 m T∧H2 g=some (.lst (refsOf T))∧STF K H2 st ns k2∧k2≤k + 2 + 20 * (i)∧But st H H2) ⟨⟨_,_,_,rfl⟩,[],k + 2,rfl,(fun r h=>absurd h List.not_mem_nil),B4 _ _ hg3 hgs,S4,by omega,B3.trans B4⟩ ?_ ?_⟩
    · clear S2 hg sG BH2 hg3 S3 B3 S4 B4 a4 b4
      rintro i σ H2 hi ⟨⟨v4,v5,v6,rfl⟩,T,k2,hT,R2,hg2,S2,hk2,B2⟩
      refine ⟨_,rfl,(m:Int),rfl,by omega,by omega,lc_rangeN (k:=m) (n:=1) (fun j acc H'=>∃xs:List Int,acc=xs.map V.int∧xs.length=j∧STF K H' st ns (k2 + j)∧But st H2 H') (by omega) ⟨[],rfl,rfl,S2,But.refl _ _⟩ (fun j acc H' hj h=>?_) (fun j acc H' hj h=>?_) (fun acc H' h=>?_)⟩
      · obtain ⟨xs,rfl,e,_⟩:=h
        rw [List.length_map,e]; exact Nat.le_refl _
      · obtain ⟨xs,rfl,e,S',B'⟩:=h
        refine ⟨rfl,_,rfl,_,rfl,st,ns,k2 + j,far,rfl,S',by omega,hl,by omega,fun r H3 a3 b3 S3 B3=>?_⟩
        refine ⟨_,rfl,far,3,rfl,rfl,⟨by decide,by decide⟩,r,far / 3,rfl,rfl,xs++[r - far / 3],?_,by rw [List.length_append,e]; rfl,S3,B'.trans B3⟩
        rw [List.map_append]; rfl
      obtain ⟨xs,rfl,exl,S3,B3⟩:=h
      intro d hd
      have hd3:=stf_fresh S3 (B2.trans B3) hd
      have hg3:=B3 _ _ hg2 hgs
      have rows:∀{HX:Hp},But st H2 HX→RowsOk HX m T:=fun B r hr'=>⟨stf_tup S2 B (R2 r hr').1,(R2 r hr').2⟩
      have hdg:d≠g:=(ne_of_none hg3 hd).symm
      have lrf:(refsOf T).length=T.length:=List.length_map ..
      have fin:∀(z:Addr) (ys:List Int) (v6':Option V) (k4:Nat) (H4:Hp),ys.length=m→H4 z=some (.lst (ys.map V.int))→H4 g=some (.lst (refsOf T))→RowsOk H4 m T→STF K H4 st ns k4→k4≤k + 2 + 20 * (i + 1)→But st H H4→
          (tDrop (tBM K "list" rAppend (tVar 3) (tCons (tCB (fun xs H Q=>∃p ys,xs=[.ref p]∧((SqL K H p ys∧∀l,H l=none→Q (.ref l) (upd H l (.tup ys)))∨(SqT K H p ys∧Q (.ref p) H))) (tCons (tVar 5) tNil)) tNil)))
            { nx:=fun σ H2=>(∃v4 v5 v6,σ=[some (.ref st),some (vN m),some (.int far),some (.ref g),v4,v5,v6])∧∃(T:List RW) (k2:Nat),T.length=i + 1∧RowsOk H2 m T∧H2 g=some (.lst (refsOf T))∧STF K H2 st ns k2∧k2≤k + 2 + 20 * (i + 1)∧But st H H2,rt:=Q } [some (.ref st),some (vN m),some (.int far),some (.ref g),some (vN i),some (.ref z),v6'] H4:=fun z ys v6' k4 H4 yl hz4 hg4 R4 S4 hk4 B4=>by
        refine ⟨_,rfl,.inl ⟨rfl,_,SqL.of hg4⟩,_,rfl,z,_,rfl,.inl ⟨SqL.of hz4,fun t ht=>?_⟩⟩
        have hg5:(upd H4 t (.tup (ys.map V.int))) g=some (.lst (refsOf T)):=(Same.new ht) _ _ hg4
        refine ⟨g,_,_,rfl,rfl,hg5,?_,?_⟩
        · rw [lrf,hT]; exact small1000 (by omega)
        · refine ⟨⟨_,_,_,rfl⟩,T++[(t,ys)],k4,by rw [List.length_append,hT]; rfl,fun r hr'=>?_,?_,(S4.new ht).put hg5 hgs,hk4,?_⟩
          · rcases List.mem_append.mp hr' with z | z
            · exact ⟨tup_put hg5 _ _ ((Same.new ht) _ _ (R4 r z).1),(R4 r z).2⟩
            · rw [List.mem_singleton.mp z]; exact ⟨tup_put hg5 t _ upd_same,yl⟩
          · rw [upd_same]; unfold refsOf; rw [List.map_append]; rfl
          · exact (B4.trans (But.new ht)).own hgH
      have S4:=S3.new (o:=.lst (xs.map V.int)) hd
      have B4:But st H2 (upd H' d (.lst (xs.map V.int))):=B3.trans (But.new hd)
      have hd4:(upd H' d (.lst (xs.map V.int))) d=some (.lst (xs.map V.int)):=upd_same
      have hg4:(upd H' d (.lst (xs.map V.int))) g=some (.lst (refsOf T)):=(Same.new hd) _ _ hg3
      generalize upd H' d (.lst (xs.map V.int))=H4 at S4 B4 hd4 hg4
      refine ⟨_,rfl,i,0,rfl,rfl,_,rfl,?_⟩
      refine ite2 (fun hpos=>?_) (fun _=>iteF ?_)
      · have hi0:0 < i:=of_decide_eq_true hpos
        refine ⟨_,rfl,st,ns,k2 + m,5,rfl,S4,by omega,hl,by decide,fun r5 H5 a5 b5 S5 B5=>?_⟩
        have hd5:=B5 _ _ hd4 hd3.2
        have hg5:=B5 _ _ hg4 hgs
        have B25:=B4.trans B5
        refine ⟨_,_,rfl,rfl,_,rfl,?_⟩
        refine ite2 (fun _=>?_) (fun _=>?_)
        · refine ⟨_,rfl,_,rfl,_,rfl,st,ns,k2 + m + 1,(i:Int),rfl,S5,by omega,hl,by omega,fun r6 H6 a6 b6 S6 B6=>?_⟩
          obtain ⟨j6,rfl,hj6⟩:=nat_of a6 b6
          have hg6:=B6 _ _ hg5 hgs
          have B26:=B25.trans B6
          obtain ⟨w6,e6⟩:∃w,T[j6]? = some w:=⟨_,List.getElem?_eq_getElem (show j6 < T.length by omega)⟩
          have w6m:=List.mem_of_getElem? e6
          refine ⟨g,_,_,_,rfl,rfl,SqL.of hg6,atI_nat (j:=j6) (v:=V.ref w6.1) (by unfold refsOf; rw [List.getElem?_map,e6]; rfl),w6.1,_,rfl,.inr (SqT.of (rows B26 w6 w6m).1),fun z hz=>?_⟩
          have nz:=(stf_fresh S6 (But.refl _ _) hz).2
          obtain ⟨hz2,_⟩:=stf_fresh S6 B26 hz
          have S7:=S6.new (o:=.lst (w6.2.map V.int)) hz
          have B7:But st H2 (upd H6 z (.lst (w6.2.map V.int))):=B26.trans (But.new hz)
          have hz7:(upd H6 z (.lst (w6.2.map V.int))) z=some (.lst (w6.2.map V.int)):=upd_same
          have hg7:(upd H6 z (.lst (w6.2.map V.int))) g=some (.lst (refsOf T)):=(Same.new hz) _ _ hg6
          have hzg:g≠z:=ne_of_none hg6 hz
          have wl:w6.2.length=m:=(R2 w6 w6m).2
          generalize upd H6 z (.lst (w6.2.map V.int))=H7 at S7 B7 hz7 hg7
          refine ⟨_,rfl,st,ns,k2 + m + 2,3,rfl,S7,by omega,hl,by decide,fun r8 H8 a8 b8 S8 B8=>?_⟩
          obtain ⟨n8,rfl,hn8⟩:=nat_of (n:=3) a8 b8
          refine ⟨(n8:Int),rfl,by omega,by omega,for_rangeN (n:=n8) (fun j σ H9=>(∃v6,σ=[some (.ref st),some (vN m),some (.int far),some (.ref g),some (vN i),some (.ref z),v6])∧∃ys:List Int,ys.length=m∧H9 z=some (.lst (ys.map V.int))∧STF K H9 st ns (k2 + m + 3 + 2 * j)∧But st H2 H9)
            ⟨⟨_,rfl⟩,w6.2,wl,B8 _ _ hz7 nz,S8,B7.trans B8⟩ ?_ ?_⟩
          · rintro j σ H9 hj ⟨⟨v6',rfl⟩,ys,yl,hz9,S9,B9⟩
            refine ⟨_,rfl,_,rfl,st,ns,_,far,rfl,S9,by omega,hl,by omega,fun ra Ha aa ba Sa Ba=>?_⟩
            refine ⟨_,rfl,far,3,rfl,rfl,⟨by decide,by decide⟩,ra,far / 3,rfl,rfl,?_⟩
            refine ⟨_,rfl,_,rfl,_,rfl,st,ns,_,(m:Int),rfl,Sa,by omega,hl,by omega,fun rb Hb ab bb Sb Bb=>?_⟩
            obtain ⟨cb,rfl,hcb⟩:=nat_of ab bb
            have hzb:=Bb _ _ (Ba _ _ hz9 nz) nz
            refine ⟨z,_,_,cb,rfl,rfl,hzb,?_,?_⟩
            · unfold ixN
              rw [if_pos (Int.natCast_nonneg cb),if_pos (by rw [List.length_map]; omega),Int.toNat_natCast]
            · refine ⟨⟨_,rfl⟩,ys.set cb (ra - far / 3),by rw [List.length_set]; exact yl,by rw [upd_same,List.map_set],Sb.put hzb nz,((B9.trans Ba).trans Bb).own hz2⟩
          · rintro σ H9 ⟨⟨v6',rfl⟩,ys,yl,hz9,S9,B9⟩
            exact fin z ys v6' _ H9 yl hz9 (B9 _ _ hg2 hgs) (rows B9) S9 (by omega) (B2.trans B9)
        · exact fin d xs _ _ H5 exl hd5 hg5 (rows B25) S5 (by omega) (B2.trans B25)
      · exact fin d xs _ _ H4 exl hd4 hg4 (rows B4) S4 (by omega) (B2.trans B4)
    · rintro σ H2 ⟨⟨v4,v5,v6,rfl⟩,T,k2,hT,R2,hg2,S2,hk2,B2⟩
      exact ⟨_,rfl,q g T k2 H2 (by omega) (by omega) hgH hg2 R2 (by omega) S2 B2 hgs⟩
end
end Own
namespace Own
open PySem L2
section
variable {P:Program} {w:World} {K:PySem.W.Frag} {mg:Str→Option Value} {base:Heap}
seal PySem.wpAny
abbrev sKept9:Stmt:=top 41
theorem scKept9:FnScope ["_law_state","_law_many","_law_table_here","_law_rules","_law_k","_law_left","_law_rule"] ["_law_state","_law_many","_law_table_here"] (defScope sKept9):=⟨rfl,rfl,rfl,by decide +kernel,rfl,by decide +kernel,by decide +kernel⟩
theorem ok_kept91 {f fT fLK:Addr} {fd fdT fdLK:FuncData} (F:Fun K "_law_kept" "_law_kept" sKept9 f fd) (GT:FnOk P w K mg base CX0 1 fT fdT ["_law_state","_law_most"] (spTakeF K)) (mT:mg "_law_take" = some (.ref fT)) (kT:PySem.W.keepIn K (.ref fT)=true) (bT:Binds K fdT ["_law_state","_law_most"] []) (GLK:FnOk P w K mg base CX0 2 fLK fdLK ["_law_table_here","_law_rule"] (spKeeps91 K)) (mLK:mg "_law_keeps" = some (.ref fLK)) (kLK:PySem.W.keepIn K (.ref fLK)=true) (bLK:Binds K fdLK ["_law_table_here","_law_rule"] []) (zrange:mg "range" = none) (zlen:mg "len" = none):FnOk P w K mg base CX0 3 f fd ["_law_state","_law_many","_law_table_here"] (spKept91 K):=by
  refine F.ok scKept9 (fun vs H Q E h=>?_) (fun cdv A outer s H vs Q E hr h=>?_)
  · obtain ⟨st,tb,ns,k,m,T,rfl,_⟩:=h
    rfl
  · obtain ⟨st,tb,ns,k,m,T,rfl,S,hk,hl,m1,m7,htb,ntb,R,lT,q⟩:=h
    have nd:=scKept9.nd
    have hr1:Room 1 _:=hr.mono (by decide)
    have hr2:Room 2 _:=hr.mono (by decide)
    have pw0:0 < 2 ^ m:=Nat.two_pow_pos m
    have rows:∀{HX:Hp},But st H HX→RowsOk HX m T:=fun B r hr'=>⟨stf_tup S B (R r hr').1,(R r hr').2⟩
    refine ⟨_,(pss_cons (ps_set (i:=3) nd rfl (Or.inl rfl) (pe_lst pa_nil))
      (pss_cons (ps_for PassesOwn.never rfl (pi_range1 rfl zrange (pa_cons pe_int pa_nil)) (pg_name (i:=4) nd rfl (Or.inl rfl)) (pss_cons (ps_set (i:=5) nd rfl (Or.inl rfl) (pe_op op_andN (pe_call GT hr1 rfl mT kT bT .nil pass0 (pa_cons (pv 0) (pa_cons (pe_op op_shl1 pe_int (pv 1)) pa_nil))) (pe_call GT hr1 rfl mT kT bT .nil pass0 (pa_cons (pv 0) (pa_cons (pe_op op_shl1 pe_int (pv 1)) pa_nil)))))
      (pss_cons (ps_if (pt_cmpR op_eqN (pe_call GT hr1 rfl mT kT bT .nil pass0 (pa_cons (pv 0) (pa_cons pe_int pa_nil))) pe_int (nomark _)) (pss_one (ps_set (i:=5) nd rfl (Or.inl rfl) (pe_op op_orN (pv 5) (pe_call GT hr1 rfl mT kT bT .nil pass0 (pa_cons (pv 0) (pa_cons (pe_op op_shl1 pe_int (pv 1)) pa_nil)))))) pss_nil)
      (pss_cons (ps_set (i:=6) nd rfl (Or.inl rfl) (pe_tup (pa_cons (pe_ix (ix_listK (K:=K) rfl) (pe_lst (pa_cons pe_str (pa_cons pe_str pa_nil))) (pe_call GT hr1 rfl mT kT bT .nil pass0 (pa_cons (pv 0) (pa_cons pe_int pa_nil))) (fun _ _=>rfl)) (pa_cons (pv 5) (pa_cons (pe_call GT hr1 rfl mT kT bT .nil pass0 (pa_cons (pv 0) (pa_cons (pe_op op_shl1 pe_int (pv 1)) pa_nil))) pa_nil)))))
      (pss_one (ps_if (PW.pt (pw_and (pt_cmpR op_ltN (pe_callB (call_lenK (K:=K) rfl) (by rfl) zlen PySem.boot_len (pa_cons (pv 3) pa_nil)) pe_int (nomark _)) (pw_and1 (pt_val (pe_call GLK hr2 rfl mLK kLK bLK .nil pass0 (pa_cons (pv 2) (pa_cons (pv 6) pa_nil))))))) (pss_one (ps_expr (pe_bm PySem.F.plainAttrs_list PySem.F.slot_list_append PySem.F.type_list_append mt_append (pv 3) (pa_cons (pv 6) pa_nil)))) pss_nil))))))
      (pss_one (ps_ret (pv 3))))),?_⟩
    refine ⟨(by show 0≤sizeLine; exact Nat.zero_le _),fun g hg=>?_⟩
    obtain ⟨hgH,hgs⟩:=stf_fresh S (But.refl _ _) hg
    have S1:=S.new (o:=.lst []) hg
    have B1:But st H (upd H g (.lst [])):=But.new hg
    have hg1:(upd H g (.lst [])) g=some (.lst (([]:List Rl).map fun (r:Rl)=>V.ref r.r)):=upd_same
    generalize upd H g (.lst [])=H1 at S1 B1 hg1
    refine ⟨24,rfl,by decide,by decide,for_rangeN (n:=24) (fun i σ H2=>(∃v4 v5 v6,σ=[some (.ref st),some (vN m),some (.ref tb),some (.ref g),v4,v5,v6])∧∃(rs:List Rl) (k2:Nat),rs.length≤12∧RulesAt H2 m rs∧(∀r∈rs,ROk T r.st r.x r.y)∧H2 g=some (.lst (rs.map fun (r:Rl)=>V.ref r.r))∧STF K H2 st ns k2∧k2≤k + 6 * (i)∧But st H H2) ⟨⟨_,_,_,rfl⟩,[],k,Nat.zero_le _,(fun r h=>absurd h List.not_mem_nil),(fun r h=>absurd h List.not_mem_nil),hg1,S1,by omega,B1⟩ ?_ ?_⟩
    · clear S1 B1 hg1 hg
      rintro i σ H2 hi ⟨⟨v4,v5,v6,rfl⟩,rs,k2,lrs,hRs,okR,hg2,S2,hk2,B2⟩
      refine ⟨_,rfl,_,rfl,m,rfl,rfl,by omega,st,ns,k2,((2 ^ m:Nat):Int),rfl,S2,by omega,hl,by omega,fun r1 H3 a3 b3 S3 B3=>?_⟩
      obtain ⟨x1,rfl,h1⟩:=nat_of a3 b3
      refine ⟨_,rfl,_,rfl,m,rfl,rfl,by omega,st,ns,k2 + 1,((2 ^ m:Nat):Int),rfl,S3,by omega,hl,by omega,fun r2 H4 a4 b4 S4 B4=>?_⟩
      obtain ⟨x2,rfl,h2⟩:=nat_of a4 b4
      refine ⟨x1,x2,rfl,rfl,?_⟩
      have h12:x1&&&x2 < 2 ^ m:=Nat.lt_of_le_of_lt Nat.and_le_left h1
      dsimp only
      generalize x1&&&x2=x at h12
      refine ⟨_,rfl,st,ns,k2 + 2,2,rfl,S4,by omega,hl,by decide,fun r3 H5 a5 b5 S5 B5=>?_⟩
      obtain ⟨w3,rfl,hw3⟩:=nat_of (n:=2) a5 b5
      refine ⟨w3,0,rfl,rfl,_,rfl,?_⟩
      have B25:=(B3.trans B4).trans B5
      refine ite2 (fun _=>?ga) (fun _=>?gb)
      case' ga=>
        refine ⟨_,rfl,_,rfl,_,rfl,m,rfl,rfl,by omega,st,ns,k2 + 3,((2 ^ m:Nat):Int),rfl,S5,by omega,hl,by omega,fun r4 H6 a6 b6 S6 B6=>?_⟩
        obtain ⟨x4,rfl,h4⟩:=nat_of a6 b6
        refine ⟨x,x4,rfl,rfl,?_⟩
        have hX:=Nat.or_lt_two_pow h12 h4
        have SX:∃k5,k5≤k2 + 4∧STF K H6 st ns k5:=⟨k2 + 4,by omega,S6⟩
        have BX:=B25.trans B6
        clear S6 B6 a6 b6 S5 B5 S4 B4 S3 B3
        dsimp only
        revert hX SX BX
        generalize H6=HX
        generalize x|||x4=X
        intro hX SX BX
      case' gb=>
        have SX:∃k5,k5≤k2 + 4∧STF K H5 st ns k5:=⟨k2 + 3,by omega,S5⟩
        have BX:=B25
        clear S5 B5 S4 B4 S3 B3 B25
        revert h12 SX BX
        generalize H5=HX
        generalize x=X
        intro hX SX BX
      all_goals
        obtain ⟨k6,hk6,S6⟩:=SX
        refine ⟨(by show 2≤sizeLine; decide),fun wl hwl=>?_⟩
        have nws:=(stf_fresh S6 (But.refl _ _) hwl).2
        have sW:=Same.new (o:=.lst [V.str "settle",V.str "deal"]) hwl
        have hwl7:(upd HX wl (.lst [V.str "settle",V.str "deal"])) wl=some (.lst [V.str "settle",V.str "deal"]):=upd_same
        have S7:=S6.same sW
        have B7:=BX.trans sW.but
        generalize upd HX wl (.lst [V.str "settle",V.str "deal"])=H7 at hwl7 S7 B7
        refine ⟨_,rfl,st,ns,k6,2,rfl,S7,by omega,hl,by decide,fun r5 H8 a8 b8 S8 B8=>?_⟩
        obtain ⟨w5,rfl,hw5⟩:=nat_of (n:=2) a8 b8
        obtain ⟨sb,esb⟩:∃sb:Bool,([V.str "settle",V.str "deal"]:List V)[w5]? = some (V.str (wordS sb)):=by
          match w5,hw5 with
          | 0,_=>exact ⟨true,rfl⟩
          | 1,_=>exact ⟨false,rfl⟩
        refine ⟨wl,_,_,_,rfl,rfl,SqL.of (B8 _ _ hwl7 nws),atI_nat esb,_,rfl,_,rfl,_,rfl,m,rfl,rfl,by omega,st,ns,k6 + 1,((2 ^ m:Nat):Int),rfl,S8,by omega,hl,by omega,fun r6 H9 a9 b9 S9 B9=>?_⟩
        obtain ⟨y,rfl,hy⟩:=nat_of a9 b9
        refine ⟨(by show 3≤sizeLine; decide),fun ru hru=>?_⟩
        have B29:=(B7.trans B8).trans B9
        have sR:=Same.new (o:=.tup [V.str (wordS sb),vN X,V.int (y:Int)]) hru
        have hruA:RuleAt (upd H9 ru (.tup [V.str (wordS sb),vN X,V.int (y:Int)])) ru sb X y:=upd_same
        have SA:=S9.same sR
        have B2A:=B29.trans sR.but
        generalize upd H9 ru (.tup [V.str (wordS sb),vN X,V.int (y:Int)])=HA at hruA SA B2A
        have hgA:=B2A _ _ hg2 hgs
        have lrm:(rs.map fun (r:Rl)=>V.ref r.r).length=rs.length:=List.length_map ..
        have rls:∀{HX:Hp},But st H2 HX→RulesAt HX m rs:=fun B r hr'=>⟨stf_tup S2 B (hRs r hr').1,(hRs r hr').2⟩
        refine ⟨_,rfl,g,_,rfl,.inl (SqL.of hgA),(rs.map fun (r:Rl)=>V.ref r.r).length,12,rfl,rfl,_,rfl,?_⟩
        refine ite2 (fun hlt=>?_) (fun _=>iteF ?_)
        · have hlt:=of_decide_eq_true hlt
          refine ⟨_,rfl,_,rfl,tb,ru,T,m,sb,X,y,rfl,SqL.of ((B2.trans B2A) _ _ htb ntb),rows (B2.trans B2A),lT,m7,hruA,fun b HB sB iff=>⟨_,rfl,?_⟩⟩
          have B2B:=B2A.trans sB.but
          have SB:=SA.same sB
          have hgB:=sB _ _ hgA
          cases b with
          | false=>exact iteF ⟨⟨_,_,_,rfl⟩,rs,k6 + 2,lrs,rls B2B,okR,hgB,SB,by omega,B2.trans B2B⟩
          | true=>
            refine iteT ⟨_,rfl,.inl ⟨rfl,_,SqL.of hgB⟩,_,rfl,g,_,_,rfl,rfl,hgB,by rw [lrm]; exact small1000 (by omega),?_⟩
            refine ⟨⟨_,_,_,rfl⟩,rs++[⟨ru,sb,X,y⟩],k6 + 2,by rw [List.length_append]; show rs.length + 1≤12; omega,fun r hr'=>?_,fun r hr'=>?_,by rw [upd_same,List.map_append]; rfl,SB.put hgB hgs,by omega,(B2.trans B2B).own hgH⟩
            · rcases List.mem_append.mp hr' with hr' | hr'
              · exact ⟨tup_put hgB _ _ (rls B2B r hr').1,(rls B2B r hr').2⟩
              · rw [List.mem_singleton.mp hr']
                exact ⟨tup_put hgB _ _ (sB _ _ hruA),hX,hy⟩
            · rcases List.mem_append.mp hr' with hr' | hr'
              · exact okR r hr'
              · rw [List.mem_singleton.mp hr']
                exact iff.mp rfl
        · exact ⟨⟨_,_,_,rfl⟩,rs,k6 + 2,lrs,rls B2A,okR,hgA,SA,by omega,B2.trans B2A⟩
    · rintro σ H2 ⟨⟨v4,v5,v6,rfl⟩,rs,k2,lrs,hRs,okR,hg2,S2,hk2,B2⟩
      exact ⟨_,rfl,q rs g k2 H2 lrs hRs okR hgH hgs hg2 (by omega) S2 B2⟩
end
end Own
namespace Own
open PySem L2
section
variable {P:Program} {w:World} {K:PySem.W.Frag} {mg:Str→Option Value} {base:Heap}
seal PySem.wpAny
abbrev sGains9:Stmt:=top 42
theorem scGains9:FnScope ["_law_table_here","_law_rules","_law_parts","_law_rows"] ["_law_table_here","_law_rules","_law_parts"] (defScope sGains9):=⟨rfl,rfl,rfl,by decide +kernel,rfl,by decide +kernel,by decide +kernel⟩
theorem ok_gains91 {f fLK fLP:Addr} {fd fdLK fdLP:FuncData} (F:Fun K "_law_gains" "_law_gains" sGains9 f fd) (GLK:FnOk P w K mg base CX0 2 fLK fdLK ["_law_table_here","_law_rule"] (spKeeps91 K)) (mLK:mg "_law_keeps" = some (.ref fLK)) (kLK:PySem.W.keepIn K (.ref fLK)=true) (bLK:Binds K fdLK ["_law_table_here","_law_rule"] []) (GLP:FnOk P w K mg base CX0 2 fLP fdLP ["_law_table_here","_law_parts"] (spPut91 K)) (mLP:mg "_law_put" = some (.ref fLP)) (kLP:PySem.W.keepIn K (.ref fLP)=true) (bLP:Binds K fdLP ["_law_table_here","_law_parts"] []):FnOk P w K mg base CX0 3 f fd ["_law_table_here","_law_rules","_law_parts"] (spGains91 K):=by
  refine F.ok scGains9 (fun vs H Q E h=>?_) (fun cdv A outer s H vs Q E hr h=>?_)
  · obtain ⟨tb,rl,pl,T,rs,ps,m,rfl,_⟩:=h
    rfl
  · obtain ⟨tb,rl,pl,T,rs,ps,m,rfl,hT,R,m1,m7,lT1,lT,hrl,hRs,lrs,hpl,hps,lp2,lp4,cov,ok,⟨kx,pjx,nkx⟩,q⟩:=h
    have nd:=scGains9.nd
    have hr2:Room 2 _:=hr.mono (by decide)
    have lrf:(refsOf T).length=T.length:=List.length_map ..
    have lrm:(rs.map fun (r:Rl)=>V.ref r.r).length=rs.length:=List.length_map ..
    have no0:∀{HX:Hp},RowsOk HX m []:=fun r h=>absurd h List.not_mem_nil
    refine ⟨_,(pss_cons (ps_if (pt_cmpR (op_neD (K:=K) rfl hr.units) (pe_comp (xs:=["_law_rule"]) (cs ["_law_table_here","_law_rules","_law_parts","_law_rows"] (defScope sGains9) rfl rfl (by decide +kernel)) rfl (pi_listK (K:=K) rfl (pv 1)) (fun _ _ _=>pg_name (i:=0) (show (["_law_rule","_law_table_here","_law_rules","_law_parts","_law_rows"]:List Str).Nodup by decide +kernel) rfl (Or.inl rfl)) (fun _ _ _=>(pts_one (pt_not (pt_val (pe_call GLK hr2 rfl mLK kLK bLK .nil pass0 (pa_cons (pv 1) (pa_cons (pv 0) pa_nil))))))) (fun _ _ _=>(pv 0))) (pe_lst pa_nil) (nomark _)) (pss_one (ps_ret pe_bl)) pss_nil)
      (pss_cons (ps_set (i:=3) nd rfl (Or.inr rfl) (pe_call GLP hr2 rfl mLP kLP bLP .nil pass0 (pa_cons (pv 0) (pa_cons (pv 2) pa_nil))))
      (pss_one (ps_ret (pe_and (pe_cmpR (op_eqD (K:=K) rfl hr.units) (pe_comp (xs:=["_law_row"]) (cs ["_law_table_here","_law_rules","_law_parts","_law_rows"] (defScope sGains9) rfl rfl (by decide +kernel)) rfl (pi_listK (K:=K) rfl (pv 0)) (fun _ _ _=>pg_name (i:=0) (show (["_law_row","_law_table_here","_law_rules","_law_parts","_law_rows"]:List Str).Nodup by decide +kernel) rfl (Or.inl rfl)) (fun _ _ _=>(pts_one (pt_cmpR (op_notInTK (K:=K) rfl hr.units) (pv 0) (pv 4) (by rfl)))) (fun _ _ _=>(pv 0))) (pe_lst pa_nil) (nomark _)) (pe_one (pe_cmpR (op_neD (K:=K) rfl hr.units) (pe_comp (xs:=["_law_row"]) (cs ["_law_table_here","_law_rules","_law_parts","_law_rows"] (defScope sGains9) rfl rfl (by decide +kernel)) rfl (pi_listK (K:=K) rfl (pv 3)) (fun _ _ _=>pg_name (i:=0) (show (["_law_row","_law_table_here","_law_rules","_law_parts","_law_rows"]:List Str).Nodup by decide +kernel) rfl (Or.inl rfl)) (fun _ _ _=>(pts_one (pt_cmpR (op_notInTK (K:=K) rfl hr.units) (pv 0) (pv 1) (by rfl)))) (fun _ _ _=>(pv 0))) (pe_lst pa_nil) (nomark _)))))))),?_⟩
    refine ⟨_,rfl,rl,rfl,⟨_,hrl⟩,lc_list (K:=K) (xs:=rs.map fun (r:Rl)=>V.ref r.r) (fun j acc H2=>Same H H2∧acc=[]) (by omega) ⟨Same.refl _,rfl⟩ (fun j acc H2 hj h=>?_) (fun j v acc H2 hv h=>?_) (fun acc H2 h=>?_)⟩
    · obtain ⟨s2,rfl⟩:=h
      exact ⟨s2.seq hrl,Nat.zero_le _⟩
    · obtain ⟨s2,rfl⟩:=h
      rw [List.getElem?_map] at hv
      cases er:rs[j]? with
      | none=>rw [er] at hv; cases hv
      | some r=>
        rw [er] at hv
        obtain rfl:=(Option.some.inj hv).symm
        have rm:=List.mem_of_getElem? er
        refine ⟨rfl,_,rfl,_,rfl,tb,r.r,T,m,r.st,r.x,r.y,rfl,s2.seq hT,R.same s2,by omega,m7,s2 _ _ (hRs r rm).1,fun b H3 s3 iff=>⟨_,rfl,?_⟩⟩
        rw [iff.mpr (ok r rm)]
        exact iteF ⟨s2.trans s3,rfl⟩
    obtain ⟨s2,rfl⟩:=h
    intro l1 hl1
    have s3:=s2.trans (Same.new (o:=.lst []) hl1)
    refine ⟨Nat.zero_le _,fun l2 hl2=>?_⟩
    have hl1':(upd (upd H2 l1 (.lst [])) l2 (.lst [])) l1=some (.lst (refsOf [])):=(Same.new (o:=.lst []) hl2) _ _ upd_same
    have hl2':(upd (upd H2 l1 (.lst [])) l2 (.lst [])) l2=some (.lst (refsOf [])):=upd_same
    have s4:=s3.trans (Same.new (o:=.lst []) hl2)
    refine ⟨.list (([]:List (List Int)).map rowD),.list (([]:List (List Int)).map rowD),book_dv hl1' (no0),book_dv hl2' (no0),shaped_book _,shaped_book _,noMix_book _ _,_,rfl,?_⟩
    rw [if_pos rfl,same_book]
    refine iteF ?_
    generalize upd (upd H2 l1 (.lst [])) l2 (.lst [])=H4 at s4
    clear hl1' hl2' s3 hl1 hl2 s2
    refine ⟨_,rfl,_,rfl,tb,pl,T,ps,m,rfl,s4.seq hT,R.same s4,m1,m7,lT1,lT,s4.seq hpl,hps,lp2,lp4,cov,fun l ws H5 s5 hl5 hws Rw A lw mem=>?_⟩
    have s05:=s4.trans s5
    have lrw:(refsOf ws).length=ws.length:=List.length_map ..
    have hlen:∀r∈T,r.2.length=m:=fun r h=>(R r h).2
    have full:=full_of hps cov
    refine ⟨_,rfl,tb,rfl,⟨_,s05.seq hT⟩,lc_list (K:=K) (xs:=refsOf T) (fun j acc H2=>H2=H5∧acc=[]) (by omega) ⟨rfl,rfl⟩ (fun j acc H2 hj h=>?_) (fun j v acc H2 hv h=>?_) (fun acc H2 h=>?_)⟩
    · obtain ⟨rfl,rfl⟩:=h
      exact ⟨s05.seq hT,Nat.zero_le _⟩
    · obtain ⟨rfl,rfl⟩:=h
      unfold refsOf at hv
      rw [List.getElem?_map] at hv
      cases er:T[j]? with
      | none=>rw [er] at hv; cases hv
      | some r=>
        rw [er] at hv
        obtain rfl:=(Option.some.inj hv).symm
        have rm:=List.mem_of_getElem? er
        refine ⟨rfl,_,rfl,_,rfl,r.1,l,r.2,ws,rfl,rfl,s05 _ _ (R r rm).1,SqL.of hws,(fun w hw=>(Rw w hw).1),fun b hb=>⟨_,rfl,?_⟩⟩
        cases b with
        | false=>exact iteF ⟨rfl,rfl⟩
        | true=>
          obtain ⟨c,hc,ec⟩:=List.mem_map.mp ((mem r.2).mpr (pj_own hlen full (List.mem_map.mpr ⟨r,rm,rfl⟩)))
          exact absurd ec (hb.mp rfl c hc)
    obtain ⟨rfl,rfl⟩:=h
    intro l3 hl3
    refine ⟨Nat.zero_le _,fun l4 hl4=>?_⟩
    have hl3':(upd (upd H2 l3 (.lst [])) l4 (.lst [])) l3=some (.lst (refsOf [])):=(Same.new (o:=.lst []) hl4) _ _ upd_same
    have hl4':(upd (upd H2 l3 (.lst [])) l4 (.lst [])) l4=some (.lst (refsOf [])):=upd_same
    have s6:=(Same.new (o:=.lst []) hl3).trans (Same.new (o:=.lst []) hl4)
    refine ⟨.list (([]:List (List Int)).map rowD),.list (([]:List (List Int)).map rowD),book_dv hl3' (no0),book_dv hl4' (no0),shaped_book _,shaped_book _,noMix_book _ _,_,rfl,?_⟩
    rw [if_neg Bool.false_ne_true,same_book]
    refine iteT ?_
    generalize upd (upd H2 l3 (.lst [])) l4 (.lst [])=H6 at s6
    have s06:=s05.trans s6
    have hws6:=s6 _ _ hws
    have Rw6:=Rw.same s6
    refine ⟨_,rfl,l,rfl,⟨_,SqL.of hws6⟩,lc_list (K:=K) (xs:=refsOf ws) (fun j acc HX=>HX=H6∧∃F:List RW,acc=refsOf F∧F.length≤j∧(∀r∈F,r∈ws)∧∀r∈ws.take j,r.2∉T.map (·.2)→r∈F) (by omega) ⟨rfl,[],rfl,Nat.le_refl _,(fun r h=>absurd h List.not_mem_nil),fun r h=>absurd h (by rw [List.take_zero]; exact List.not_mem_nil)⟩ (fun j acc HX hj h=>?_) (fun j v acc HX hv h=>?_) (fun acc HX h=>?_)⟩
    · obtain ⟨rfl,F,rfl,lF,_⟩:=h
      exact ⟨SqL.of hws6,by unfold refsOf; rw [List.length_map]; exact lF⟩
    · obtain ⟨rfl,F,rfl,lF,sub,all⟩:=h
      unfold refsOf at hv
      rw [List.getElem?_map] at hv
      cases er:ws[j]? with
      | none=>rw [er] at hv; cases hv
      | some r=>
        rw [er] at hv
        obtain rfl:=(Option.some.inj hv).symm
        have rm:=List.mem_of_getElem? er
        refine ⟨rfl,_,rfl,_,rfl,r.1,tb,r.2,T,rfl,rfl,(Rw6 r rm).1,s06.seq hT,(fun w hw=>s06 _ _ (R w hw).1),fun b hb=>⟨_,rfl,?_⟩⟩
        cases b with
        | false=>
          refine iteF ⟨rfl,F,rfl,by omega,sub,fun r' hr' n'=>?_⟩
          rw [List.take_succ,er] at hr'
          rcases List.mem_append.mp hr' with h | h
          · exact all r' h n'
          · rw [show r' = r by simpa using h] at n'
            have:false=true:=hb.mpr fun c hc ec=>n' (by rw [←ec]; exact List.mem_map.mpr ⟨c,hc,rfl⟩)
            cases this
        | true=>
          refine iteT ⟨_,rfl,rfl,F++[r],by unfold refsOf; rw [List.map_append]; rfl,by rw [List.length_append]; show F.length + 1≤j + 1; omega,fun r' hr'=>?_,fun r' hr' n'=>?_⟩
          · rcases List.mem_append.mp hr' with h | h
            · exact sub r' h
            · rw [List.mem_singleton.mp h]; exact rm
          · rw [List.take_succ,er] at hr'
            rcases List.mem_append.mp hr' with h | h
            · exact List.mem_append_left _ (all r' h n')
            · rw [show r' = r by simpa using h]
              exact List.mem_append_right _ (List.mem_singleton.mpr rfl)
    obtain ⟨rfl,F,rfl,lF,sub,all⟩:=h
    rw [lrw,List.take_length] at all
    intro l5 hl5
    refine ⟨Nat.zero_le _,fun l6 hl6=>?_⟩
    have s7:=(Same.new (o:=.lst (refsOf F)) hl5).trans (Same.new (o:=.lst []) hl6)
    have hl5':(upd (upd HX l5 (.lst (refsOf F))) l6 (.lst [])) l5=some (.lst (refsOf F)):=(Same.new (o:=.lst []) hl6) _ _ upd_same
    have hl6':(upd (upd HX l5 (.lst (refsOf F))) l6 (.lst [])) l6=some (.lst (refsOf [])):=upd_same
    refine ⟨.list ((F.map (·.2)).map rowD),.list (([]:List (List Int)).map rowD),book_dv hl5' ((show RowsOk HX m F from fun r hr'=>Rw6 r (sub r hr')).same s7),book_dv hl6' (no0),shaped_book _,shaped_book _,noMix_book _ _,?_⟩
    obtain ⟨c,hc,ec⟩:=List.mem_map.mp ((mem kx).mpr pjx)
    have hcF:=all c hc (by rw [ec]; exact nkx)
    rw [if_pos rfl,same_books,decide_eq_false (fun z=>by
      have:=congrArg List.length z
      rw [List.length_map] at this
      have h0:=List.length_pos_of_mem hcF
      simp at this
      rw [this] at hcF
      exact absurd hcF List.not_mem_nil)]
    exact q _ (s06.trans s7)
end
end Own
namespace Own
open PySem L2
section
variable {P:Program} {w:World} {K:PySem.W.Frag} {mg:Str→Option Value} {base:Heap}
seal PySem.wpAny
abbrev sTwo9:Stmt:=top 43
theorem scTwo9:FnScope ["_law_many","_law_table_here","_law_rules","_law_one","_law_other","_law_word","_law_paper","_law_noughts","_law_ones"] ["_law_many","_law_table_here","_law_rules","_law_one","_law_other"] (defScope sTwo9):=⟨rfl,rfl,rfl,by decide +kernel,rfl,by decide +kernel,by decide +kernel⟩
theorem ok_two91 {f fCT fLP fLG:Addr} {fd fdCT fdLP fdLG:FuncData} (F:Fun K "_law_two" "_law_two" sTwo9 f fd) (GCT:FnOk P w K mg base CX0 4 fCT fdCT ["many","rules","one","other"] (spCut K vN)) (mCT:mg "cut_in_two" = some (.ref fCT)) (kCT:PySem.W.keepIn K (.ref fCT)=true) (bCT:Binds K fdCT ["many","rules","one","other"] []) (GLP:FnOk P w K mg base CX0 2 fLP fdLP ["_law_table_here","_law_parts"] (spPut91 K)) (mLP:mg "_law_put" = some (.ref fLP)) (kLP:PySem.W.keepIn K (.ref fLP)=true) (bLP:Binds K fdLP ["_law_table_here","_law_parts"] []) (GLG:FnOk P w K mg base CX0 3 fLG fdLG ["_law_table_here","_law_rules","_law_parts"] (spGains91 K)) (mLG:mg "_law_gains" = some (.ref fLG)) (kLG:PySem.W.keepIn K (.ref fLG)=true) (bLG:Binds K fdLG ["_law_table_here","_law_rules","_law_parts"] []) (zset:mg "set" = none) (zsorted:mg "sorted" = none) (ztuple:mg "tuple" = none) (zrange:mg "range" = none):FnOk P w K mg base CX0 5 f fd ["_law_many","_law_table_here","_law_rules","_law_one","_law_other"] (spTwo91 K):=by
  refine F.ok scTwo9 (fun vs H Q E h=>?_) (fun cdv A outer s H vs Q E hr h=>?_)
  · obtain ⟨tb,rl,T,rs,x,y,m,rfl,_⟩:=h
    rfl
  · obtain ⟨tb,rl,T,rs,x,y,m,rfl,hT,R,m1,m7,lT1,lT,hrl,hRs,lrs,hx,hy,hxy,ok,q⟩:=h
    have nd:=scTwo9.nd
    have hr2:Room 2 _:=hr.mono (by decide)
    have hr3:Room 3 _:=hr.mono (by decide)
    have hr4:Room 4 _:=hr.mono (by decide)
    have hlen:∀r∈T,r.2.length=m:=fun r h=>(R r h).2
    have cov:∀c,c < m→HasB x c∨HasB y c:=fun c hc=>by
      have:=(hasb_all (m:=m) c).mpr hc
      rw [←hxy,hasb_or] at this
      exact this
    have hps:∀p∈[x,y],p < 2 ^ m:=fun p hp=>by
      rcases List.mem_cons.mp hp with rfl | hp
      · exact hx
      · rw [List.mem_singleton.mp hp]; exact hy
    have cov2:∀c,c < m→∃q∈([x,y]:List Nat).take 2,HasB q c:=fun c hc=>by
      rcases cov c hc with h | h
      · exact ⟨x,List.mem_cons_self ..,h⟩
      · exact ⟨y,List.mem_cons_of_mem _ (List.mem_singleton.mpr rfl),h⟩
    have full:=full_of hps cov2
    refine ⟨_,(pss_cons (ps_asg (pe_call GCT hr4 rfl mCT kCT bCT .nil pass0 (pa_cons (pv 0) (pa_cons (pv 2) (pa_cons (pv 3) (pa_cons (pv 4) pa_nil))))) (pg_tup rfl (pgs_cons (pg_name (i:=5) nd rfl (Or.inl rfl)) (pgs_cons (pg_name (i:=6) nd rfl (Or.inr rfl)) pgs_nil))))
      (pss_cons (ps_if (pt_cmpR op_eq (pv 5) pe_str (nomark _)) (pss_one (ps_ret (pe_cmpR (op_eqD (K:=K) rfl hr.units) (pe_call GLP hr2 rfl mLP kLP bLP .nil pass0 (pa_cons (pv 1) (pa_cons (pe_lst (pa_cons (pv 3) (pa_cons (pv 4) pa_nil))) pa_nil))) (pe_callB (call_sortedS rfl) (by rfl) zsorted PyProof.Rows.boot_sorted (pa_cons (pe_callTy (call_setT (K:=K) rfl rfl hr.units) (by rfl) zset PyProof.Rows.boot_set (pa_cons (pv 1) pa_nil)) pa_nil)) (nomark _)))) pss_nil)
      (pss_cons (ps_set (i:=7) nd rfl (Or.inl rfl) (pe_callTy (call_tupleK (K:=K) rfl) (by rfl) ztuple PyProof.Rows.boot_tuple (pa_cons (pe_comp (xs:=["_law_c"]) (cs ["_law_many","_law_table_here","_law_rules","_law_one","_law_other","_law_word","_law_paper","_law_noughts","_law_ones"] (defScope sTwo9) rfl rfl (by decide +kernel)) rfl (pi_range1 rfl zrange (pa_cons (pv 0) pa_nil)) (fun _ _ _=>pg_name (i:=0) (show (["_law_c","_law_many","_law_table_here","_law_rules","_law_one","_law_other","_law_word","_law_paper","_law_noughts","_law_ones"]:List Str).Nodup by decide +kernel) rfl (Or.inl rfl)) (fun _ _ _=>pts_nil) (fun _ _ _=>pe_int)) pa_nil)))
      (pss_cons (ps_set (i:=8) nd rfl (Or.inl rfl) (pe_callTy (call_tupleK (K:=K) rfl) (by rfl) ztuple PyProof.Rows.boot_tuple (pa_cons (pe_comp (xs:=["_law_c"]) (cs ["_law_many","_law_table_here","_law_rules","_law_one","_law_other","_law_word","_law_paper","_law_noughts","_law_ones"] (defScope sTwo9) rfl rfl (by decide +kernel)) rfl (pi_range1 rfl zrange (pa_cons (pv 0) pa_nil)) (fun _ _ _=>pg_name (i:=0) (show (["_law_c","_law_many","_law_table_here","_law_rules","_law_one","_law_other","_law_word","_law_paper","_law_noughts","_law_ones"]:List Str).Nodup by decide +kernel) rfl (Or.inl rfl)) (fun _ _ _=>pts_nil) (fun _ _ _=>(pe_op op_andN (pe_op op_shrN (pv 7) (pv 0)) pe_int))) pa_nil)))
      (pss_one (ps_ret (pe_and (pe_cmpR op_eq (pv 5) pe_str (nomark _)) (pe_one (pe_call GLG hr3 rfl mLG kLG bLG .nil pass0 (pa_cons (pe_lst (pa_cons (pv 7) (pa_cons (pv 8) pa_nil))) (pa_cons (pv 2) (pa_cons (pe_lst (pa_cons (pv 3) (pa_cons (pv 4) pa_nil))) pa_nil)))))))))))),?_⟩
    refine ⟨_,rfl,_,rfl,_,rfl,_,rfl,m,x,y,rl,rs,rfl,m7,hx,hy,hxy,hrl,hRs,by omega,fun u tg H1 run s1 cv _=>?_⟩
    rcases cv with ⟨b,uns,h2⟩ | ⟨safe,q',sw,hq,hst',_,lsw,h6⟩
    · refine ⟨tg,_,rfl,SqT.of h2,rfl,_,_,rfl,_,_,rfl,rfl,?_⟩
      refine ⟨_,rfl,rfl,_,rfl,ite2 (fun hc=>absurd (of_decide_eq_true hc) (by intro z; injection z with z; revert z; decide)) (fun _=>?_)⟩
      obtain ⟨hb,kp,z0,nx,ny⟩:=torn_some hx run uns
      refine ⟨_,rfl,(m:Int),rfl,by omega,by omega,lc_rangeN (k:=m) (n:=1) (fun j acc H'=>H' = H1∧acc=(List.replicate j (0:Int)).map V.int) (by omega) ⟨rfl,rfl⟩ (fun j acc H' hj h=>?_) (fun j acc H' hj h=>?_) (fun acc H' h=>?_)⟩
      · rw [h.2,List.length_map,List.length_replicate]; exact Nat.le_refl _
      · obtain ⟨rfl,rfl⟩:=h
        refine ⟨rfl,rfl,?_⟩
        rw [List.replicate_succ',List.map_append]
        rfl
      obtain ⟨rfl,rfl⟩:=h
      intro zl hzl
      refine ⟨zl,_,rfl,.inl ⟨SqL.of upd_same,fun zt hzt=>?_⟩⟩
      have sA:=(Same.new (o:=.lst ((List.replicate m (0:Int)).map V.int)) hzl).trans (Same.new (o:=.tup ((List.replicate m (0:Int)).map V.int)) hzt)
      have hztA:(upd (upd H' zl (.lst ((List.replicate m (0:Int)).map V.int))) zt (.tup ((List.replicate m (0:Int)).map V.int))) zt=some (.tup ((List.replicate m (0:Int)).map V.int)):=upd_same
      generalize upd (upd H' zl (.lst ((List.replicate m (0:Int)).map V.int))) zt (.tup ((List.replicate m (0:Int)).map V.int))=HA at sA hztA
      refine ⟨_,rfl,(m:Int),rfl,by omega,by omega,lc_rangeN (k:=m) (n:=1) (fun j acc H2=>H2=HA∧acc=((List.range j).map fun k=>if hasB b k=true then (1:Int) else 0).map V.int) (by omega) ⟨rfl,rfl⟩ (fun j acc H2 hj h=>?_) (fun j acc H2 hj h=>?_) (fun acc H2 h=>?_)⟩
      · rw [h.2,List.length_map,List.length_map,List.length_range]; exact Nat.le_refl _
      · obtain ⟨rfl,rfl⟩:=h
        have ev:vN (b / 2 ^ j&&&1)=V.int (if hasB b j=true then (1:Int) else 0):=by
          have hb:hasB b j=decide (b / 2 ^ j % 2=1):=rfl
          rw [Nat.and_one_is_mod,hb]
          rcases Nat.mod_two_eq_zero_or_one (b / 2 ^ j) with z | z <;> rw [z] <;> rfl
        refine ⟨rfl,_,rfl,_,rfl,b,j,rfl,rfl,b / 2 ^ j,1,rfl,rfl,rfl,?_⟩
        rw [List.range_succ,List.map_append,List.map_append]
        exact congrArg (fun z=>_++[z]) ev
      obtain ⟨rfl,rfl⟩:=h
      have eo:(List.range m).map (fun k=>if hasB b k=true then (1:Int) else 0)=onesL m b:=by
        refine ext_getD (by rw [List.length_map,List.length_range]; unfold onesL; rw [mix_len,List.length_replicate]) fun k hk=>?_
        rw [List.length_map,List.length_range] at hk
        rw [ones_get hk,List.getD_eq_getElem?_getD,List.getElem?_map,range_get2 hk]
        rfl
      rw [eo]
      intro wl hwl
      refine ⟨wl,_,rfl,.inl ⟨SqL.of upd_same,fun ot hot=>?_⟩⟩
      have sB:=(Same.new (o:=.lst ((onesL m b).map V.int)) hwl).trans (Same.new (o:=.tup ((onesL m b).map V.int)) hot)
      have hotB:(upd (upd H2 wl (.lst ((onesL m b).map V.int))) ot (.tup ((onesL m b).map V.int))) ot=some (.tup ((onesL m b).map V.int)):=upd_same
      generalize upd (upd H2 wl (.lst ((onesL m b).map V.int))) ot (.tup ((onesL m b).map V.int))=HB at sB hotB
      refine ⟨_,rfl,rfl,_,rfl,?_⟩
      refine iteT ?_
      refine ⟨_,rfl,_,rfl,(by show 2≤sizeLine; decide),fun l1 hl1=>?_⟩
      have sC:=Same.new (o:=.lst [V.ref zt,V.ref ot]) hl1
      have hl1C:(upd HB l1 (.lst [V.ref zt,V.ref ot])) l1=some (.lst (refsOf [(zt,List.replicate m (0:Int)),(ot,onesL m b)])):=upd_same
      generalize upd HB l1 (.lst [V.ref zt,V.ref ot])=HC at sC hl1C
      refine ⟨_,rfl,_,rfl,_,rfl,(by show 2≤sizeLine; decide),fun l2 hl2=>?_⟩
      have sD:=Same.new (o:=.lst [vN x,vN y]) hl2
      have sAll:=s1.trans (sA.trans (sB.trans (sC.trans sD)))
      have b0:b≠0:=fun z=>nx (by rw [z,Nat.zero_and])
      have eb:bookL m b=[List.replicate m 0,onesL m b]:=if_neg b0
      have lon:(onesL m b).length=m:=by unfold onesL; rw [mix_len,List.length_replicate]
      refine ⟨l1,rl,l2,[(zt,List.replicate m (0:Int)),(ot,onesL m b)],rs,[x,y],m,rfl,SqL.of (sD _ _ hl1C),fun r hr'=>?_,m1,m7,(by show 1≤2; decide),(by show 2≤6; decide),sAll.seq hrl,hRs.same sAll,lrs,SqL.of upd_same,hps,(by show 2≤2; decide),(by show 2≤4; decide),cov2,kp _ eb.symm,⟨_,(pj_torn z0 nx ny hb cov)⟩,fun H9 s9=>q _ (sAll.trans s9)⟩
      rcases List.mem_cons.mp hr' with rfl | hr'
      · exact ⟨(sB.trans (sC.trans sD)) _ _ hztA,List.length_replicate⟩
      · rw [List.mem_singleton.mp hr']
        exact ⟨(sC.trans sD) _ _ hotB,lon⟩
    · refine ⟨tg,_,rfl,SqT.of h6,rfl,_,_,rfl,_,_,rfl,rfl,?_⟩
      refine ⟨_,rfl,rfl,_,rfl,ite2 (fun _=>?_) (fun hc=>absurd (decide_eq_true rfl) hc)⟩
      have okD:∀r∈rs.map Rl.d,ROk T r.1 r.2.1 r.2.2:=fun r hr'=>by
        obtain ⟨r',h1,rfl⟩:=List.mem_map.mp hr'
        exact ok r' h1
      refine ⟨_,rfl,_,rfl,_,rfl,(by show 2≤sizeLine; decide),fun pl hpl=>?_⟩
      have s2:=s1.trans (Same.new (o:=.lst [vN x,vN y]) hpl)
      refine ⟨tb,pl,T,[x,y],m,rfl,s2.seq hT,R.same s2,m1,m7,lT1,lT,SqL.of upd_same,hps,(by show 2≤2; decide),(by show 2≤4; decide),cov2,fun l ws H9 s9 hl9 hw9 Rw9 A9 lw9 mem9=>?_⟩
      have s79:=s2.trans s9
      have hT9:=R.same s79
      refine ⟨_,rfl,tb,m,T,rfl,s79.seq hT,hT9,by omega,fun l2 T' hl2 sub mem nd'=>?_⟩
      have lT':T'.length≤T.length:=by
        have:=nd_len nd' fun k hk=>(mem k).mp hk
        rw [List.length_map,List.length_map] at this
        exact this
      have sA:=Same.new (o:=tsO w l2 T') hl2
      have RA:=hT9.same sA
      refine ⟨l2,m,T',rfl,upd_same,fun r hr0=>RA r (sub r hr0),m1,by omega,fun l3 us hl3 pr up=>?_⟩
      have sB:=Same.new (o:=.lst (refsOf us)) hl3
      have AU:Asc (us.map (·.2)) (T.map (·.2)):=Asc.of up ((pr.map (·.2)).nodup_iff.mpr nd') fun k=>by rw [(pr.map (·.2)).mem_iff,mem k]
      have e9:ws.map (·.2)=us.map (·.2):=Asc.eq (m:=m) A9 AU (fun k=>by
        rw [mem9]
        exact ⟨fun h=>pj_two hlen okD hx cov run safe h,fun h=>pj_own hlen full h⟩) (fun k hk=>((mem9 k).mp hk).len)
      have hus:RowsOk _ m us:=fun r hr'=>(RA.same sB) r (sub r (pr.mem_iff.mp hr'))
      refine ⟨.list ((ws.map (·.2)).map rowD),.list ((us.map (·.2)).map rowD),book_dv ((sA.trans sB) _ _ hw9) (Rw9.same (sA.trans sB)),book_dv upd_same hus,shaped_book _,shaped_book _,noMix_book _ _,?_⟩
      rw [if_neg Bool.false_ne_true,e9,same_book]
      exact q _ (s79.trans (sA.trans sB))
end
end Own
namespace Own
open PySem L2
section
variable {P:Program} {w:World} {K:PySem.W.Frag} {mg:Str→Option Value} {base:Heap}
seal PySem.wpAny
abbrev sSev9:Stmt:=top 44
theorem scSev9:FnScope ["_law_many","_law_table_here","_law_rules","_law_parts"] ["_law_many","_law_table_here","_law_rules","_law_parts"] (defScope sSev9):=⟨rfl,rfl,rfl,by decide +kernel,rfl,by decide +kernel,by decide +kernel⟩
theorem ok_sev91 {f fSF fFL fLP fLG:Addr} {fd fdSF fdFL fdLP fdLG:FuncData} (F:Fun K "_law_several" "_law_several" sSev9 f fd) (GSF:FnOk P w K mg base CX0 7 fSF fdSF ["many","rules","parts"] (spSafe K)) (mSF:mg "is_safe" = some (.ref fSF)) (kSF:PySem.W.keepIn K (.ref fSF)=true) (bSF:Binds K fdSF ["many","rules","parts"] []) (GFL:FnOk P w K mg base CX0 6 fFL fdFL ["many","rules","parts"] (spFilled K)) (mFL:mg "filled" = some (.ref fFL)) (kFL:PySem.W.keepIn K (.ref fFL)=true) (bFL:Binds K fdFL ["many","rules","parts"] []) (GLP:FnOk P w K mg base CX0 2 fLP fdLP ["_law_table_here","_law_parts"] (spPut91 K)) (mLP:mg "_law_put" = some (.ref fLP)) (kLP:PySem.W.keepIn K (.ref fLP)=true) (bLP:Binds K fdLP ["_law_table_here","_law_parts"] []) (GLG:FnOk P w K mg base CX0 3 fLG fdLG ["_law_table_here","_law_rules","_law_parts"] (spGains91 K)) (mLG:mg "_law_gains" = some (.ref fLG)) (kLG:PySem.W.keepIn K (.ref fLG)=true) (bLG:Binds K fdLG ["_law_table_here","_law_rules","_law_parts"] []) (zset:mg "set" = none) (zsorted:mg "sorted" = none):FnOk P w K mg base CX0 8 f fd ["_law_many","_law_table_here","_law_rules","_law_parts"] (spSev91 K):=by
  refine F.ok scSev9 (fun vs H Q E h=>?_) (fun cdv A outer s H vs Q E hr h=>?_)
  · obtain ⟨tb,rl,pl,T,rs,ps,m,rfl,_⟩:=h
    rfl
  · obtain ⟨tb,rl,pl,T,rs,ps,m,rfl,hT,R,m1,m7,lT1,lT,hrl,hRs,lrs,hpl,hps,lp2,lp4,cov,ok,q⟩:=h
    have nd:=scSev9.nd
    have hr2:Room 2 _:=hr.mono (by decide)
    have hr3:Room 3 _:=hr.mono (by decide)
    have hr6:Room 6 _:=hr.mono (by decide)
    have hr7:Room 7 _:=hr.mono (by decide)
    have hlen:∀r∈T,r.2.length=m:=fun r h=>(R r h).2
    have full:=full_of hps cov
    have lp10:ps.length≤10:=by omega
    have hrules:Rules m (rs.map Rl.d):=fun r hr'=>by
      obtain ⟨r',h1,rfl⟩:=List.mem_map.mp hr'
      exact (hRs r' h1).2
    refine ⟨_,(pss_cons (ps_if (pt_val (pe_call GSF hr7 rfl mSF kSF bSF .nil pass0 (pa_cons (pv 0) (pa_cons (pv 2) (pa_cons (pv 3) pa_nil))))) (pss_one (ps_ret (pe_cmpR (op_eqD (K:=K) rfl hr.units) (pe_call GLP hr2 rfl mLP kLP bLP .nil pass0 (pa_cons (pv 1) (pa_cons (pv 3) pa_nil))) (pe_callB (call_sortedS rfl) (by rfl) zsorted PyProof.Rows.boot_sorted (pa_cons (pe_callTy (call_setT (K:=K) rfl rfl hr.units) (by rfl) zset PyProof.Rows.boot_set (pa_cons (pv 1) pa_nil)) pa_nil)) (nomark _)))) pss_nil)
      (pss_one (ps_ret (pe_call GLG hr3 rfl mLG kLG bLG .nil pass0 (pa_cons (pe_ix (ix_tupK (K:=K) rfl) (pe_call GFL hr6 rfl mFL kFL bFL .nil pass0 (pa_cons (pv 0) (pa_cons (pv 2) (pa_cons (pv 3) pa_nil)))) pe_int (fun _ _=>rfl)) (pa_cons (pe_comp (xs:=["_law_rule"]) (cs ["_law_many","_law_table_here","_law_rules","_law_parts"] (defScope sSev9) rfl rfl (by decide +kernel)) rfl (pi_listK (K:=K) rfl (pv 2)) (fun _ _ _=>pg_name (i:=0) (show (["_law_rule","_law_many","_law_table_here","_law_rules","_law_parts"]:List Str).Nodup by decide +kernel) rfl (Or.inl rfl)) (fun _ _ _=>(pts_one (pt_cmpR op_eq (pe_ix (ix_tupK (K:=K) rfl) (pv 0) pe_int (fun _ _=>rfl)) pe_str (nomark _)))) (fun _ _ _=>(pv 0))) (pa_cons (pv 3) pa_nil))))))),?_⟩
    refine ⟨_,rfl,_,rfl,_,rfl,m,rl,pl,rs,ps,rfl,m1,m7,hrl,hRs,by omega,hpl,lp10,full,fun bs H8 s78 isafe=>⟨_,rfl,?_⟩⟩
    cases bs with
    | true=>
      refine iteT ?_
      have safe:=isafe.mp rfl
      have keep:∀r∈rs.map Rl.d,r.1=true→SetOk T r.2.1 r.2.2:=fun r hr' h1=>by
        obtain ⟨r',h2,rfl⟩:=List.mem_map.mp hr'
        have h3:r'.st=true:=h1
        have:=ok r' h2
        unfold ROk at this
        rw [if_pos h3] at this
        exact this
      refine ⟨_,rfl,_,rfl,tb,pl,T,ps,m,rfl,s78.seq hT,R.same s78,m1,m7,lT1,lT,s78.seq hpl,hps,lp2,lp4,cov,fun l ws H9 s9 hl9 hw9 Rw9 A9 lw9 mem9=>?_⟩
      have s79:=s78.trans s9
      have hT9:=R.same s79
      refine ⟨_,rfl,tb,m,T,rfl,s79.seq hT,hT9,by omega,fun l2 T' hl2 sub mem nd'=>?_⟩
      have lT':T'.length≤T.length:=by
        have:=nd_len nd' fun k hk=>(mem k).mp hk
        rw [List.length_map,List.length_map] at this
        exact this
      have sA:=Same.new (o:=tsO w l2 T') hl2
      have RA:=hT9.same sA
      refine ⟨l2,m,T',rfl,upd_same,fun r hr0=>RA r (sub r hr0),m1,by omega,fun l3 us hl3 pr up=>?_⟩
      have sB:=Same.new (o:=.lst (refsOf us)) hl3
      have AU:Asc (us.map (·.2)) (T.map (·.2)):=Asc.of up ((pr.map (·.2)).nodup_iff.mpr nd') fun k=>by rw [(pr.map (·.2)).mem_iff,mem k]
      have e9:ws.map (·.2)=us.map (·.2):=Asc.eq (m:=m) A9 AU (fun k=>by
        rw [mem9]
        exact ⟨fun h=>pj_safe hlen m7 hrules hps lp10 keep safe h,fun h=>pj_own hlen full h⟩) (fun k hk=>((mem9 k).mp hk).len)
      have hus:RowsOk _ m us:=fun r hr'=>(RA.same sB) r (sub r (pr.mem_iff.mp hr'))
      refine ⟨.list ((ws.map (·.2)).map rowD),.list ((us.map (·.2)).map rowD),book_dv ((sA.trans sB) _ _ hw9) (Rw9.same (sA.trans sB)),book_dv upd_same hus,shaped_book _,shaped_book _,noMix_book _ _,?_⟩
      rw [if_neg Bool.false_ne_true,e9,same_book]
      exact q _ (s79.trans (sA.trans sB))
    | false=>
      refine iteF ?_
      have nsafe:List.replicate m 0∉(runT (rs.map Rl.d) 1000 (begT m ps)).1:=fun z=>by
        have:=isafe.mpr z
        cases this
      refine ⟨_,rfl,_,rfl,_,rfl,m,rl,pl,rs,ps,rfl,m1,m7,s78.seq hrl,hRs.same s78,by omega,s78.seq hpl,lp10,full,fun t tl sl ts sw H9 s9 ht htl0 htl hTB _ _ _ _ _ _=>?_⟩
      refine ⟨t,_,_,_,rfl,rfl,SqT.of ht,atI_nat (j:=0) rfl,_,rfl,rl,rfl,⟨_,(s78.trans s9).seq hrl⟩,lc_list (K:=K) (xs:=rs.map fun (r:Rl)=>V.ref r.r) (fun j acc H3=>H3=H9∧acc=((rs.take j).filter fun r=>r.st).map fun (r:Rl)=>V.ref r.r) (by rw [List.length_map]; omega) ⟨rfl,rfl⟩ (fun j acc H3 hj h=>?_) (fun j v acc H3 hx h=>?_) (fun acc H3 h=>?_)⟩
      · obtain ⟨rfl,rfl⟩:=h
        exact ⟨(s78.trans s9).seq hrl,by rw [List.length_map]; exact Nat.le_trans (List.length_filter_le _ _) (List.length_take_le _ _)⟩
      · obtain ⟨rfl,rfl⟩:=h
        rw [List.getElem?_map] at hx
        cases er:rs[j]? with
        | none=>rw [er] at hx; cases hx
        | some r=>
          rw [er] at hx
          obtain rfl:=(Option.some.inj hx).symm
          obtain ⟨r1,_,_⟩:=(hRs.same (s78.trans s9)) r (List.mem_of_getElem? er)
          refine ⟨rfl,_,rfl,r.r,_,_,_,rfl,rfl,SqT.of r1,atI_nat (j:=0) rfl,rfl,_,rfl,?_⟩
          rw [List.take_succ,er]
          cases est:r.st with
          | false=>
            refine ite2 (fun hc=>?_) (fun _=>⟨rfl,?_⟩)
            · exact absurd (of_decide_eq_true hc) (by intro z; injection z with z; revert z; decide)
            · rw [show (some r).toList=[r] from rfl,List.filter_append,List.filter_cons_of_neg (by show ¬r.st=true; rw [est]; exact Bool.false_ne_true),List.filter_nil,List.append_nil]
          | true=>
            refine ite2 (fun _=>⟨_,rfl,rfl,?_⟩) (fun hc=>absurd (decide_eq_true rfl) hc)
            rw [show (some r).toList=[r] from rfl,List.filter_append,List.filter_cons_of_pos (by exact est),List.filter_nil,List.map_append]; rfl
      obtain ⟨rfl,rfl⟩:=h
      rw [List.length_map,List.take_length]
      intro ol hol
      obtain ⟨os,eos⟩:∃os,os=rs.filter fun r=>r.st:=⟨_,rfl⟩
      rw [←eos]
      have los:os.length≤rs.length:=by rw [eos]; exact List.length_filter_le _ _
      have ost:∀r∈os,r.st=true:=fun r hr'=>by rw [eos] at hr'; exact (List.mem_filter.mp hr').2
      have osub:∀r∈os,r∈rs:=fun r hr'=>by rw [eos] at hr'; exact (List.mem_filter.mp hr').1
      have sO:=Same.new (o:=.lst (os.map fun (r:Rl)=>V.ref r.r)) hol
      have okT:∀{x y:Nat},(true,x,y)∈rs.map Rl.d→SetOk (ts.zip (runT (rs.map Rl.d) 1000 (begT m ps)).1) x y:=fun h=>run_setok m7 hrules hps lp10 h
      have pj0:=pj_filled m7 hrules hps lp10
      obtain ⟨_,lnT,hlT⟩:=run_mod m7 hrules hps lp10
      obtain ⟨RT,hRT⟩:∃RT,RT=(runT (rs.map Rl.d) 1000 (begT m ps)).1:=⟨_,rfl⟩
      rw [←hRT] at hTB pj0 lnT hlT nsafe
      rw [←hRT] at okT
      have ook:∀r∈os,ROk (ts.zip RT) r.st r.x r.y:=fun r hr'=>by
        rw [ost r hr']
        refine okT (List.mem_map.mpr ⟨r,osub r hr',?_⟩)
        show (r.st,r.x,r.y)=_
        rw [ost r hr']
      have esnd:(ts.zip RT).map (·.2)=RT:=List.map_snd_zip (by rw [hTB.len]; exact Nat.le_refl _)
      have hTX:=hTB.same sO
      obtain ⟨z1,_⟩:=hTX.zip
      have lz:(ts.zip RT).length=ps.length:=by rw [List.length_zip,hTB.len,lnT,Nat.min_self]
      have sAll:=(s78.trans s9).trans sO
      refine ⟨_,rfl,tl,ol,pl,ts.zip RT,os,ps,m,rfl,by rw [zip_refs hTX.len]; exact SqL.of (sO _ _ htl),(fun w hw=>⟨z1 w hw,hTX.rl _ (List.of_mem_zip (a:=w.1) (b:=w.2) hw).2⟩),m1,m7,by omega,by omega,SqL.of upd_same,(fun r hr'=>(hRs.same sAll) r (osub r hr')),by omega,sAll.seq hpl,hps,lp2,lp4,cov,ook,⟨List.replicate m 0,by rw [esnd]; exact pj0,by rw [esnd]; exact nsafe⟩,fun HZ sZ=>q _ (sAll.trans sZ)⟩
end
end Own
namespace Own
open PySem L2
section
variable {P:Program} {w:World} {K:PySem.W.Frag} {mg:Str→Option Value} {base:Heap}
seal PySem.wpAny
def spLaw (K:PySem.W.Frag):Sp:=fun vs H Q _=>∃(a:Addr) (ns:List Int),vs=[.ref a]∧SqF K H a ns∧ns.length≤63∧∀H',Q (.bl true) H'
abbrev sLaw:Stmt:=top 45
theorem scLaw:FnScope ["_law_script","_law_state","_law_many","_law_whole","_law_table_here","_law_cuts","_law_rules","_law_one","_law_other","_law_parts"] ["_law_script"] (defScope sLaw):=⟨rfl,rfl,rfl,by decide +kernel,rfl,by decide +kernel,by decide +kernel⟩
theorem ok_law {f fT fTB fKE fTW fSV:Addr} {fd fdT fdTB fdKE fdTW fdSV:FuncData} (F:Fun K "law" "law" sLaw f fd) (GT:FnOk P w K mg base CX0 1 fT fdT ["_law_state","_law_most"] (spTakeF K)) (mT:mg "_law_take" = some (.ref fT)) (kT:PySem.W.keepIn K (.ref fT)=true) (bT:Binds K fdT ["_law_state","_law_most"] []) (GTB:FnOk P w K mg base CX0 2 fTB fdTB ["_law_state","_law_many"] (spTable91 K)) (mTB:mg "_law_table" = some (.ref fTB)) (kTB:PySem.W.keepIn K (.ref fTB)=true) (bTB:Binds K fdTB ["_law_state","_law_many"] []) (GKE:FnOk P w K mg base CX0 3 fKE fdKE ["_law_state","_law_many","_law_table_here"] (spKept91 K)) (mKE:mg "_law_kept" = some (.ref fKE)) (kKE:PySem.W.keepIn K (.ref fKE)=true) (bKE:Binds K fdKE ["_law_state","_law_many","_law_table_here"] []) (GTW:FnOk P w K mg base CX0 5 fTW fdTW ["_law_many","_law_table_here","_law_rules","_law_one","_law_other"] (spTwo91 K)) (mTW:mg "_law_two" = some (.ref fTW)) (kTW:PySem.W.keepIn K (.ref fTW)=true) (bTW:Binds K fdTW ["_law_many","_law_table_here","_law_rules","_law_one","_law_other"] []) (GSV:FnOk P w K mg base CX0 8 fSV fdSV ["_law_many","_law_table_here","_law_rules","_law_parts"] (spSev91 K)) (mSV:mg "_law_several" = some (.ref fSV)) (kSV:PySem.W.keepIn K (.ref fSV)=true) (bSV:Binds K fdSV ["_law_many","_law_table_here","_law_rules","_law_parts"] []) (zrange:mg "range" = none):FnOk P w K mg base CX0 9 f fd ["_law_script"] (spLaw K):=by
  refine F.ok scLaw (fun vs H Q E h=>?_) (fun cdv A outer s H vs Q E hr h=>?_)
  · obtain ⟨a,ns,rfl,_⟩:=h
    rfl
  · obtain ⟨a,ns,rfl,hS,hlen,q⟩:=h
    have nd:=scLaw.nd
    have hr1:Room 1 _:=hr.mono (by decide)
    have hr2:Room 2 _:=hr.mono (by decide)
    have hr3:Room 3 _:=hr.mono (by decide)
    have hr5:Room 5 _:=hr.mono (by decide)
    have hr8:Room 8 _:=hr.mono (by decide)
    refine ⟨_,(pss_cons (ps_set (i:=1) nd rfl (Or.inr rfl) (pe_lst (pa_cons (pv 0) (pa_cons pe_int pa_nil))))
      (pss_cons (ps_set (i:=2) nd rfl (Or.inr rfl) (pe_op op_addN pe_int (pe_call GT hr1 rfl mT kT bT .nil pass0 (pa_cons (pv 1) (pa_cons pe_int pa_nil)))))
      (pss_cons (ps_set (i:=3) nd rfl (Or.inl rfl) (pe_op op_subN (pe_op op_shl1 pe_int (pv 2)) pe_int))
      (pss_cons (ps_set (i:=4) nd rfl (Or.inl rfl) (pe_call GTB hr2 rfl mTB kTB bTB .nil pass0 (pa_cons (pv 1) (pa_cons (pv 2) pa_nil))))
      (pss_cons (ps_comp (i:=5) (xs:=["_law_k"]) (cs ["_law_script","_law_state","_law_many","_law_whole","_law_table_here","_law_cuts","_law_rules","_law_one","_law_other","_law_parts"] (defScope sLaw) rfl rfl (by decide +kernel)) rfl nd rfl rfl (pi_range1 rfl zrange (pa_cons pe_int pa_nil)) (fun _ _ _=>pg_name (i:=0) (show (["_law_k","_law_script","_law_state","_law_many","_law_whole","_law_table_here","_law_cuts","_law_rules","_law_one","_law_other","_law_parts"]:List Str).Nodup by decide +kernel) rfl (Or.inl rfl)) (fun _ _ _=>pts_nil) (fun _ _ _=>(pe_call GT hr1 rfl mT kT bT .nil pass0 (pa_cons (pv 2) (pa_cons (pe_op op_shl1 pe_int (pv 3)) pa_nil)))))
      (pss_cons (ps_set (i:=6) nd rfl (Or.inl rfl) (pe_call GKE hr3 rfl mKE kKE bKE .nil pass0 (pa_cons (pv 1) (pa_cons (pv 2) (pa_cons (pv 4) pa_nil)))))
      (pss_cons (ps_for PassesOwn.never rfl (pi_listK (K:=K) rfl (pe_lst (pa_cons (pe_tup (pa_cons (pe_ix (ix_listK (K:=K) rfl) (pv 5) pe_int (fun _ _=>rfl)) (pa_cons (pe_op op_andN (pe_ix (ix_listK (K:=K) rfl) (pv 5) pe_int (fun _ _=>rfl)) (pe_ix (ix_listK (K:=K) rfl) (pv 5) pe_int (fun _ _=>rfl))) pa_nil))) (pa_cons (pe_tup (pa_cons (pe_ix (ix_listK (K:=K) rfl) (pv 5) pe_int (fun _ _=>rfl)) (pa_cons (pe_ix (ix_listK (K:=K) rfl) (pv 5) pe_int (fun _ _=>rfl)) pa_nil))) pa_nil)))) (pg_tupK (K:=K) (n:=2) rfl rfl (pgs_cons (pg_name (i:=7) nd rfl (Or.inl rfl)) (pgs_cons (pg_name (i:=8) nd rfl (Or.inl rfl)) pgs_nil)) rfl rfl) (pss_one (ps_if (pt_not (pt_val (pe_call GTW hr5 rfl mTW kTW bTW .nil pass0 (pa_cons (pv 2) (pa_cons (pv 4) (pa_cons (pv 6) (pa_cons (pv 7) (pa_cons (pe_op op_orN (pe_op op_subN (pv 3) (pv 7)) (pv 8)) pa_nil)))))))) (pss_one (ps_ret pe_bl)) pss_nil)))
      (pss_cons (ps_set (i:=9) nd rfl (Or.inl rfl) (pe_lst (pa_cons (pe_ix (ix_listK (K:=K) rfl) (pv 5) pe_int (fun _ _=>rfl)) (pa_cons (pe_op op_orN (pe_op op_subN (pv 3) (pe_ix (ix_listK (K:=K) rfl) (pv 5) pe_int (fun _ _=>rfl))) (pe_ix (ix_listK (K:=K) rfl) (pv 5) pe_int (fun _ _=>rfl))) (pa_cons (pe_ix (ix_listK (K:=K) rfl) (pv 5) pe_int (fun _ _=>rfl)) (pa_cons (pe_op op_andN (pe_ix (ix_listK (K:=K) rfl) (pv 5) pe_int (fun _ _=>rfl)) (pe_ix (ix_listK (K:=K) rfl) (pv 5) pe_int (fun _ _=>rfl))) pa_nil))))))
      (pss_one (ps_ret (pe_call GSV hr8 rfl mSV kSV bSV .nil pass0 (pa_cons (pv 2) (pa_cons (pv 4) (pa_cons (pv 6) (pa_cons (pe_slice sl_list (pv 9) po_none (po_some (pe_op op_addN pe_int (pe_call GT hr1 rfl mT kT bT .nil pass0 (pa_cons (pv 1) (pa_cons pe_int pa_nil)))))) pa_nil))))))))))))))),?_⟩
    refine ⟨_,rfl,(by show 2≤sizeLine; decide),fun st hst=>?_⟩
    have S0:=STF.start hS hst
    generalize upd H st (.lst [.ref a,.int 0])=H0 at S0
    refine ⟨_,rfl,st,ns,0,7,rfl,S0,by omega,hlen,by decide,fun r1 H1 a1 b1 S1 B1=>?_⟩
    obtain ⟨n1,rfl,hn1⟩:=nat_of (n:=7) a1 b1
    refine ⟨1,n1,rfl,rfl,?_⟩
    have m1:1≤1 + n1:=by omega
    have m7:1 + n1≤7:=by omega
    dsimp only
    generalize 1 + n1=m at m1 m7
    have pw0:0 < 2 ^ m:=Nat.two_pow_pos m
    have p7:=pow7 m7
    refine ⟨_,rfl,m,rfl,rfl,by omega,2 ^ m,1,rfl,rfl,pw0,?_⟩
    refine ⟨_,rfl,_,rfl,st,ns,1,m,rfl,S1,by omega,hlen,m1,m7,fun tb T k2 H2 lT1 lT htb0 htb R hk2 S2 B2 ntb=>?_⟩
    refine ⟨8,rfl,by decide,by decide,lc_rangeN (k:=8) (n:=1) (fun j acc H'=>∃xs:List Nat,acc=xs.map vN∧xs.length=j∧(∀x∈xs,x < 2 ^ m)∧STF K H' st ns (k2 + j)∧But st H2 H') (by decide) ⟨[],rfl,rfl,(fun x h=>absurd h List.not_mem_nil),S2,But.refl _ _⟩ (fun j acc H' hj h=>?_) (fun j acc H' hj h=>?_) (fun acc H' h=>?_)⟩
    · obtain ⟨xs,rfl,e,_⟩:=h
      rw [List.length_map,e]; exact Nat.le_refl _
    · obtain ⟨xs,rfl,e,hxs,S',B'⟩:=h
      refine ⟨rfl,_,rfl,_,rfl,m,rfl,rfl,by omega,st,ns,k2 + j,((2 ^ m:Nat):Int),rfl,S',by omega,hlen,by omega,fun r H3 a3 b3 S3 B3=>?_⟩
      obtain ⟨x,rfl,hx⟩:=nat_of a3 b3
      refine ⟨xs++[x],by rw [List.map_append]; rfl,by rw [List.length_append,e]; rfl,fun z hz=>?_,S3,B'.trans B3⟩
      rcases List.mem_append.mp hz with hz | hz
      · exact hxs z hz
      · rw [List.mem_singleton.mp hz]; exact hx
    obtain ⟨xs,rfl,exl,hxs,S3,B3⟩:=h
    intro cl hcl
    obtain ⟨_,ncl⟩:=stf_fresh S3 (But.refl _ _) hcl
    have sC:=Same.new (o:=.lst (xs.map vN)) hcl
    have hcl4:(upd H' cl (.lst (xs.map vN))) cl=some (.lst (xs.map vN)):=upd_same
    have S4:=S3.same sC
    have B4:=B3.trans sC.but
    generalize upd H' cl (.lst (xs.map vN))=H4 at hcl4 S4 B4
    have htb4:=B4 _ _ htb ntb
    have R4:RowsOk H4 m T:=fun r hr'=>⟨stf_tup S2 B4 (R r hr').1,(R r hr').2⟩
    refine ⟨_,rfl,_,rfl,_,rfl,st,tb,ns,k2 + 8,m,T,rfl,S4,by omega,hlen,m1,m7,htb4,ntb,R4,by omega,fun rs rl k5 H5 lrs hRs ok hrl0 nrl hrl hk5 S5 B5=>?_⟩
    have htb5:=B5 _ _ htb4 ntb
    have hcl5:=B5 _ _ hcl4 ncl
    have R5:RowsOk H5 m T:=fun r hr'=>⟨stf_tup S4 B5 (R4 r hr').1,(R4 r hr').2⟩
    have cv:∀i,i < 8→(xs.map vN)[i]? = some (vN (xs.getD i 0)):=fun i hi=>by rw [List.getElem?_map,List.getD_eq_getElem?_getD,List.getElem?_eq_getElem (show i < xs.length by omega)]; rfl
    have cl2:∀i,i < 8→xs.getD i 0 < 2 ^ m:=fun i hi=>hxs _ (by rw [List.getD_eq_getElem?_getD,List.getElem?_eq_getElem (show i < xs.length by omega)]; exact List.getElem_mem _)
    have sub1:∀{z:Nat},z < 2 ^ m→2 ^ m - 1 - z < 2 ^ m:=fun hz=>by omega
    have orall:∀{z u:Nat},z < 2 ^ m→u < 2 ^ m→z|||(2 ^ m - 1 - z|||u)=2 ^ m - 1:=fun {z u} hz hu=>bits_eq fun c=>by
      rw [hasb_or,hasb_or,hasb_all]
      constructor
      · rintro (h | h | h)
        · exact hasb_lt hz h
        · exact hasb_lt (sub1 hz) h
        · exact hasb_lt hu h
      · intro hc
        by_cases h:HasB z c
        · exact .inl h
        · refine .inr (.inl ?_)
          show (2 ^ m - 1 - z).testBit c=true
          rw [show 2 ^ m - 1 - z=2 ^ m - (z + 1) by omega,Nat.testBit_two_pow_sub_succ hz,decide_eq_true hc,Bool.true_and]
          cases e:z.testBit c with
          | false=>rfl
          | true=>exact absurd e h
    have a12:xs.getD 1 0&&&xs.getD 2 0 < 2 ^ m:=Nat.lt_of_le_of_lt Nat.and_le_left (cl2 1 (by decide))
    have a72:xs.getD 7 0&&&xs.getD 2 0 < 2 ^ m:=Nat.lt_of_le_of_lt Nat.and_le_left (cl2 7 (by decide))
    refine ⟨_,rfl,cl,_,_,_,rfl,rfl,SqL.of (hcl5),atI_nat (j:=0) (cv 0 (by decide)),_,rfl,cl,_,_,_,rfl,rfl,SqL.of (hcl5),atI_nat (j:=1) (cv 1 (by decide)),_,rfl,cl,_,_,_,rfl,rfl,SqL.of (hcl5),atI_nat (j:=2) (cv 2 (by decide)),xs.getD 1 0,xs.getD 2 0,rfl,rfl,(by show 2≤sizeLine; decide),fun p0 hp0=>?_⟩
    have sP:=Same.new (o:=.tup [vN (xs.getD 0 0),vN (xs.getD 1 0&&&xs.getD 2 0)]) hp0
    have hp0A:(upd H5 p0 (.tup [vN (xs.getD 0 0),vN (xs.getD 1 0&&&xs.getD 2 0)])) p0=some (.tup [vN (xs.getD 0 0),vN (xs.getD 1 0&&&xs.getD 2 0)]):=upd_same
    dsimp (config:={ proj:=false,iota:=false }) only
    generalize upd H5 p0 (.tup [vN (xs.getD 0 0),vN (xs.getD 1 0&&&xs.getD 2 0)])=HA at sP hp0A
    refine ⟨_,rfl,cl,_,_,_,rfl,rfl,SqL.of (sP _ _ hcl5),atI_nat (j:=3) (cv 3 (by decide)),_,rfl,cl,_,_,_,rfl,rfl,SqL.of (sP _ _ hcl5),atI_nat (j:=1) (cv 1 (by decide)),(by show 2≤sizeLine; decide),fun p1 hp1=>?_⟩
    have sQ:=Same.new (o:=.tup [vN (xs.getD 3 0),vN (xs.getD 1 0)]) hp1
    have hp1A:(upd HA p1 (.tup [vN (xs.getD 3 0),vN (xs.getD 1 0)])) p1=some (.tup [vN (xs.getD 3 0),vN (xs.getD 1 0)]):=upd_same
    generalize upd HA p1 (.tup [vN (xs.getD 3 0),vN (xs.getD 1 0)])=HB at sQ hp1A
    refine ⟨(by show 2≤sizeLine; decide),fun ll hll=>?_⟩
    have sL:=Same.new (o:=.lst [V.ref p0,V.ref p1]) hll
    have hllC:(upd HB ll (.lst [V.ref p0,V.ref p1])) ll=some (.lst [V.ref p0,V.ref p1]):=upd_same
    have s5C:=(sP.trans sQ).trans sL
    have hp0C:=(sQ.trans sL) _ _ hp0A
    have hp1C:=sL _ _ hp1A
    generalize upd HB ll (.lst [V.ref p0,V.ref p1])=HC at sL hllC s5C hp0C hp1C
    clear sP sQ sL hp0A hp1A hp0 hp1 hll
    refine ⟨ll,rfl,⟨_,SqL.of hllC⟩,?_⟩
    refine (for_list (K:=K) (xs:=[V.ref p0,V.ref p1]) (fun i σ HX=>(∃v7 v8,σ=[some (.ref a),some (.ref st),some (vN m),some (vN (2 ^ m - 1)),some (.ref tb),some (.ref cl),some (.ref rl),v7,v8,none])∧Same HC HX) ⟨⟨none,none,rfl⟩,Same.refl _⟩ (fun i σ HX _ h=>SqL.of (h.2 _ _ hllC)) ?_ ?_)
    · rintro i v σ HD hv ⟨⟨v7,v8,rfl⟩,sD⟩
      obtain ⟨pq,z,u,rfl,hpq,hz,hu⟩:∃(pq:Addr) (z u:Nat),v=V.ref pq∧HC pq=some (.tup [vN z,vN u])∧z < 2 ^ m∧u < 2 ^ m:=by
        match i,hv with
        | 0,hv=>exact ⟨p0,_,_,(Option.some.inj hv).symm,hp0C,cl2 0 (by decide),a12⟩
        | 1,hv=>exact ⟨p1,_,_,(Option.some.inj hv).symm,hp1C,cl2 3 (by decide),cl2 1 (by decide)⟩
      have s5D:=s5C.trans sD
      refine ⟨pq,_,rfl,SqT.of (sD _ _ hpq),rfl,_,_,rfl,_,_,rfl,rfl,?_⟩
      refine ⟨_,rfl,_,rfl,_,rfl,_,rfl,_,rfl,_,rfl,2 ^ m - 1,z,rfl,rfl,(by show z≤2 ^ m - 1; omega),_,rfl,2 ^ m - 1 - z,u,rfl,rfl,tb,rl,T,rs,z,2 ^ m - 1 - z|||u,m,rfl,SqL.of (s5D _ _ htb5),R5.same s5D,m1,m7,lT1,lT,SqL.of (s5D _ _ hrl),hRs.same s5D,by omega,hz,Nat.or_lt_two_pow (sub1 hz) hu,orall hz hu,ok,fun HE sE=>⟨_,rfl,?_⟩⟩
      exact iteF ⟨⟨_,_,rfl⟩,sD.trans sE⟩
    · rintro σ HD ⟨⟨v7,v8,rfl⟩,sD⟩
      have s5D:=s5C.trans sD
      have hclD:=s5D _ _ hcl5
      refine ⟨_,rfl,cl,_,_,_,rfl,rfl,SqL.of (hclD),atI_nat (j:=4) (cv 4 (by decide)),_,rfl,_,rfl,cl,_,_,_,rfl,rfl,SqL.of (hclD),atI_nat (j:=4) (cv 4 (by decide)),2 ^ m - 1,xs.getD 4 0,rfl,rfl,(by show xs.getD 4 0≤2 ^ m - 1; have:=cl2 4 (by decide); omega),_,rfl,cl,_,_,_,rfl,rfl,SqL.of (hclD),atI_nat (j:=5) (cv 5 (by decide)),2 ^ m - 1 - xs.getD 4 0,xs.getD 5 0,rfl,rfl,_,rfl,cl,_,_,_,rfl,rfl,SqL.of (hclD),atI_nat (j:=6) (cv 6 (by decide)),_,rfl,cl,_,_,_,rfl,rfl,SqL.of (hclD),atI_nat (j:=7) (cv 7 (by decide)),_,rfl,cl,_,_,_,rfl,rfl,SqL.of (hclD),atI_nat (j:=2) (cv 2 (by decide)),xs.getD 7 0,xs.getD 2 0,rfl,rfl,(by show 4≤sizeLine; decide),fun qp hqp=>?_⟩
      obtain ⟨c4,e4⟩:∃v,v=xs.getD 4 0:=⟨_,rfl⟩
      obtain ⟨c5,e5⟩:∃v,v=2 ^ m - 1 - xs.getD 4 0|||xs.getD 5 0:=⟨_,rfl⟩
      obtain ⟨c6,e6⟩:∃v,v=xs.getD 6 0:=⟨_,rfl⟩
      obtain ⟨c7,e7⟩:∃v,v=xs.getD 7 0&&&xs.getD 2 0:=⟨_,rfl⟩
      have h4:c4 < 2 ^ m:=by rw [e4]; exact cl2 4 (by decide)
      have h5:c5 < 2 ^ m:=by rw [e5]; exact Nat.or_lt_two_pow (sub1 (cl2 4 (by decide))) (cl2 5 (by decide))
      have h6:c6 < 2 ^ m:=by rw [e6]; exact cl2 6 (by decide)
      have h7:c7 < 2 ^ m:=by rw [e7]; exact a72
      have e45:c4|||c5=2 ^ m - 1:=by rw [e4,e5]; exact orall (cl2 4 (by decide)) (cl2 5 (by decide))
      dsimp only
      rw [←e5,←e4,←e6,←e7]
      obtain ⟨_,nqp⟩:=stf_fresh (S5.same s5D) (But.refl _ _) hqp
      have sF:=s5D.trans (Same.new (o:=.lst [vN c4,vN c5,vN c6,vN c7]) hqp)
      have hqpF:(upd HD qp (.lst [vN c4,vN c5,vN c6,vN c7])) qp=some (.lst ([c4,c5,c6,c7].map vN)):=upd_same
      generalize upd HD qp (.lst [vN c4,vN c5,vN c6,vN c7])=HF at sF hqpF
      refine ⟨_,rfl,_,rfl,_,rfl,_,rfl,_,rfl,st,ns,k5,3,rfl,S5.same sF,by omega,hlen,by decide,fun r9 HG a9 b9 SG BG=>?_⟩
      obtain ⟨n9,rfl,hn9⟩:=nat_of (n:=3) a9 b9
      have hqpG:=BG _ _ hqpF nqp
      refine ⟨2,n9,rfl,rfl,((2 + n9:Nat):Int),rfl,qp,_,rfl,SqL.of hqpG,fun sp hsp=>?_⟩
      rw [cut_take,←List.map_take]
      have sH:=Same.new (o:=.lst (([c4,c5,c6,c7].take (2 + n9)).map vN)) hsp
      have htbG:=BG _ _ (sF _ _ htb5) ntb
      have hrlG:=BG _ _ (sF _ _ hrl) nrl
      have RG:RowsOk HG m T:=fun r hr'=>⟨stf_tup (S5.same sF) BG ((R5.same sF) r hr').1,(R5 r hr').2⟩
      have hRsG:RulesAt HG m rs:=fun r hr'=>⟨stf_tup (S5.same sF) BG ((hRs.same sF) r hr').1,(hRs r hr').2⟩
      have lps:([c4,c5,c6,c7].take (2 + n9)).length=2 + n9:=by rw [List.length_take]; show min (2 + n9) 4=_; omega
      have hps:∀p∈[c4,c5,c6,c7],p < 2 ^ m:=fun p hp=>by
        simp only [List.mem_cons,List.not_mem_nil,or_false] at hp
        rcases hp with rfl | rfl | rfl | rfl <;> assumption
      refine ⟨tb,rl,sp,T,rs,[c4,c5,c6,c7].take (2 + n9),m,rfl,sH.seq (SqL.of htbG),RG.same sH,m1,m7,lT1,lT,sH.seq (SqL.of hrlG),hRsG.same sH,by omega,SqL.of upd_same,(fun p hp=>hps p (List.mem_of_mem_take hp)),by omega,by omega,fun c hc=>?_,ok,fun HZ sZ=>q _⟩
      rw [List.take_take,Nat.min_eq_left (by omega)]
      have:=(hasb_all (m:=m) c).mpr hc
      rw [←e45,hasb_or] at this
      rcases this with h | h
      · exact ⟨c4,List.mem_cons_self ..,h⟩
      · exact ⟨c5,List.mem_cons_of_mem _ (List.mem_cons_self ..),h⟩
end
end Own
namespace Own
open PySem L2
section
variable {P:Program} {w:World} {K:PySem.W.Frag} {mg:Str→Option Value} {base:Heap}
seal PySem.wpAny
abbrev sHas:Stmt:=top 5
theorem scHas:FnScope ["some","column"] ["some","column"] (defScope sHas):=⟨rfl,rfl,rfl,by decide +kernel,rfl,by decide +kernel,by decide +kernel⟩
theorem ok_has {f:Addr} {fd:FuncData} (F:Fun K "has_column" "has_column" sHas f fd):FnOk P w K mg base CX0 1 f fd ["some","column"] spHas:=by
  refine F.ok scHas (fun vs H Q E h=>?_) (fun cdv A outer s H vs Q E hr h=>?_)
  · obtain ⟨a,k,rfl,_⟩:=h
    rfl
  · obtain ⟨a,k,rfl,q⟩:=h
    refine ⟨_,pss_one (ps_ret (pe_cmpR op_eq (pe_op op_and (pe_op op_shr (pv 0) (pv 1)) pe_int) pe_int (nomark _))),?_⟩
    refine ⟨_,rfl,_,rfl,_,_,rfl,rfl,(by omega),_,_,rfl,rfl,rfl,?_⟩
    show Q (V.bl (decide (V.int (Builtin.bitAnd ((a:Int) / 2 ^ (k:Int).toNat) 1)=V.int 1))) H
    rw [has_eq]
    exact q
abbrev sCols:Stmt:=top 6
theorem scCols:FnScope ["some"] ["some"] (defScope sCols):=⟨rfl,rfl,rfl,by decide +kernel,rfl,by decide +kernel,by decide +kernel⟩
theorem ok_cols {f fH:Addr} {fd fdH:FuncData} (F:Fun K "columns_of" "columns_of" sCols f fd) (GH:FnOk P w K mg base CX0 1 fH fdH ["some","column"] spHas) (mH:mg "has_column" = some (.ref fH)) (kH:PySem.W.keepIn K (.ref fH)=true) (bH:Binds K fdH ["some","column"] []) (zR:mg "range" = none):FnOk P w K mg base CX0 2 f fd ["some"] spCols:=by
  refine F.ok scCols (fun vs H Q E h=>?_) (fun cdv A outer s H vs Q E hr h=>?_)
  · obtain ⟨a,rfl,_⟩:=h
    rfl
  · obtain ⟨a,rfl,ha,q⟩:=h
    refine ⟨_,pss_one (ps_ret (pe_comp (xs:=["column"]) (cs ["some"] (defScope sCols) rfl rfl (by decide +kernel)) rfl (pi_range1 rfl zR (pa_cons (pe_bm0 PySem.F.plainAttrs_int PySem.F.slot_int_bit_length PySem.F.type_int_bit_length mt_bitlen (pv 0)) pa_nil))
      (fun _ _ _=>pg_name (i:=0) (show (["column","some"]:List Str).Nodup by decide +kernel) rfl (Or.inl rfl)) (fun _ _ _=>pts_one (pt_val (pe_call GH hr rfl mH kH bH .nil pass0 (pa_cons (pv 1) (pa_cons (pv 0) pa_nil))))) (fun _ _ _=>pv 0))),?_⟩
    refine ⟨_,rfl,rfl,(a:Int),rfl,rfl,_,rfl,(by omega),?_,?_⟩
    · have:=bitsN_le ha
      show ((bitsN a:Nat):Int) < _
      omega
    · refine lc_range (lo:=0) (k:=((bitsN a:Nat):Int).toNat) (n:=1) (fun i acc H'=>H' = H∧acc=((List.range i).filter (hasB a)).map vN) ?_ ⟨rfl,rfl⟩ (fun i acc H' hi h=>?_) (fun i acc H' hi h=>?_) (fun acc H' h=>?_)
      · have:=bitsN_le ha
        omega
      · rw [h.2,List.length_map]
        exact Nat.le_trans (List.length_filter_le _ _) (by simp)
      · obtain ⟨rfl,rfl⟩:=h
        refine ⟨rfl,_,rfl,_,rfl,a,i,?_,_,rfl,?_⟩
        · show [vN a,V.int (0 + (i:Int))]=_
          rw [Int.zero_add]; rfl
        · refine ite2 (fun hc=>?_) (fun hc=>?_)
          · refine ⟨_,rfl,rfl,?_⟩
            rw [filt_succ,if_pos hc,List.map_append,Int.zero_add]
            rfl
          · refine ⟨rfl,?_⟩
            rw [filt_succ,if_neg hc,List.append_nil]
      · obtain ⟨rfl,rfl⟩:=h
        intro p hp
        exact q p hp
abbrev sAll:Stmt:=top 7
theorem scAll:FnScope ["many"] ["many"] (defScope sAll):=⟨rfl,rfl,rfl,by decide +kernel,rfl,by decide +kernel,by decide +kernel⟩
theorem ok_all {f:Addr} {fd:FuncData} (F:Fun K "all_of" "all_of" sAll f fd):FnOk P w K mg base CX0 1 f fd ["many"] spAllOf:=by
  refine F.ok scAll (fun vs H Q E h=>?_) (fun cdv A outer s H vs Q E hr h=>?_)
  · obtain ⟨m,rfl,_⟩:=h
    rfl
  · obtain ⟨m,rfl,hm,q⟩:=h
    refine ⟨_,pss_one (ps_ret (pe_op op_sub (pe_op op_shl pe_int (pv 0)) pe_int)),?_⟩
    refine ⟨_,rfl,_,_,rfl,rfl,cpow1 hm,_,_,rfl,rfl,?_⟩
    show Q (V.int (1 * 2 ^ (m:Int).toNat - 1)) H
    have pw:0 < 2 ^ m:=Nat.two_pow_pos m
    have e:(1:Int) * 2 ^ (m:Int).toNat - 1=((2 ^ m - 1:Nat):Int):=by rw [shl1]; omega
    rw [e]
    exact q
abbrev sWithin:Stmt:=top 8
def spWithin:Sp:=fun vs H Q _=>∃a b:Nat,vs=[.int (a:Int),.int (b:Int)]∧Q (.bl (decide (a&&&b=a))) H
theorem scWithin:FnScope ["one","other"] ["one","other"] (defScope sWithin):=⟨rfl,rfl,rfl,by decide +kernel,rfl,by decide +kernel,by decide +kernel⟩
theorem ok_within {f:Addr} {fd:FuncData} (F:Fun K "is_within" "is_within" sWithin f fd):FnOk P w K mg base CX0 1 f fd ["one","other"] spWithin:=by
  refine F.ok scWithin (fun vs H Q E h=>?_) (fun cdv A outer s H vs Q E hr h=>?_)
  · obtain ⟨a,b,rfl,_⟩:=h
    rfl
  · obtain ⟨a,b,rfl,q⟩:=h
    refine ⟨_,pss_one (ps_ret (pe_cmpR op_eq (pe_op op_and (pv 0) (pv 1)) (pv 0) (nomark _))),?_⟩
    refine ⟨_,rfl,_,rfl,_,_,rfl,rfl,_,rfl,rfl,?_⟩
    show Q (V.bl (decide (V.int (Builtin.bitAnd (a:Int) (b:Int))=V.int (a:Int)))) H
    rw [bitAnd_nat,dec_int]
    have e:(((a&&&b:Nat):Int) == (a:Int))=decide (a&&&b=a):=by
      rw [Bool.eq_iff_iff,beq_iff_eq,decide_eq_true_iff]
      exact Int.ofNat_inj
    rw [e]
    exact q
abbrev sCanUse:Stmt:=top 10
theorem scCanUse:FnScope ["rule","block","taken"] ["rule","block"] (defScope sCanUse):=⟨rfl,rfl,rfl,by decide +kernel,rfl,by decide +kernel,by decide +kernel⟩
theorem ok_canuse {f:Addr} {fd:FuncData} (F:Fun K "can_use" "can_use" sCanUse f fd):FnOk P w K mg base CX0 1 f fd ["rule","block"] spUsable:=by
  refine F.ok scCanUse (fun vs H Q E h=>?_) (fun cdv A outer s H vs Q E hr h=>?_)
  · obtain ⟨r,st,x,y,b,rfl,_⟩:=h
    rfl
  · obtain ⟨r,st,x,y,b,rfl,hR,q⟩:=h
    have nd:=scCanUse.nd
    refine ⟨_,(pss_cons (ps_if (pt_cmpR op_neN (pe_op op_andN (pe_ix (ix_tupK (K:=K) rfl) (pv 0) pe_int (fun _ _=>rfl)) (pv 1)) pe_int (nomark _)) (pss_one (ps_ret pe_bl)) pss_nil)
      (pss_cons (ps_set (i:=2) nd rfl (Or.inl rfl) (pe_op op_andN (pe_ix (ix_tupK (K:=K) rfl) (pv 0) pe_int (fun _ _=>rfl)) (pv 1)))
      (pss_cons (ps_if (pt_cmpR op_eq (pe_ix (ix_tupK (K:=K) rfl) (pv 0) pe_int (fun _ _=>rfl)) pe_str (nomark _)) (pss_one (ps_ret (pe_cmpR op_neN (pv 2) pe_int (nomark _)))) pss_nil)
      (pss_one (ps_ret (pe_and (pe_cmpR op_neN (pv 2) pe_int (nomark _)) (pe_one (pe_cmpR op_neN (pv 2) (pv 1) (nomark _))))))))),?_⟩
    refine ⟨_,rfl,r,_,_,_,rfl,rfl,SqT.of hR,atI_nat (j:=1) rfl,_,rfl,x,b,rfl,rfl,x&&&b,0,rfl,rfl,_,rfl,?_⟩
    cases c1:decide (x&&&b=0) with
    | false=>
      refine iteT ?_
      have:usableB st x y b=false:=by unfold usableB; rw [c1]; rfl
      rw [this] at q
      exact q
    | true=>
      refine iteF ?_
      refine ⟨_,rfl,r,_,_,_,rfl,rfl,SqT.of hR,atI_nat (j:=2) rfl,_,rfl,y,b,rfl,rfl,?_⟩
      refine ⟨_,rfl,r,_,_,_,rfl,rfl,SqT.of hR,atI_nat (j:=0) rfl,rfl,_,rfl,?_⟩
      cases st with
      | true=>
        refine iteT ?_
        have:usableB true x y b = !decide (y&&&b=0):=by unfold usableB; rw [c1]; simp
        rw [this] at q
        exact ⟨_,rfl,y&&&b,0,rfl,rfl,q⟩
      | false=>
        refine ite2 (fun hc=>?_) (fun _=>?_)
        · exact absurd (of_decide_eq_true hc) (by intro z; injection z with z; revert z; decide)
        refine ⟨_,rfl,y&&&b,0,rfl,rfl,_,rfl,?_⟩
        cases c2:decide (y&&&b=0) with
        | true=>
          refine iteF ?_
          have:usableB false x y b=false:=by unfold usableB; rw [c1,c2]; rfl
          rw [this] at q
          exact q
        | false=>
          refine iteT ?_
          have:usableB false x y b = !decide (y&&&b=b):=by unfold usableB; rw [c1,c2]; simp
          rw [this] at q
          exact ⟨_,rfl,_,rfl,y&&&b,b,rfl,rfl,q⟩
abbrev sListed:Stmt:=top 11
theorem scListed:FnScope ["block"] ["block"] (defScope sListed):=⟨rfl,rfl,rfl,by decide +kernel,rfl,by decide +kernel,by decide +kernel⟩
theorem ok_listed {f:Addr} {fd:FuncData} (F:Fun K "listed" "listed" sListed f fd):FnOk P w K mg base CX0 1 f fd ["block"] spListed:=by
  refine F.ok scListed (fun vs H Q E h=>?_) (fun cdv A outer s H vs Q E hr h=>?_)
  · obtain ⟨b,rfl,_⟩:=h
    rfl
  · obtain ⟨b,rfl,q⟩:=h
    refine ⟨_,(pss_cons (ps_if (pt_cmpR op_eqN (pv 0) pe_int (nomark _)) (pss_one (ps_ret (pe_lst pa_nil))) pss_nil)
      (pss_one (ps_ret (pe_lst (pa_cons (pv 0) pa_nil))))),?_⟩
    refine ⟨_,rfl,b,0,rfl,rfl,_,rfl,ite2 (fun hc=>?_) (fun hc=>?_)⟩
    · have b0:b=0:=of_decide_eq_true hc
      refine ⟨(by show 0≤sizeLine; exact Nat.zero_le _),fun p hp=>?_⟩
      have:=q p hp
      rw [if_neg (by omega)] at this
      exact this
    · have b0:0 < b:=Nat.pos_of_ne_zero fun z=>hc (decide_eq_true z)
      refine ⟨_,rfl,(by show 1≤sizeLine; decide),fun p hp=>?_⟩
      have:=q p hp
      rw [if_pos b0] at this
      exact this
abbrev sUsed:Stmt:=top 12
theorem scUsed:FnScope ["rule","fixed","blocks","at","taken","rest"] ["rule","fixed","blocks","at"] (defScope sUsed):=⟨rfl,rfl,rfl,by decide +kernel,rfl,by decide +kernel,by decide +kernel⟩
theorem ok_used {f fI:Addr} {fd fdI:FuncData} (F:Fun K "used" "used" sUsed f fd) (GI:FnOk P w K mg base CX0 1 fI fdI ["block"] spListed) (mI:mg "listed" = some (.ref fI)) (kI:PySem.W.keepIn K (.ref fI)=true) (bI:Binds K fdI ["block"] []):FnOk P w K mg base CX0 2 f fd ["rule","fixed","blocks","at"] (spUsed K):=by
  refine F.ok scUsed (fun vs H Q E h=>?_) (fun cdv A outer s H vs Q E hr h=>?_)
  · obtain ⟨r,l,st,x,y,fx,at_,bs,rfl,_⟩:=h
    rfl
  · obtain ⟨r,l,st,x,y,fx,at_,bs,rfl,hR,hl,hat,hb,hdis,q⟩:=h
    have nd:=scUsed.nd
    refine ⟨_,(pss_cons (ps_set (i:=4) nd rfl (Or.inl rfl) (pe_op op_andN (pe_ix (ix_listK (K:=K) rfl) (pv 2) (pv 3) (fun _ _=>rfl)) (pe_ix (ix_tupK (K:=K) rfl) (pv 0) pe_int (fun _ _=>rfl))))
      (pss_cons (ps_set (i:=5) nd rfl (Or.inl rfl) (pe_op op_andInv (pe_ix (ix_listK (K:=K) rfl) (pv 2) (pv 3) (fun _ _=>rfl)) (pe_un un_inv (pe_ix (ix_tupK (K:=K) rfl) (pv 0) pe_int (fun _ _=>rfl)))))
      (pss_cons (ps_if (pt_cmpR op_eq (pe_ix (ix_tupK (K:=K) rfl) (pv 0) pe_int (fun _ _=>rfl)) pe_str (nomark _)) (pss_one (ps_ret (pe_tup (pa_cons (pe_op op_orN (pv 1) (pv 4)) (pa_cons (pe_op op_cat (pe_op op_cat (pe_slice sl_list (pv 2) po_none (po_some (pv 3))) (pe_call GI hr rfl mI kI bI .nil pass0 (pa_cons (pv 5) pa_nil))) (pe_slice sl_list (pv 2) (po_some (pe_op op_addN (pv 3) pe_int)) po_none)) pa_nil))))) pss_nil)
      (pss_one (ps_ret (pe_tup (pa_cons (pv 1) (pa_cons (pe_op op_cat (pe_op op_cat (pe_slice sl_list (pv 2) po_none (po_some (pv 3))) (pe_lst (pa_cons (pv 4) (pa_cons (pv 5) pa_nil)))) (pe_slice sl_list (pv 2) (po_some (pe_op op_addN (pv 3) pe_int)) po_none)) pa_nil)))))))),?_⟩
    have eb:bs[at_]? = some (bs.getD at_ 0):=by rw [List.getD_eq_getElem?_getD,List.getElem?_eq_getElem hat]; rfl
    have ebv:(bs.map vN)[at_]? = some (vN (bs.getD at_ 0)):=by rw [List.getElem?_map,eb]; rfl
    refine ⟨_,rfl,_,rfl,l,_,_,_,rfl,rfl,hl,atI_nat ebv,_,rfl,r,_,_,_,rfl,rfl,SqT.of hR,atI_nat (j:=2) rfl,bs.getD at_ 0,y,rfl,rfl,?_⟩
    refine ⟨_,rfl,_,rfl,l,_,_,_,rfl,rfl,hl,atI_nat ebv,_,rfl,r,_,_,_,rfl,rfl,SqT.of hR,atI_nat (j:=2) rfl,(y:Int),rfl,bs.getD at_ 0,y,rfl,rfl,?_⟩
    refine ⟨_,rfl,r,_,_,_,rfl,rfl,SqT.of hR,atI_nat (j:=0) rfl,rfl,_,rfl,?_⟩
    have lt:(List.take at_ (bs.map vN)).length≤200:=by rw [List.length_take,List.length_map]; omega
    have ld:(List.drop (at_ + 1) (bs.map vN)).length≤200:=by rw [List.length_drop,List.length_map]; omega
    have szc:∀n:Nat,n≤1000→n≤sizeLine:=fun n h=>Nat.le_of_lt (small1000 h)
    have e1:cutV (bs.map vN) none (some (at_:Int))=List.take at_ (bs.map vN):=cut_take _ _
    have e2:cutV (bs.map vN) (some ((at_ + 1:Nat):Int)) none=List.drop (at_ + 1) (bs.map vN):=cut_drop _ _
    cases st with
    | true=>
      refine iteT ?_
      have eo:behindFx true y fx bs at_=fx|||inN y bs at_:=by
        unfold behindFx
        rw [if_pos rfl]
        exact (or_add fx (inN y bs at_) (dis_sub hdis (sub_in _ y))).symm
      refine ⟨_,rfl,_,rfl,fx,inN y bs at_,rfl,rfl,?_⟩
      refine ⟨_,rfl,_,rfl,(at_:Int),rfl,l,_,rfl,hl,fun p1 hp1=>?_⟩
      rw [e1]
      have s1:=Same.new (o:=.lst (List.take at_ (bs.map vN))) hp1
      refine ⟨_,rfl,outN y bs at_,rfl,fun p3 hp3=>?_⟩
      have s3:=Same.new (o:=.lst ((if 0 < outN y bs at_ then [outN y bs at_] else []).map vN)) hp3
      have l3:((if 0 < outN y bs at_ then [outN y bs at_] else []).map vN).length≤1:=by split <;> simp
      refine ⟨p1,p3,List.take at_ (bs.map vN),(if 0 < outN y bs at_ then [outN y bs at_] else []).map vN,rfl,rfl,s3 _ _ upd_same,upd_same,szc _ (by omega),fun p4 hp4=>?_⟩
      have s4:=Same.new (o:=.lst (List.take at_ (bs.map vN)++(if 0 < outN y bs at_ then [outN y bs at_] else []).map vN)) hp4
      have s14:=(s1.trans s3).trans s4
      refine ⟨_,rfl,_,rfl,at_,1,rfl,rfl,((at_ + 1:Nat):Int),rfl,l,_,rfl,s14.seq hl,fun p5 hp5=>?_⟩
      rw [e2]
      have s5:=Same.new (o:=.lst (List.drop (at_ + 1) (bs.map vN))) hp5
      refine ⟨p4,p5,List.take at_ (bs.map vN)++(if 0 < outN y bs at_ then [outN y bs at_] else []).map vN,List.drop (at_ + 1) (bs.map vN),rfl,rfl,s5 _ _ upd_same,upd_same,szc _ (by rw [List.length_append]; omega),fun p6 hp6=>?_⟩
      have e6:List.take at_ (bs.map vN)++(if 0 < outN y bs at_ then [outN y bs at_] else []).map vN++List.drop (at_ + 1) (bs.map vN)=(behindBs true y bs at_).map vN:=by
        unfold behindBs
        rw [if_pos rfl,List.map_append,List.map_append,List.map_take,List.map_drop]
      rw [e6]
      have s6:=Same.new (o:=.lst ((behindBs true y bs at_).map vN)) hp6
      refine ⟨(by show 2≤sizeLine; decide),fun t ht=>?_⟩
      have s7:=Same.new (o:=.tup [vN (fx|||inN y bs at_),V.ref p6]) ht
      have s16:=(s14.trans s5).trans s6
      exact q t p6 _ (s16.trans s7) (s16.none ht) (by rw [eo]; exact upd_same) ((s14.trans s5).none hp6) (s7 _ _ upd_same)
    | false=>
      refine ite2 (fun hc=>?_) (fun _=>?_)
      · exact absurd (of_decide_eq_true hc) (by intro z; injection z with z; revert z; decide)
      refine ⟨_,rfl,?_⟩
      refine ⟨_,rfl,_,rfl,(at_:Int),rfl,l,_,rfl,hl,fun p1 hp1=>?_⟩
      rw [e1]
      have s1:=Same.new (o:=.lst (List.take at_ (bs.map vN))) hp1
      refine ⟨_,rfl,_,rfl,(by show 2≤sizeLine; decide),fun p3 hp3=>?_⟩
      have s3:=Same.new (o:=.lst [vN (inN y bs at_),vN (outN y bs at_)]) hp3
      refine ⟨p1,p3,List.take at_ (bs.map vN),[vN (inN y bs at_),vN (outN y bs at_)],rfl,rfl,s3 _ _ upd_same,upd_same,szc _ (by show _ + 2≤1000; omega),fun p4 hp4=>?_⟩
      have s4:=Same.new (o:=.lst (List.take at_ (bs.map vN)++[vN (inN y bs at_),vN (outN y bs at_)])) hp4
      have s14:=(s1.trans s3).trans s4
      refine ⟨_,rfl,_,rfl,at_,1,rfl,rfl,((at_ + 1:Nat):Int),rfl,l,_,rfl,s14.seq hl,fun p5 hp5=>?_⟩
      rw [e2]
      have s5:=Same.new (o:=.lst (List.drop (at_ + 1) (bs.map vN))) hp5
      refine ⟨p4,p5,List.take at_ (bs.map vN)++[vN (inN y bs at_),vN (outN y bs at_)],List.drop (at_ + 1) (bs.map vN),rfl,rfl,s5 _ _ upd_same,upd_same,szc _ (by rw [List.length_append]; show _ + 2 + _≤1000; omega),fun p6 hp6=>?_⟩
      have e6:List.take at_ (bs.map vN)++[vN (inN y bs at_),vN (outN y bs at_)]++List.drop (at_ + 1) (bs.map vN)=(behindBs false y bs at_).map vN:=by
        unfold behindBs
        rw [if_neg Bool.false_ne_true,List.map_append,List.map_append,List.map_take,List.map_drop]
        rfl
      rw [e6]
      have s6:=Same.new (o:=.lst ((behindBs false y bs at_).map vN)) hp6
      refine ⟨(by show 2≤sizeLine; decide),fun t ht=>?_⟩
      have s7:=Same.new (o:=.tup [vN fx,V.ref p6]) ht
      have s16:=(s14.trans s5).trans s6
      exact q t p6 _ (s16.trans s7) (s16.none ht) upd_same ((s14.trans s5).none hp6) (s7 _ _ upd_same)
abbrev sBegun:Stmt:=top 13
theorem scBegun:FnScope ["many","some"] ["many","some"] (defScope sBegun):=⟨rfl,rfl,rfl,by decide +kernel,rfl,by decide +kernel,by decide +kernel⟩
theorem ok_begun {f fI fAL:Addr} {fd fdI fdAL:FuncData} (F:Fun K "begun" "begun" sBegun f fd) (GI:FnOk P w K mg base CX0 1 fI fdI ["block"] spListed) (mI:mg "listed" = some (.ref fI)) (kI:PySem.W.keepIn K (.ref fI)=true) (bI:Binds K fdI ["block"] []) (GAL:FnOk P w K mg base CX0 1 fAL fdAL ["many"] spAllOf) (mAL:mg "all_of" = some (.ref fAL)) (kAL:PySem.W.keepIn K (.ref fAL)=true) (bAL:Binds K fdAL ["many"] []):FnOk P w K mg base CX0 2 f fd ["many","some"] (spBegun K):=by
  refine F.ok scBegun (fun vs H Q E h=>?_) (fun cdv A outer s H vs Q E hr h=>?_)
  · obtain ⟨m,x,rfl,_⟩:=h
    rfl
  · obtain ⟨m,x,rfl,m7,hx,q⟩:=h
    have hr1:Room 1 _:=hr.mono (by decide)
    refine ⟨_,(pss_one (ps_ret (pe_tup (pa_cons (pv 1) (pa_cons (pe_call GI hr1 rfl mI kI bI .nil pass0 (pa_cons (pe_op op_andInv (pe_call GAL hr1 rfl mAL kAL bAL .nil pass0 (pa_cons (pv 0) pa_nil)) (pe_un un_inv (pv 1))) pa_nil)) pa_nil))))),?_⟩
    refine ⟨_,rfl,_,rfl,m,rfl,by omega,_,rfl,(x:Int),rfl,2 ^ m - 1,x,rfl,rfl,2 ^ m - 1 - ((2 ^ m - 1)&&&x),rfl,fun p hp=>?_⟩
    have ea:(2 ^ m - 1)&&&x=x:=by rw [Nat.and_comm,Nat.and_two_pow_sub_one_eq_mod,Nat.mod_eq_of_lt hx]
    have e:(if 0 < 2 ^ m - 1 - ((2 ^ m - 1)&&&x) then [2 ^ m - 1 - ((2 ^ m - 1)&&&x)] else [])=beginBs m x:=by
      rw [ea]
      unfold beginBs
      by_cases h:x < 2 ^ m - 1
      · rw [if_pos h,if_pos (by omega)]
      · rw [if_neg h,if_neg (by omega)]
    rw [e]
    have s1:=Same.new (o:=.lst ((beginBs m x).map vN)) hp
    refine ⟨(by show 2≤sizeLine; decide),fun t ht=>?_⟩
    have s2:=Same.new (o:=.tup [vN x,V.ref p]) ht
    exact q t p _ (s1.trans s2) (s1.none ht) upd_same hp (s2 _ _ upd_same)
abbrev sFirst:Stmt:=top 14
theorem scFirst:FnScope ["rules","blocks","number","rule","at","block"] ["rules","blocks"] (defScope sFirst):=⟨rfl,rfl,rfl,by decide +kernel,rfl,by decide +kernel,by decide +kernel⟩
theorem ok_first {f fCU:Addr} {fd fdCU:FuncData} (F:Fun K "first_use" "first_use" sFirst f fd) (GCU:FnOk P w K mg base CX0 1 fCU fdCU ["rule","block"] spUsable) (mCU:mg "can_use" = some (.ref fCU)) (kCU:PySem.W.keepIn K (.ref fCU)=true) (bCU:Binds K fdCU ["rule","block"] []) (zenumerate:mg "enumerate" = none):FnOk P w K mg base CX0 2 f fd ["rules","blocks"] (spFirstUse K):=by
  refine F.ok scFirst (fun vs H Q E h=>?_) (fun cdv A outer s H vs Q E hr h=>?_)
  · obtain ⟨rl,bl,rs,bs,m,rfl,_⟩:=h
    rfl
  · obtain ⟨rl,bl,rs,bs,m,rfl,hrl,hRs,hbl,lr,lb,qn,qs⟩:=h
    have nd:=scFirst.nd
    have hr:Room 1 _:=hr.mono (by decide)
    have lrm:(rs.map fun r=>V.ref r.r).length=rs.length:=List.length_map ..
    have lbm:(bs.map vN).length=bs.length:=List.length_map ..
    refine ⟨_,(pss_cons (ps_for PassesOwn.never rfl (pi_enum (K:=K) rfl rfl zenumerate (pa_cons (pv 0) pa_nil)) (pg_tup rfl (pgs_cons (pg_name (i:=2) nd rfl (Or.inl rfl)) (pgs_cons (pg_name (i:=3) nd rfl (Or.inl rfl)) pgs_nil))) (pss_one (ps_for PassesOwn.never rfl (pi_enum (K:=K) rfl rfl zenumerate (pa_cons (pv 1) pa_nil)) (pg_tup rfl (pgs_cons (pg_name (i:=4) nd rfl (Or.inl rfl)) (pgs_cons (pg_name (i:=5) nd rfl (Or.inl rfl)) pgs_nil))) (pss_one (ps_if (pt_val (pe_call GCU hr rfl mCU kCU bCU .nil pass0 (pa_cons (pv 3) (pa_cons (pv 5) pa_nil)))) (pss_one (ps_ret (pe_tup (pa_cons (pv 2) (pa_cons (pv 4) pa_nil))))) pss_nil)))))
      (pss_one (ps_ret pe_non))),?_⟩
    refine ⟨_,rfl,rl,_,rfl,hrl,for_enum (xs:=rs.map fun r=>V.ref r.r) (fun i σ H'=>(∃v2 v3 v4 v5,σ=[some (.ref rl),some (.ref bl),v2,v3,v4,v5])∧Same H H'∧usesN (rs.map Rl.d) bs i=[]) ⟨⟨none,none,none,none,rfl⟩,Same.refl _,rfl⟩ (fun i σ H' _ h=>h.2.1.seq hrl) ?_ ?_⟩
    · rintro i v σ H0 t0 hv ⟨⟨v2,v3,v4,v5,rfl⟩,s0,u0⟩ ht0
      rw [List.getElem?_map] at hv
      cases er:rs[i]? with
      | none=>rw [er] at hv; cases hv
      | some r=>
        rw [er] at hv
        obtain rfl:=(Option.some.inj hv).symm
        have hi:i < rs.length:=(List.getElem?_eq_some_iff.mp er).1
        have hrm:=List.mem_of_getElem? er
        have s1:=s0.trans (Same.new (o:=.tup [.int (i:Int),V.ref r.r]) ht0)
        refine ⟨t0,_,rfl,SqT.of upd_same,rfl,_,_,rfl,_,_,rfl,rfl,?_⟩
        generalize upd H0 t0 (.tup [.int (i:Int),V.ref r.r])=H1 at s1
        refine ⟨_,rfl,bl,_,rfl,s1.seq hbl,for_enum (xs:=bs.map vN) (fun j σ H'=>(∃v4 v5,σ=[some (.ref rl),some (.ref bl),some (vN i),some (.ref r.r),v4,v5])∧Same H H'∧usesR r.d i bs j=[]) ⟨⟨_,_,rfl⟩,s1,rfl⟩ (fun j σ H' _ h=>h.2.1.seq hbl) ?_ ?_⟩
        · rintro j v σ H2 t2 hv' ⟨⟨v4',v5',rfl⟩,s2,u2⟩ ht2
          rw [List.getElem?_map] at hv'
          cases eb:bs[j]? with
          | none=>rw [eb] at hv'; cases hv'
          | some b=>
            rw [eb] at hv'
            obtain rfl:=(Option.some.inj hv').symm
            have hj:j < bs.length:=(List.getElem?_eq_some_iff.mp eb).1
            have ebd:bs.getD j 0=b:=by rw [List.getD_eq_getElem?_getD,eb]; rfl
            have s3:=s2.trans (Same.new (o:=.tup [.int (j:Int),vN b]) ht2)
            refine ⟨t2,_,rfl,SqT.of upd_same,rfl,_,_,rfl,_,_,rfl,rfl,?_⟩
            generalize upd H2 t2 (.tup [.int (j:Int),vN b])=H3 at s3
            refine ⟨_,rfl,_,rfl,r.r,r.st,r.x,r.y,b,rfl,s3 _ _ (hRs r hrm).1,_,rfl,ite2 (fun hu=>?_) (fun hu=>?_)⟩
            · obtain ⟨us,eu⟩:=uses_first (n:=rs.length) u0 (by rw [rd_at er]; exact u2) hi hj (by rw [rd_at er,ebd]; exact hu)
              refine ⟨_,rfl,_,rfl,(by show 2≤sizeLine; decide),fun t ht=>?_⟩
              exact qs (i,j) us t _ (s3.trans (Same.new ht)) eu (s3.none ht) upd_same
            · refine ⟨⟨_,_,rfl⟩,s3,?_⟩
              rw [usesR_succ,u2,ebd,if_neg (show ¬usB r.d b=true from hu)]; rfl
        · rintro σ H2 ⟨⟨v4',v5',rfl⟩,s2,u2⟩
          rw [lbm] at u2
          refine ⟨⟨_,_,_,_,rfl⟩,s2,?_⟩
          rw [usesN_succ,u0,rd_at er,u2]; rfl
    · rintro σ H' ⟨⟨v2,v3,v4,v5,rfl⟩,s',u'⟩
      rw [lrm] at u'
      exact qn H' s' u'
end
end Own
namespace Own
open PySem L2
section
variable {P:Program} {w:World} {K:PySem.W.Frag} {mg:Str→Option Value} {base:Heap}
seal PySem.wpAny
abbrev sUnf:Stmt:=top 15
theorem scUnf:FnScope ["many","rules","some","now","steps","use"] ["many","rules","some"] (defScope sUnf):=⟨rfl,rfl,rfl,by decide +kernel,rfl,by decide +kernel,by decide +kernel⟩
theorem ok_unf {f fBG fFU fUD:Addr} {fd fdBG fdFU fdUD:FuncData} (F:Fun K "unfolded" "unfolded" sUnf f fd) (GBG:FnOk P w K mg base CX0 2 fBG fdBG ["many","some"] (spBegun K)) (mBG:mg "begun" = some (.ref fBG)) (kBG:PySem.W.keepIn K (.ref fBG)=true) (bBG:Binds K fdBG ["many","some"] []) (GFU:FnOk P w K mg base CX0 2 fFU fdFU ["rules","blocks"] (spFirstUse K)) (mFU:mg "first_use" = some (.ref fFU)) (kFU:PySem.W.keepIn K (.ref fFU)=true) (bFU:Binds K fdFU ["rules","blocks"] []) (GUD:FnOk P w K mg base CX0 2 fUD fdUD ["rule","fixed","blocks","at"] (spUsed K)) (mUD:mg "used" = some (.ref fUD)) (kUD:PySem.W.keepIn K (.ref fUD)=true) (bUD:Binds K fdUD ["rule","fixed","blocks","at"] []):FnOk P w K mg base CX0 3 f fd ["many","rules","some"] (spUnfolded K):=by
  refine F.ok scUnf (fun vs H Q E h=>?_) (fun cdv A outer s H vs Q E hr h=>?_)
  · obtain ⟨m,x,rl,rs,rfl,_⟩:=h
    rfl
  · obtain ⟨m,x,rl,rs,rfl,m7,hx,hrl,hRs,lr,qq⟩:=h
    have nd:=scUnf.nd
    have hr2:Room 2 _:=hr.mono (by decide)
    refine ⟨_,(pss_cons (ps_set (i:=3) nd rfl (Or.inl rfl) (pe_call GBG hr2 rfl mBG kBG bBG .nil pass0 (pa_cons (pv 0) (pa_cons (pv 2) pa_nil)))) (pss_cons (ps_set (i:=4) nd rfl (Or.inl rfl) (pe_lst pa_nil)) (pss_cut (fun σ H'=>∃n,UInv H m x rl rs n σ H') (ps_set (i:=5) nd rfl (Or.inl rfl) (pe_call GFU hr2 rfl mFU kFU bFU .nil pass0 (pa_cons (pv 1) (pa_cons (pe_ix (ix_tupK (K:=K) rfl) (pv 3) pe_int (fun _ _=>rfl)) pa_nil)))) (pss_cons (ps_while PassesOwn.never (pt_cmpR op_notN (pv 5) pe_non (nomark _)) (pss_cons (ps_expr (pe_bm PySem.F.plainAttrs_list PySem.F.slot_list_append PySem.F.type_list_append mt_append (pv 4) (pa_cons (pe_tup (pa_cons (pe_ix (ix_tupK (K:=K) rfl) (pv 5) pe_int (fun _ _=>rfl)) (pa_cons (pe_ix (ix_listK (K:=K) rfl) (pe_ix (ix_tupK (K:=K) rfl) (pv 3) pe_int (fun _ _=>rfl)) (pe_ix (ix_tupK (K:=K) rfl) (pv 5) pe_int (fun _ _=>rfl)) (fun _ _=>rfl)) pa_nil))) pa_nil)))
      (pss_cons (ps_set (i:=3) nd rfl (Or.inl rfl) (pe_call GUD hr2 rfl mUD kUD bUD .nil pass0 (pa_cons (pe_ix (ix_listK (K:=K) rfl) (pv 1) (pe_ix (ix_tupK (K:=K) rfl) (pv 5) pe_int (fun _ _=>rfl)) (fun _ _=>rfl)) (pa_cons (pe_ix (ix_tupK (K:=K) rfl) (pv 3) pe_int (fun _ _=>rfl)) (pa_cons (pe_ix (ix_tupK (K:=K) rfl) (pv 3) pe_int (fun _ _=>rfl)) (pa_cons (pe_ix (ix_tupK (K:=K) rfl) (pv 5) pe_int (fun _ _=>rfl)) pa_nil))))))
      (pss_one (ps_set (i:=5) nd rfl (Or.inl rfl) (pe_call GFU hr2 rfl mFU kFU bFU .nil pass0 (pa_cons (pv 1) (pa_cons (pe_ix (ix_tupK (K:=K) rfl) (pv 3) pe_int (fun _ _=>rfl)) pa_nil)))))))) (pss_one (ps_ret (pe_tup (pa_cons (pe_ix (ix_tupK (K:=K) rfl) (pv 3) pe_int (fun _ _=>rfl)) (pa_cons (pe_ix (ix_tupK (K:=K) rfl) (pv 3) pe_int (fun _ _=>rfl)) (pa_cons (pv 4) pa_nil)))))))))),?_⟩
    refine ⟨_,rfl,_,rfl,m,x,rfl,m7,hx,fun t0 p0 H1 s1 ht0 ht1 hp0 hp1=>?_⟩
    refine ⟨(by show 0≤sizeLine; exact Nat.zero_le _),fun qa hqa=>?_⟩
    have c2:=UCore.begin (rs:=rs) m7 hx s1 hp0 hp1 hqa
    have ht2:=Same.new (o:=.lst []) hqa _ _ ht1
    generalize upd H1 qa (.lst [])=H2 at c2 ht2
    refine ⟨⟨_,rfl,_,rfl,t0,_,_,_,rfl,rfl,SqT.of ht2,atI_nat (j:=1) rfl,rl,p0,rs,beginBs m x,m,rfl,c2.same.seq hrl,hRs.same c2.same,SqL.of c2.hp,lr,(by have:=c2.good.len m7; exact Nat.le_trans this (by decide)),fun H3 s3 hu=>?_,fun u us t5 H3 s3 hu ht5 ht5'=>?_⟩,?_⟩
    · exact ⟨_,_,t0,p0,qa,[],.non,rfl,rfl,s3 _ _ ht2,c2.mono s3,.inl ⟨hu,rfl⟩⟩
    · exact ⟨_,_,t0,p0,qa,[],.ref t5,rfl,rfl,s3 _ _ ht2,c2.mono s3,.inr ⟨u,us,t5,hu,rfl,ht5'⟩⟩
    clear c2 ht2 ht1 hp1 hp0 ht0 s1 hqa
    rintro σ H3 ⟨n0,hinv⟩
    refine ⟨UInv H m x rl rs,⟨n0,hinv⟩,?_⟩
    rintro n _ H4 ⟨s,t,p,qa,sw,v,rfl,en,ht,c,hv⟩
    refine ⟨_,rfl,rfl,_,rfl,?_⟩
    rcases hv with ⟨hu,rfl⟩ | ⟨u,us,t5,hu,rfl,ht5⟩
    · refine iteF ?_
      refine ⟨_,rfl,t,_,_,_,rfl,rfl,SqT.of ht,atI_nat (j:=0) rfl,_,rfl,t,_,_,_,rfl,rfl,SqT.of ht,atI_nat (j:=1) rfl,_,rfl,(by show 3≤sizeLine; decide),fun tt htt=>?_⟩
      have s5:=Same.new (o:=.tup [vN s.fx,V.ref p,V.ref qa]) htt
      have c5:=c.mono s5
      exact qq tt p qa s sw _ (c.run s (.done (by rw [rd_len]; exact hu))) c5.same (c.same.none htt) upd_same c5.hp0 c5.hp c5.hq0 c5.hq c5.st c5.est (by have:=c5.slen; omega) c5.npq
    · refine iteT ?_
      refine ⟨_,fun _ _ h=>h,?_⟩
      obtain ⟨r,er,erd,hu2,ebu,hR⟩:=uses_at (rs:=rs) (u:=u) (by rw [hu]; exact List.mem_cons_self ..) (hRs.same c.same)
      have ebv:(s.bs.map vN)[u.2]? = some (vN (s.bs.getD u.2 0)):=by rw [List.getElem?_map,ebu]; rfl
      have erv:(rs.map fun r=>V.ref r.r)[u.1]? = some (V.ref r.r):=by rw [List.getElem?_map,er]; rfl
      refine ⟨_,rfl,.inl ⟨rfl,_,SqL.of c.hq⟩,_,rfl,t5,_,_,_,rfl,rfl,SqT.of ht5,atI_nat (j:=0) rfl,_,rfl,t,_,_,_,rfl,rfl,SqT.of ht,atI_nat (j:=1) rfl,_,rfl,t5,_,_,_,rfl,rfl,SqT.of ht5,atI_nat (j:=1) rfl,p,_,_,_,rfl,rfl,SqL.of c.hp,atI_nat ebv,(by show 2≤sizeLine; decide),fun w hw=>?_⟩
      have sw1:=Same.new (o:=.tup [vN u.1,vN (s.bs.getD u.2 0)]) hw
      have c1:=c.mono sw1
      have hw1:(upd H4 w (.tup [vN u.1,vN (s.bs.getD u.2 0)])) w=some (.tup [vN u.1,vN (s.bs.getD u.2 0)]):=upd_same
      have ht1:=sw1 _ _ ht
      have ht51:=sw1 _ _ ht5
      generalize upd H4 w (.tup [vN u.1,vN (s.bs.getD u.2 0)])=H5 at sw1 c1 hw1 ht1 ht51
      refine ⟨qa,_,_,rfl,rfl,c1.hq,(by rw [List.length_map]; exact small1000 (by have:=c1.slen; omega)),?_⟩
      have sq:Same H (upd H5 qa (.lst ((sw.map fun w=>V.ref w.1)++[V.ref w]))):=c1.same.own c1.hq0
      have ht2:(upd H5 qa (.lst ((sw.map fun w=>V.ref w.1)++[V.ref w]))) t=some (.tup [vN s.fx,.ref p]):=by rw [upd_ne (ne_of ht1 c1.hq (by intro z; cases z))]; exact ht1
      have ht52:(upd H5 qa (.lst ((sw.map fun w=>V.ref w.1)++[V.ref w]))) t5=some (.tup [vN u.1,vN u.2]):=by rw [upd_ne (ne_of ht51 c1.hq (by intro z; cases z))]; exact ht51
      have hp2:(upd H5 qa (.lst ((sw.map fun w=>V.ref w.1)++[V.ref w]))) p=some (.lst (s.bs.map vN)):=by rw [upd_ne c1.npq]; exact c1.hp
      have hdis:s.fx&&&s.bs.getD u.2 0=0:=c.good.dis _ (List.mem_of_getElem? ebu)
      refine ⟨_,rfl,_,rfl,t5,_,_,_,rfl,rfl,SqT.of ht52,atI_nat (j:=0) rfl,rl,_,_,_,rfl,rfl,sq.seq hrl,atI_nat erv,_,rfl,t,_,_,_,rfl,rfl,SqT.of ht2,atI_nat (j:=0) rfl,_,rfl,t,_,_,_,rfl,rfl,SqT.of ht2,atI_nat (j:=1) rfl,_,rfl,t5,_,_,_,rfl,rfl,SqT.of ht52,atI_nat (j:=1) rfl,r.r,p,r.st,r.x,r.y,s.fx,u.2,s.bs,rfl,sq _ _ (hRs r (List.mem_of_getElem? er)).1,SqL.of hp2,hu2,(by have:=c.good.len m7; omega),hdis,fun t' p' H6 s6 ht' ht6 hp' hp6=>?_⟩
      have efx:(stepS (rs.map Rl.d) s u).fx=behindFx r.st r.y s.fx s.bs u.2:=by unfold stepS; rw [erd]; rfl
      have ebs:(stepS (rs.map Rl.d) s u).bs=behindBs r.st r.y s.bs u.2:=by unfold stepS; rw [erd]; rfl
      rw [←efx] at ht6
      rw [←ebs] at hp6
      obtain ⟨c6,mu⟩:=c1.next (w:=(w,(u.1,s.bs.getD u.2 0))) hu rfl hw1 s6 hp' hp6
      refine ⟨_,rfl,_,rfl,t',_,_,_,rfl,rfl,SqT.of ht6,atI_nat (j:=1) rfl,rl,p',rs,(stepS (rs.map Rl.d) s u).bs,m,rfl,c6.same.seq hrl,hRs.same c6.same,SqL.of c6.hp,lr,(by have:=c6.good.len m7; omega),fun H7 s7 hu'=>?_,fun u' us' t5' H7 s7 hu' ht7 ht7'=>?_⟩
      · exact ⟨_,by rw [en]; exact mu,_,t',p',qa,_,.non,rfl,rfl,s7 _ _ ht6,c6.mono s7,.inl ⟨hu',rfl⟩⟩
      · exact ⟨_,by rw [en]; exact mu,_,t',p',qa,_,.ref t5',rfl,rfl,s7 _ _ ht6,c6.mono s7,.inr ⟨u',us',t5',hu',rfl,ht7'⟩⟩
abbrev sTorn:Stmt:=top 17
theorem scTorn:FnScope ["blocks","one","other","block"] ["blocks","one","other"] (defScope sTorn):=⟨rfl,rfl,rfl,by decide +kernel,rfl,by decide +kernel,by decide +kernel⟩
theorem ok_torn {f fIW:Addr} {fd fdIW:FuncData} (F:Fun K "first_torn" "first_torn" sTorn f fd) (GIW:FnOk P w K mg base CX0 1 fIW fdIW ["one","other"] spWithin) (mIW:mg "is_within" = some (.ref fIW)) (kIW:PySem.W.keepIn K (.ref fIW)=true) (bIW:Binds K fdIW ["one","other"] []):FnOk P w K mg base CX0 2 f fd ["blocks","one","other"] (spTorn K):=by
  refine F.ok scTorn (fun vs H Q E h=>?_) (fun cdv A outer s H vs Q E hr h=>?_)
  · obtain ⟨l,x,y,bs,rfl,_⟩:=h
    rfl
  · obtain ⟨l,x,y,bs,rfl,hl,qn,qs⟩:=h
    have nd:=scTorn.nd
    have hr1:Room 1 _:=hr.mono (by decide)
    refine ⟨_,(pss_cons (ps_for PassesOwn.never rfl (pi_listK (K:=K) rfl (pv 0)) (pg_name (i:=3) nd rfl (Or.inl rfl)) (pss_one (ps_if (PW.pt (pw_and (pt_not (pt_val (pe_call GIW hr1 rfl mIW kIW bIW .nil pass0 (pa_cons (pv 3) (pa_cons (pv 1) pa_nil))))) (pw_and1 (pt_not (pt_val (pe_call GIW hr1 rfl mIW kIW bIW .nil pass0 (pa_cons (pv 3) (pa_cons (pv 2) pa_nil)))))))) (pss_one (ps_ret (pv 3))) pss_nil)))
      (pss_one (ps_ret pe_non))),?_⟩
    refine ⟨_,rfl,l,rfl,⟨_,hl⟩,for_list (xs:=bs.map vN) (fun i σ H'=>(∃v3,σ=[some (.ref l),some (vN x),some (vN y),v3])∧H' = H∧(bs.take i).find? (tornB x y)=none) ⟨⟨none,rfl⟩,rfl,rfl⟩ (fun i σ H' _ h=>by rw [h.2.1]; exact hl) ?_ ?_⟩
    · rintro i v σ H' hv ⟨⟨v3,rfl⟩,rfl,hn⟩
      rw [List.getElem?_map] at hv
      cases eb:bs[i]? with
      | none=>rw [eb] at hv; cases hv
      | some b=>
        rw [eb] at hv
        obtain rfl:=(Option.some.inj hv).symm
        refine ⟨_,rfl,_,rfl,b,x,rfl,_,rfl,?_⟩
        cases c1:decide (b&&&x=b) with
        | true=>
          refine iteF (iteF ⟨⟨_,rfl⟩,rfl,find_miss hn eb ?_⟩)
          unfold tornB; rw [c1]; exact Bool.false_ne_true
        | false=>
          refine iteT ?_
          refine ⟨_,rfl,_,rfl,b,y,rfl,_,rfl,?_⟩
          cases c2:decide (b&&&y=b) with
          | true=>
            refine iteF ⟨⟨_,rfl⟩,rfl,find_miss hn eb ?_⟩
            unfold tornB; rw [c1,c2]; exact Bool.false_ne_true
          | false=>
            refine iteT ⟨_,rfl,qs b (find_hit hn eb ?_)⟩
            unfold tornB; rw [c1,c2]; rfl
    · rintro σ H' ⟨⟨v3,rfl⟩,rfl,hn⟩
      rw [List.length_map,List.take_length] at hn
      exact qn hn
abbrev sCutIn:Stmt:=top 18
theorem scCutIn:FnScope ["many","rules","one","other","told","block"] ["many","rules","one","other"] (defScope sCutIn):=⟨rfl,rfl,rfl,by decide +kernel,rfl,by decide +kernel,by decide +kernel⟩
theorem ok_cutin {f fIW fAL fUN fFT:Addr} {fd fdIW fdAL fdUN fdFT:FuncData} (F:Fun K "cut_in_two" "cut_in_two" sCutIn f fd) (GIW:FnOk P w K mg base CX0 1 fIW fdIW ["one","other"] spWithin) (mIW:mg "is_within" = some (.ref fIW)) (kIW:PySem.W.keepIn K (.ref fIW)=true) (bIW:Binds K fdIW ["one","other"] []) (GAL:FnOk P w K mg base CX0 1 fAL fdAL ["many"] spAllOf) (mAL:mg "all_of" = some (.ref fAL)) (kAL:PySem.W.keepIn K (.ref fAL)=true) (bAL:Binds K fdAL ["many"] []) (GUN:FnOk P w K mg base CX0 3 fUN fdUN ["many","rules","some"] (spUnfolded K)) (mUN:mg "unfolded" = some (.ref fUN)) (kUN:PySem.W.keepIn K (.ref fUN)=true) (bUN:Binds K fdUN ["many","rules","some"] []) (GFT:FnOk P w K mg base CX0 2 fFT fdFT ["blocks","one","other"] (spTorn K)) (mFT:mg "first_torn" = some (.ref fFT)) (kFT:PySem.W.keepIn K (.ref fFT)=true) (bFT:Binds K fdFT ["blocks","one","other"] []):FnOk P w K mg base CX0 4 f fd ["many","rules","one","other"] (spCut K vN):=by
  refine F.ok scCutIn (fun vs H Q E h=>?_) (fun cdv A outer s H vs Q E hr h=>?_)
  · obtain ⟨m,x,y,rl,rs,rfl,_⟩:=h
    rfl
  · obtain ⟨m,x,y,rl,rs,rfl,m7,hx,hy,hxy,hrl,hRs,lr,qq⟩:=h
    have nd:=scCutIn.nd
    have hr1:Room 1 _:=hr.mono (by decide)
    have hr2:Room 2 _:=hr.mono (by decide)
    have hr3:Room 3 _:=hr.mono (by decide)
    have hxa:x&&&y < 2 ^ m:=Nat.lt_of_le_of_lt Nat.and_le_left hx
    refine ⟨_,(pss_cons (ps_if (pt_not (pt_val (pe_call GIW hr1 rfl mIW kIW bIW .nil pass0 (pa_cons (pe_call GAL hr1 rfl mAL kAL bAL .nil pass0 (pa_cons (pv 0) pa_nil)) (pa_cons (pe_op op_orN (pv 2) (pv 3)) pa_nil))))) (pss_one ps_never) pss_nil)
      (pss_cons (ps_set (i:=4) nd rfl (Or.inl rfl) (pe_call GUN hr3 rfl mUN kUN bUN .nil pass0 (pa_cons (pv 0) (pa_cons (pv 1) (pa_cons (pe_op op_andN (pv 2) (pv 3)) pa_nil)))))
      (pss_cons (ps_set (i:=5) nd rfl (Or.inl rfl) (pe_call GFT hr2 rfl mFT kFT bFT .nil pass0 (pa_cons (pe_ix (ix_tupK (K:=K) rfl) (pv 4) pe_int (fun _ _=>rfl)) (pa_cons (pv 2) (pa_cons (pv 3) pa_nil)))))
      (pss_cons (ps_if (pt_cmpR op_isN (pv 5) pe_non (nomark _)) (pss_one (ps_ret (pe_tup (pa_cons pe_str (pa_cons (pe_ix (ix_tupK (K:=K) rfl) (pv 4) pe_int (fun _ _=>rfl)) pa_nil))))) pss_nil)
      (pss_one (ps_ret (pe_tup (pa_cons pe_str (pa_cons (pv 5) pa_nil))))))))),?_⟩
    refine ⟨_,rfl,m,rfl,by omega,_,rfl,_,rfl,x,y,rfl,rfl,2 ^ m - 1,x|||y,rfl,_,rfl,?_⟩
    rw [hxy,Nat.and_self,decide_eq_true rfl]
    refine iteF ?_
    refine ⟨_,rfl,_,rfl,_,rfl,_,rfl,x,y,rfl,rfl,m,x&&&y,rl,rs,rfl,m7,hxa,hrl,hRs,lr,fun t p qa s sw H1 R s1 ht ht1 hp hp1 hq hq1 st1 e1 l1 n1=>?_⟩
    refine ⟨_,rfl,t,_,_,_,rfl,rfl,SqT.of ht1,atI_nat (j:=1) rfl,_,rfl,_,rfl,p,x,y,s.bs,rfl,SqL.of hp1,fun hn=>?_,fun b hb=>?_⟩
    · refine ⟨_,rfl,rfl,_,rfl,?_⟩
      refine iteT ?_
      refine ⟨_,rfl,t,_,_,_,rfl,rfl,SqT.of ht1,atI_nat (j:=2) rfl,(by show 2≤sizeLine; decide),fun t2 ht2=>?_⟩
      have s2:=Same.new (o:=.tup [V.str "safe",V.ref qa]) ht2
      refine qq s t2 _ R (s1.trans s2) (.inr ⟨hn,qa,sw,s2 _ _ hq1,st1.same s2,e1,l1,upd_same⟩) fun q' z=>?_
      rw [upd_same] at z
      injection z with z
      injection z with z
      injection z with _ z
      injection z with z _
      injection z with z
      rw [←z]; exact hq
    · refine ⟨_,rfl,rfl,_,rfl,?_⟩
      refine iteF ?_
      refine ⟨_,rfl,(by show 2≤sizeLine; decide),fun t2 ht2=>?_⟩
      refine qq s t2 _ R (s1.trans (Same.new ht2)) (.inl ⟨b,hb,upd_same⟩) fun q' z=>?_
      rw [upd_same] at z
      injection z with z
      injection z with z
      injection z with z
      injection z with z
      exact absurd z (by decide)
end
end Own
namespace Own
open PySem L2
section
variable {P:Program} {w:World} {K:PySem.W.Frag} {mg:Str→Option Value} {base:Heap}
seal PySem.wpAny
abbrev sAlike:Stmt:=top 20
theorem scAlike:FnScope ["one","other","some"] ["one","other","some"] (defScope sAlike):=⟨rfl,rfl,rfl,by decide +kernel,rfl,by decide +kernel,by decide +kernel⟩
theorem ok_alike {f fC:Addr} {fd fdC:FuncData} (F:Fun K "alike" "alike" sAlike f fd) (GC:FnOk P w K mg base CX0 2 fC fdC ["some"] spCols) (mC:mg "columns_of" = some (.ref fC)) (kC:PySem.W.keepIn K (.ref fC)=true) (bC:Binds K fdC ["some"] []) (zall:mg "all" = none):FnOk P w K mg base CX0 3 f fd ["one","other","some"] (spAlike K):=by
  refine F.ok scAlike (fun vs H Q E h=>?_) (fun cdv A outer s H vs Q E hr h=>?_)
  · obtain ⟨a,b,r1,r2,x,rfl,_⟩:=h
    rfl
  · obtain ⟨a,b,r1,r2,x,rfl,ha,hb,hx,hc,q⟩:=h
    refine ⟨_,(pss_one (ps_ret (pe_callB (call_allK (K:=K) rfl rfl) (by rfl) zall PyProof.Rows.boot_all (pa_cons (pe_comp (xs:=["column"]) (cs ["one","other","some"] (defScope sAlike) rfl rfl (by decide +kernel)) rfl (pi_listK (K:=K) rfl (pe_call GC hr rfl mC kC bC .nil pass0 (pa_cons (pv 2) pa_nil))) (fun _ _ _=>pg_name (i:=0) (show (["column","one","other","some"]:List Str).Nodup by decide +kernel) rfl (Or.inl rfl)) (fun _ _ _=>pts_nil) (fun _ _ _=>(pe_cmpR op_eqI (pe_ix (ix_tupK (K:=K) rfl) (pv 1) (pv 0) (fun _ _=>rfl)) (pe_ix (ix_tupK (K:=K) rfl) (pv 2) (pv 0) (fun _ _=>rfl)) (nomark _)))) pa_nil)))),?_⟩
    refine ⟨_,rfl,x,rfl,hx,fun d hd=>⟨d,rfl,⟨_,SqL.of upd_same⟩,?_⟩⟩
    have s1:Same H (upd H d (.lst ((colsN x).map vN))):=Same.new hd
    have hd1:(upd H d (.lst ((colsN x).map vN))) d=some (.lst ((colsN x).map vN)):=upd_same
    generalize upd H d (.lst ((colsN x).map vN))=H1 at s1 hd1
    have cl:(colsN x).length≤1000:=Nat.le_trans (List.length_filter_le _ _) (by rw [List.length_range]; exact Nat.le_trans (bitsN_le hx) (by decide))
    refine lc_list (xs:=(colsN x).map vN) (fun i acc H'=>H' = H1∧acc=(((colsN x).take i).map fun c=>decide (r1.getD c 0=r2.getD c 0)).map V.bl) (by rw [List.length_map]; omega) ⟨rfl,rfl⟩ (fun i acc H' hi h=>?_) (fun i y acc H' hy h=>?_) (fun acc H' h=>?_)
    · rw [h.1,h.2]
      exact ⟨SqL.of hd1,by rw [List.length_map,List.length_map]; exact List.length_take_le _ _⟩
    · obtain ⟨rfl,rfl⟩:=h
      rw [List.getElem?_map] at hy
      cases ez:(colsN x)[i]? with
      | none=>rw [ez] at hy; cases hy
      | some c=>
        rw [ez] at hy
        obtain rfl:=(Option.some.inj hy).symm
        obtain ⟨c1,c2⟩:=hc c (List.mem_of_getElem? ez)
        refine ⟨rfl,_,rfl,_,rfl,a,_,_,_,rfl,rfl,s1.tupS ha,atI_nat (j:=c) (getD_int c1),_,rfl,_,rfl,b,_,_,_,rfl,rfl,s1.tupS hb,atI_nat (j:=c) (getD_int c2),_,_,rfl,rfl,rfl,?_⟩
        rw [List.take_succ,ez,List.map_append,List.map_append]
        rfl
    · obtain ⟨rfl,rfl⟩:=h
      intro e he
      refine ⟨e,_,rfl,SqL.of upd_same,?_⟩
      rw [List.length_map,List.take_length]
      exact q _ (s1.trans (Same.new he))
abbrev sMixed:Stmt:=top 21
theorem scMixed:FnScope ["one","other","some"] ["one","other","some"] (defScope sMixed):=⟨rfl,rfl,rfl,by decide +kernel,rfl,by decide +kernel,by decide +kernel⟩
theorem ok_mixed {f fH:Addr} {fd fdH:FuncData} (F:Fun K "mixed" "mixed" sMixed f fd) (GH:FnOk P w K mg base CX0 1 fH fdH ["some","column"] spHas) (mH:mg "has_column" = some (.ref fH)) (kH:PySem.W.keepIn K (.ref fH)=true) (bH:Binds K fdH ["some","column"] []) (zrange:mg "range" = none) (zlen:mg "len" = none) (ztuple:mg "tuple" = none):FnOk P w K mg base CX0 2 f fd ["one","other","some"] (spMixed K):=by
  refine F.ok scMixed (fun vs H Q E h=>?_) (fun cdv A outer s H vs Q E hr h=>?_)
  · obtain ⟨a,b,r1,r2,x,rfl,_⟩:=h
    rfl
  · obtain ⟨a,b,r1,r2,x,rfl,ha,hb,hl,hl2,q⟩:=h
    refine ⟨_,(pss_one (ps_ret (pe_callTy (call_tupleK (K:=K) rfl) (by rfl) ztuple PyProof.Rows.boot_tuple (pa_cons (pe_comp (xs:=["column"]) (cs ["one","other","some"] (defScope sMixed) rfl rfl (by decide +kernel)) rfl (pi_range1 rfl zrange (pa_cons (pe_callB (call_lenK (K:=K) rfl) (by rfl) zlen PySem.boot_len (pa_cons (pv 0) pa_nil)) pa_nil)) (fun _ _ _=>pg_name (i:=0) (show (["column","one","other","some"]:List Str).Nodup by decide +kernel) rfl (Or.inl rfl)) (fun _ _ _=>pts_nil) (fun _ _ _=>(pe_ifExp (pt_val (pe_call GH hr rfl mH kH bH .nil pass0 (pa_cons (pv 3) (pa_cons (pv 0) pa_nil)))) (pe_ix (ix_tupK (K:=K) rfl) (pv 1) (pv 0) (fun _ _=>rfl)) (pe_ix (ix_tupK (K:=K) rfl) (pv 2) (pv 0) (fun _ _=>rfl))))) pa_nil)))),?_⟩
    have lm:(r1.map V.int).length=r1.length:=List.length_map ..
    refine ⟨_,rfl,a,_,rfl,.inr ha,_,rfl,(by omega),(by omega),lc_rangeN (k:=(r1.map V.int).length) (n:=1) (fun i acc H'=>H' = H∧acc=((List.range i).map fun k=>if hasB x k=true then r1.getD k 0 else r2.getD k 0).map V.int) (by omega) ⟨rfl,rfl⟩ (fun i acc H' hi h=>?_) (fun i acc H' hi h=>?_) (fun acc H' h=>?_)⟩
    · rw [h.2,List.length_map,List.length_map,List.length_range]; exact Nat.le_refl _
    · obtain ⟨rfl,rfl⟩:=h
      rw [lm] at hi
      refine ⟨rfl,_,rfl,_,rfl,x,i,rfl,_,rfl,?_⟩
      refine ite2 (fun hc=>?_) (fun hc=>?_)
      · refine ⟨_,rfl,_,rfl,a,_,_,_,rfl,rfl,ha,atI_nat (j:=i) (getD_int hi),rfl,?_⟩
        rw [List.range_succ,List.map_append,List.map_append,List.map_singleton,if_pos hc]
        rfl
      · refine ⟨_,rfl,_,rfl,b,_,_,_,rfl,rfl,hb,atI_nat (j:=i) (getD_int (by omega)),rfl,?_⟩
        rw [List.range_succ,List.map_append,List.map_append,List.map_singleton,if_neg hc]
        rfl
    · obtain ⟨rfl,rfl⟩:=h
      intro d hd
      refine ⟨d,_,rfl,.inl ⟨SqL.of upd_same,fun t ht=>?_⟩⟩
      have ss:=(Same.new (o:=.lst (((List.range (r1.map V.int).length).map fun k=>if hasB x k=true then r1.getD k 0 else r2.getD k 0).map V.int)) hd)
      refine q t _ (ss.trans (Same.new ht)) (ss.free ht) ?_
      rw [upd_same,lm]
      rfl
abbrev sNoughts:Stmt:=top 22
theorem scNoughts:FnScope ["many"] ["many"] (defScope sNoughts):=⟨rfl,rfl,rfl,by decide +kernel,rfl,by decide +kernel,by decide +kernel⟩
theorem ok_noughts {f:Addr} {fd:FuncData} (F:Fun K "noughts" "noughts" sNoughts f fd):FnOk P w K mg base CX0 1 f fd ["many"] spNoughts:=by
  refine F.ok scNoughts (fun vs H Q E h=>?_) (fun cdv A outer s H vs Q E hr h=>?_)
  · obtain ⟨m,rfl,_⟩:=h
    rfl
  · obtain ⟨m,rfl,h1,h20,q⟩:=h
    refine ⟨_,(pss_one (ps_ret (pe_op op_repT (pe_tup (pa_cons pe_int pa_nil)) (pv 0)))),?_⟩
    refine ⟨(by show 1≤sizeLine; decide),fun l hl=>?_⟩
    refine ⟨_,rfl,l,V.int 0,m,rfl,rfl,upd_same,h1,by omega,fun e=>?_,fun e p hp=>?_⟩
    · subst e
      exact q l _ (Same.new hl) hl upd_same
    · refine q p _ ((Same.new hl).trans (Same.new hp)) ((Same.new hl).free hp) ?_
      rw [upd_same,List.map_replicate]
abbrev sUnlike:Stmt:=top 27
theorem scUnlike:FnScope ["one","other","some","column"] ["one","other","some"] (defScope sUnlike):=⟨rfl,rfl,rfl,by decide +kernel,rfl,by decide +kernel,by decide +kernel⟩
theorem ok_unlike {f fC:Addr} {fd fdC:FuncData} (F:Fun K "first_unlike" "first_unlike" sUnlike f fd) (GC:FnOk P w K mg base CX0 2 fC fdC ["some"] spCols) (mC:mg "columns_of" = some (.ref fC)) (kC:PySem.W.keepIn K (.ref fC)=true) (bC:Binds K fdC ["some"] []):FnOk P w K mg base CX0 3 f fd ["one","other","some"] (spUnlike K):=by
  refine F.ok scUnlike (fun vs H Q E h=>?_) (fun cdv A outer s' H vs Q E hr h=>?_)
  · obtain ⟨a,b,r1,r2,s,m,rfl,_⟩:=h
    rfl
  · obtain ⟨a,b,r1,r2,s,m,rfl,ha,hb,l1,l2,m7,hs,qn,qs⟩:=h
    have nd:=scUnlike.nd
    have hr2:Room 2 _:=hr.mono (by decide)
    have p7:=pow7 m7
    have cm:=cols_mem (a:=s) (by omega)
    refine ⟨_,(pss_cons (ps_for PassesOwn.never rfl (pi_listK (K:=K) rfl (pe_call GC hr2 rfl mC kC bC .nil pass0 (pa_cons (pv 2) pa_nil))) (pg_name (i:=3) nd rfl (Or.inl rfl)) (pss_one (ps_if (pt_cmpR op_neI (pe_ix (ix_tupK (K:=K) rfl) (pv 0) (pv 3) (fun _ _=>rfl)) (pe_ix (ix_tupK (K:=K) rfl) (pv 1) (pv 3) (fun _ _=>rfl)) (nomark _)) (pss_one (ps_ret (pv 3))) pss_nil)))
      (pss_one (ps_ret pe_non))),?_⟩
    refine ⟨_,rfl,s,rfl,by omega,fun cp hcp=>⟨cp,rfl,⟨_,SqL.of upd_same⟩,?_⟩⟩
    refine for_list (K:=K) (xs:=(colsN s).map vN) (fun i σ H'=>(∃v3,σ=[some (.ref a),some (.ref b),some (vN s),v3])∧Same H H'∧H' cp=some (.lst ((colsN s).map vN))∧((colsN s).take i).find? (fun c=>!decide (r1.getD c 0=r2.getD c 0))=none) ⟨⟨_,rfl⟩,Same.new hcp,upd_same,rfl⟩ (fun i σ H' _ h=>SqL.of h.2.2.1) ?_ ?_
    · rintro i v σ H1 hv ⟨⟨v3,rfl⟩,s1,hc1,hn⟩
      rw [List.getElem?_map] at hv
      cases ec:(colsN s)[i]? with
      | none=>rw [ec] at hv; cases hv
      | some c=>
        rw [ec] at hv
        obtain rfl:=(Option.some.inj hv).symm
        have hcm:c < m:=hasb_lt hs ((cm c).mp (List.mem_of_getElem? ec))
        refine ⟨_,rfl,_,rfl,a,_,_,_,rfl,rfl,SqT.of (s1 _ _ ha),atI_nat (getD_int (by omega)),_,rfl,_,rfl,b,_,_,_,rfl,rfl,SqT.of (s1 _ _ hb),atI_nat (getD_int (by omega)),r1.getD c 0,r2.getD c 0,rfl,rfl,_,rfl,?_⟩
        refine ite2 (fun hb'=>?_) (fun hb'=>?_)
        · exact ⟨_,rfl,qs c H1 s1 (find_hit hn ec hb')⟩
        · exact ⟨⟨_,rfl⟩,s1,hc1,find_miss hn ec hb'⟩
    · rintro σ H1 ⟨⟨v3,rfl⟩,s1,hc1,hn⟩
      rw [List.length_map,List.take_length] at hn
      exact qn H1 s1 hn
abbrev sPlace:Stmt:=top 28
theorem scPlace:FnScope ["rows","rule","first","one","second","column"] ["rows","rule"] (defScope sPlace):=⟨rfl,rfl,rfl,by decide +kernel,rfl,by decide +kernel,by decide +kernel⟩
theorem ok_place {f fL fUL:Addr} {fd fdL fdUL:FuncData} (F:Fun K "first_place" "first_place" sPlace f fd) (GL:FnOk P w K mg base CX0 3 fL fdL ["one","other","some"] (spAlike K)) (mL:mg "alike" = some (.ref fL)) (kL:PySem.W.keepIn K (.ref fL)=true) (bL:Binds K fdL ["one","other","some"] []) (GUL:FnOk P w K mg base CX0 3 fUL fdUL ["one","other","some"] (spUnlike K)) (mUL:mg "first_unlike" = some (.ref fUL)) (kUL:PySem.W.keepIn K (.ref fUL)=true) (bUL:Binds K fdUL ["one","other","some"] []) (zenumerate:mg "enumerate" = none) (zrange:mg "range" = none) (zlen:mg "len" = none):FnOk P w K mg base CX0 4 f fd ["rows","rule"] (spFirstPlace K):=by
  refine F.ok scPlace (fun vs H Q E h=>?_) (fun cdv A outer s' H vs Q E hr h=>?_)
  · obtain ⟨tl,r,ts,T,m,x,y,st,rfl,_⟩:=h
    rfl
  · obtain ⟨tl,r,ts,T,m,x,y,st,rfl,htl,hT,m7,lT,hR,hx,hy,qn,qs⟩:=h
    have nd:=scPlace.nd
    have hr3:Room 3 _:=hr.mono (by decide)
    have p7:=pow7 m7
    have ltm:(ts.map V.ref).length=T.length:=by rw [List.length_map]; exact hT.len
    have cx:∀c∈colsN x,c < m:=fun c hc=>hasb_lt hx ((cols_mem (a:=x) (by omega) c).mp hc)
    refine ⟨_,(pss_cons (ps_for PassesOwn.never rfl (pi_enum (K:=K) rfl rfl zenumerate (pa_cons (pv 0) pa_nil)) (pg_tup rfl (pgs_cons (pg_name (i:=2) nd rfl (Or.inl rfl)) (pgs_cons (pg_name (i:=3) nd rfl (Or.inl rfl)) pgs_nil))) (pss_one (ps_for PassesOwn.never rfl (pi_range2 rfl zrange (pa_cons (pe_op op_addN (pv 2) pe_int) (pa_cons (pe_callB (call_lenK (K:=K) rfl) (by rfl) zlen PySem.boot_len (pa_cons (pv 0) pa_nil)) pa_nil))) (pg_name (i:=4) nd rfl (Or.inl rfl)) (pss_one (ps_if (pt_val (pe_call GL hr3 rfl mL kL bL .nil pass0 (pa_cons (pv 3) (pa_cons (pe_ix (ix_listK (K:=K) rfl) (pv 0) (pv 4) (fun _ _=>rfl)) (pa_cons (pe_ix (ix_tupK (K:=K) rfl) (pv 1) pe_int (fun _ _=>rfl)) pa_nil))))) (pss_cons (ps_set (i:=5) nd rfl (Or.inl rfl) (pe_call GUL hr3 rfl mUL kUL bUL .nil pass0 (pa_cons (pv 3) (pa_cons (pe_ix (ix_listK (K:=K) rfl) (pv 0) (pv 4) (fun _ _=>rfl)) (pa_cons (pe_ix (ix_tupK (K:=K) rfl) (pv 1) pe_int (fun _ _=>rfl)) pa_nil)))))
      (pss_one (ps_if (pt_cmpR op_notN (pv 5) pe_non (nomark _)) (pss_one (ps_ret (pe_tup (pa_cons (pv 2) (pa_cons (pv 4) (pa_cons (pv 5) pa_nil)))))) pss_nil))) pss_nil)))))
      (pss_one (ps_ret pe_non))),?_⟩
    refine ⟨_,rfl,tl,_,rfl,htl,for_enum (xs:=ts.map V.ref) (fun i σ H'=>(∃v2 v3 v4 v5,σ=[some (.ref tl),some (.ref r),v2,v3,v4,v5])∧Same H H'∧((List.range T.length).take i).findSome? (inP T x y)=none) ⟨⟨none,none,none,none,rfl⟩,Same.refl _,rfl⟩ (fun i σ H' _ h=>h.2.1.seq htl) ?_ ?_⟩
    · rintro i v σ H0 t0 hv ⟨⟨v2,v3,v4,v5,rfl⟩,s0,u0⟩ ht0
      rw [List.getElem?_map] at hv
      cases ei:ts[i]? with
      | none=>rw [ei] at hv; cases hv
      | some ta=>
        rw [ei] at hv
        obtain rfl:=(Option.some.inj hv).symm
        obtain ⟨ra,eA,hra,lra⟩:=hT.get ei
        have hi:i < T.length:=(List.getElem?_eq_some_iff.mp eA).1
        have s1:=s0.trans (Same.new (o:=.tup [.int (i:Int),V.ref ta]) ht0)
        refine ⟨t0,_,rfl,SqT.of upd_same,rfl,_,_,rfl,_,_,rfl,rfl,?_⟩
        generalize upd H0 t0 (.tup [.int (i:Int),V.ref ta])=H1 at s1
        refine ⟨_,rfl,i,1,rfl,rfl,_,rfl,tl,_,rfl,.inl (s1.seq htl),((i + 1:Nat):Int),(((ts.map V.ref).length:Nat):Int),rfl,⟨by omega,by omega,by omega,by omega⟩,?_⟩
        rw [to_nat,ltm]
        refine for_rangeF (a:=i + 1) (n:=T.length - (i + 1)) (fun j σ H'=>(∃v4 v5,σ=[some (.ref tl),some (.ref r),some (vN i),some (.ref ta),v4,v5])∧Same H H'∧((List.range' (i + 1) (T.length - (i + 1))).take j).findSome? (tryP T x y i)=none) ⟨⟨_,_,rfl⟩,s1,rfl⟩ ?_ ?_
        · rintro j σ H2 hj ⟨⟨w4,w5,rfl⟩,s2,u2⟩
          have hj2:i + 1 + j < ts.length:=by rw [hT.len]; omega
          have ej:ts[i + 1 + j]? = some ts[i + 1 + j]:=List.getElem?_eq_getElem hj2
          obtain ⟨tb,htb⟩:∃tb,tb=ts[i + 1 + j]:=⟨_,rfl⟩
          rw [←htb] at ej
          have ejv:(ts.map V.ref)[i + 1 + j]? = some (V.ref tb):=by rw [List.getElem?_map,ej]; rfl
          obtain ⟨rb,eB,hrb,lrb⟩:=hT.get ej
          have eg:=range'_get (s:=i + 1) hj
          have hR2:=s2 _ _ hR
          have etry:tryP T x y i (i + 1 + j)=if alikeL ra rb x=true then (unlN ra rb y).map fun c=>(i,i + 1 + j,c) else none:=by
            unfold tryP
            rw [rowT_of eA,rowT_of eB]
          refine ⟨_,rfl,_,rfl,_,rfl,tl,_,_,_,rfl,rfl,s2.seq htl,atI_nat ejv,_,rfl,r,_,_,_,rfl,rfl,SqT.of hR2,atI_nat (j:=1) rfl,ta,tb,ra,rb,x,rfl,SqT.of (s2 _ _ hra),SqT.of (s2 _ _ hrb),by omega,(fun c hc=>⟨by have:=cx c hc; omega,by have:=cx c hc; omega⟩),fun H3 s3=>⟨_,rfl,ite2 (fun hal=>?_) (fun hal=>?_)⟩⟩
          · rw [if_pos hal] at etry
            have s23:=s2.trans s3
            have hR3:=s23 _ _ hR
            refine ⟨_,rfl,_,rfl,_,rfl,tl,_,_,_,rfl,rfl,s23.seq htl,atI_nat ejv,_,rfl,r,_,_,_,rfl,rfl,SqT.of hR3,atI_nat (j:=2) rfl,ta,tb,ra,rb,y,m,rfl,s23 _ _ hra,s23 _ _ hrb,lra,lrb,m7,hy,fun H4 s4 hn=>?_,fun c H4 s4 hc=>?_⟩
            · refine ⟨_,rfl,rfl,_,rfl,iteF ?_⟩
              rw [hn] at etry
              exact ⟨⟨_,_,rfl⟩,s23.trans s4,some_miss u2 eg etry⟩
            · refine ⟨_,rfl,rfl,_,rfl,iteT ?_⟩
              rw [hc] at etry
              have s24:=s23.trans s4
              refine ⟨_,rfl,_,rfl,_,rfl,(by show 3≤sizeLine; decide),fun t ht=>?_⟩
              have hin:inP T x y i=some (i,i + 1 + j,c):=some_hit u2 eg etry
              exact qs (i,i + 1 + j,c) t _ (s24.trans (Same.new ht)) (some_hit u0 (range_get2 hi) hin) (s24.none ht) upd_same
          · rw [if_neg hal] at etry
            exact ⟨⟨_,_,rfl⟩,s2.trans s3,some_miss u2 eg etry⟩
        · rintro σ H2 ⟨⟨w4,w5,rfl⟩,s2,u2⟩
          rw [List.take_of_length_le (by rw [List.length_range']; exact Nat.le_refl _)] at u2
          exact ⟨⟨_,_,_,_,rfl⟩,s2,some_miss u0 (range_get2 hi) u2⟩
    · rintro σ H' ⟨⟨v2,v3,v4,v5,rfl⟩,s',u'⟩
      rw [ltm,List.take_of_length_le (by rw [List.length_range]; exact Nat.le_refl _)] at u'
      exact qn H' s' u'
abbrev sStep:Stmt:=top 29
theorem scStep:FnScope ["rules","rows","number","rule","place"] ["rules","rows"] (defScope sStep):=⟨rfl,rfl,rfl,by decide +kernel,rfl,by decide +kernel,by decide +kernel⟩
theorem ok_step {f fFP:Addr} {fd fdFP:FuncData} (F:Fun K "first_step" "first_step" sStep f fd) (GFP:FnOk P w K mg base CX0 4 fFP fdFP ["rows","rule"] (spFirstPlace K)) (mFP:mg "first_place" = some (.ref fFP)) (kFP:PySem.W.keepIn K (.ref fFP)=true) (bFP:Binds K fdFP ["rows","rule"] []) (zenumerate:mg "enumerate" = none):FnOk P w K mg base CX0 5 f fd ["rules","rows"] (spFirstStep K):=by
  refine F.ok scStep (fun vs H Q E h=>?_) (fun cdv A outer s' H vs Q E hr h=>?_)
  · obtain ⟨rl,tl,rs,ts,T,m,rfl,_⟩:=h
    rfl
  · obtain ⟨rl,tl,rs,ts,T,m,rfl,hrl,hRs,lr,htl,hT,m7,lT,qn,qs⟩:=h
    have nd:=scStep.nd
    have hr4:Room 4 _:=hr.mono (by decide)
    refine ⟨_,(pss_cons (ps_for PassesOwn.never rfl (pi_enum (K:=K) rfl rfl zenumerate (pa_cons (pv 0) pa_nil)) (pg_tup rfl (pgs_cons (pg_name (i:=2) nd rfl (Or.inl rfl)) (pgs_cons (pg_name (i:=3) nd rfl (Or.inl rfl)) pgs_nil))) (pss_one (ps_if (pt_cmpR op_eq (pe_ix (ix_tupK (K:=K) rfl) (pv 3) pe_int (fun _ _=>rfl)) pe_str (nomark _)) (pss_cons (ps_set (i:=4) nd rfl (Or.inl rfl) (pe_call GFP hr4 rfl mFP kFP bFP .nil pass0 (pa_cons (pv 1) (pa_cons (pv 3) pa_nil))))
      (pss_one (ps_if (pt_cmpR op_notN (pv 4) pe_non (nomark _)) (pss_one (ps_ret (pe_op (op_catA (K:=K) rfl) (pe_tup (pa_cons (pv 2) pa_nil)) (pv 4)))) pss_nil))) pss_nil)))
      (pss_one (ps_ret pe_non))),?_⟩
    refine ⟨_,rfl,rl,_,rfl,hrl,for_enum (xs:=rs.map fun (r:Rl)=>V.ref r.r) (fun i σ H'=>(∃v2 v3 v4,σ=[some (.ref rl),some (.ref tl),v2,v3,v4])∧Same H H'∧((List.range (rs.map Rl.d).length).take i).findSome? (tryS T (rs.map Rl.d))=none) ⟨⟨none,none,none,rfl⟩,Same.refl _,rfl⟩ (fun i σ H' _ h=>h.2.1.seq hrl) ?_ ?_⟩
    · rintro i v σ H0 t0 hv ⟨⟨v2,v3,v4,rfl⟩,s0,u0⟩ ht0
      rw [List.getElem?_map] at hv
      cases er:rs[i]? with
      | none=>rw [er] at hv; cases hv
      | some r=>
        rw [er] at hv
        obtain rfl:=(Option.some.inj hv).symm
        have hi:i < (rs.map Rl.d).length:=by rw [List.length_map]; exact (List.getElem?_eq_some_iff.mp er).1
        obtain ⟨r1,r2,r3⟩:=hRs r (List.mem_of_getElem? er)
        have erd:(rs.map Rl.d)[i]? = some (r.st,r.x,r.y):=by rw [List.getElem?_map,er]; rfl
        have s1:=s0.trans (Same.new (o:=.tup [.int (i:Int),V.ref r.r]) ht0)
        refine ⟨t0,_,rfl,SqT.of upd_same,rfl,_,_,rfl,_,_,rfl,rfl,?_⟩
        generalize upd H0 t0 (.tup [.int (i:Int),V.ref r.r])=H1 at s1
        have hR1:=s1 _ _ r1
        refine ⟨_,rfl,r.r,_,_,_,rfl,rfl,SqT.of hR1,atI_nat (j:=0) rfl,rfl,_,rfl,?_⟩
        cases est:r.st with
        | false=>
          rw [est] at erd
          refine ite2 (fun hc=>absurd (of_decide_eq_true hc) (by intro z; injection z with z; revert z; decide)) (fun _=>?_)
          exact ⟨⟨_,_,_,rfl⟩,s1,some_miss u0 (range_get2 hi) (by unfold tryS; rw [erd])⟩
        | true=>
          rw [est] at erd
          refine ite2 (fun _=>?_) (fun hc=>absurd (decide_eq_true rfl) hc)
          have et:tryS T (rs.map Rl.d) i=(firstP T r.x r.y).map fun p=>(i,p):=by unfold tryS; rw [erd]
          refine ⟨_,rfl,_,rfl,tl,r.r,ts,T,m,r.x,r.y,r.st,rfl,s1.seq htl,hT.same s1,m7,lT,hR1,r2,r3,fun H2 s2 hn=>?_,fun p t H2 s2 hp ht0' ht=>?_⟩
          · refine ⟨_,rfl,rfl,_,rfl,iteF ?_⟩
            exact ⟨⟨_,_,_,rfl⟩,s1.trans s2,some_miss u0 (range_get2 hi) (by rw [et,hn]; rfl)⟩
          · refine ⟨_,rfl,rfl,_,rfl,iteT ?_⟩
            refine ⟨_,rfl,(by show 1≤sizeLine; decide),fun tn htn=>?_⟩
            have sN:=Same.new (o:=.tup [vN i]) htn
            have s12:=(s1.trans s2).trans sN
            refine ⟨_,rfl,tn,t,[vN i],_,rfl,rfl,SqT.of upd_same,SqT.of (sN _ _ ht),(by show 4≤sizeLine; decide),(fun z=>by cases z),(fun _ z=>by cases z),fun _ _ tp htp=>?_⟩
            exact qs (i,p) tp _ (s12.trans (Same.new htp)) (some_hit u0 (range_get2 hi) (by rw [et,hp]; rfl)) (s12.none htp) upd_same
    · rintro σ H' ⟨⟨v2,v3,v4,rfl⟩,s',u'⟩
      rw [List.length_map,←List.length_map (f:=Rl.d),List.take_of_length_le (by rw [List.length_range]; exact Nat.le_refl _)] at u'
      exact qn H' s' u'
end
end Own
namespace Own
open PySem L2
section
variable {P:Program} {w:World} {K:PySem.W.Frag} {mg:Str→Option Value} {base:Heap}
seal PySem.wpAny
abbrev sWithN:Stmt:=top 30
theorem scWithN:FnScope ["row","column","number"] ["row","column","number"] (defScope sWithN):=⟨rfl,rfl,rfl,by decide +kernel,rfl,by decide +kernel,by decide +kernel⟩
theorem ok_withn {f:Addr} {fd:FuncData} (F:Fun K "with_number" "with_number" sWithN f fd):FnOk P w K mg base CX0 1 f fd ["row","column","number"] (spWithN K):=by
  refine F.ok scWithN (fun vs H Q E h=>?_) (fun cdv A outer s' H vs Q E hr h=>?_)
  · obtain ⟨a,r,c,v,rfl,_⟩:=h
    rfl
  · obtain ⟨a,r,c,v,rfl,ha,hc,lr,q⟩:=h
    refine ⟨_,(pss_one (ps_ret (pe_op (op_catA (K:=K) rfl) (pe_op (op_catA (K:=K) rfl) (pe_slice sl_tup (pv 0) po_none (po_some (pv 1))) (pe_tup (pa_cons (pv 2) pa_nil))) (pe_slice sl_tup (pv 0) (po_some (pe_op op_addN (pv 1) pe_int)) po_none)))),?_⟩
    have lrm:(r.map V.int).length=r.length:=List.length_map ..
    refine ⟨_,rfl,_,rfl,(c:Int),rfl,a,_,rfl,SqT.of ha,?_,fun p1 hp1=>?_⟩
    · rintro ⟨_,h2⟩
      rw [HT.sIx_nat,lrm] at h2
      omega
    rw [cut_take]
    have s1:=Same.new (o:=.tup ((r.map V.int).take c)) hp1
    have h1:(upd H p1 (.tup ((r.map V.int).take c))) p1=some (.tup ((r.map V.int).take c)):=upd_same
    generalize upd H p1 (.tup ((r.map V.int).take c))=H1 at s1 h1
    refine ⟨_,rfl,(by show 1≤sizeLine; decide),fun p2 hp2=>?_⟩
    have s2:=Same.new (o:=.tup [V.int v]) hp2
    have h2:(upd H1 p2 (.tup [V.int v])) p2=some (.tup [V.int v]):=upd_same
    have h12:=s2 _ _ h1
    generalize upd H1 p2 (.tup [V.int v])=H2 at s2 h2 h12
    have ltk:((r.map V.int).take c).length=c:=by rw [List.length_take,lrm]; omega
    have s02:=s1.trans s2
    have eset:(r.map V.int).take c++[V.int v]++(r.map V.int).drop (c + 1)=(r.set c v).map V.int:=by
      rw [List.map_set,List.set_eq_take_append_cons_drop,if_pos (by rw [lrm]; exact hc),List.append_assoc]; rfl
    refine ⟨p1,p2,_,_,rfl,rfl,SqT.of h12,SqT.of h2,small7 (by rw [ltk]; show c + 1≤20; omega),fun z=>?_,fun _ z=>(by cases z),fun _ _ p3 hp3=>?_⟩
    · have h3:H2 p2=some (.tup ((r.map V.int).take c++[V.int v])):=by rw [z]; exact h2
      refine ⟨_,rfl,_,rfl,c,1,rfl,rfl,((c + 1:Nat):Int),rfl,a,_,rfl,SqT.of (s02 _ _ ha),?_,fun p4 hp4=>?_⟩
      · rintro ⟨h2,_⟩
        rw [HT.sIx_nat,lrm] at h2
        omega
      rw [cut_drop]
      have s4:=Same.new (o:=.tup ((r.map V.int).drop (c + 1))) hp4
      refine ⟨p2,p4,_,_,rfl,rfl,SqT.of (s4 _ _ h3),SqT.of upd_same,small7 (by rw [List.length_append,ltk,List.length_drop,lrm]; show c + 1 + _≤20; omega),(fun z=>absurd z (by simp)),fun _ z=>?_,fun _ _ p5 hp5=>?_⟩
      · refine q p2 _ (s02.trans s4) ?_
        rw [s4 _ _ h3,←eset,z,List.append_nil]
      · exact q p5 _ ((s02.trans s4).trans (Same.new hp5)) (by rw [upd_same,eset])
    · have s03:=s02.trans (Same.new (o:=.tup ((r.map V.int).take c++[V.int v])) hp3)
      have h3:(upd H2 p3 (.tup ((r.map V.int).take c++[V.int v]))) p3=some (.tup ((r.map V.int).take c++[V.int v])):=upd_same
      generalize upd H2 p3 (.tup ((r.map V.int).take c++[V.int v]))=H3 at s03 h3
      refine ⟨_,rfl,_,rfl,c,1,rfl,rfl,((c + 1:Nat):Int),rfl,a,_,rfl,SqT.of (s03 _ _ ha),?_,fun p4 hp4=>?_⟩
      · rintro ⟨h2,_⟩
        rw [HT.sIx_nat,lrm] at h2
        omega
      rw [cut_drop]
      have s4:=Same.new (o:=.tup ((r.map V.int).drop (c + 1))) hp4
      refine ⟨p3,p4,_,_,rfl,rfl,SqT.of (s4 _ _ h3),SqT.of upd_same,small7 (by rw [List.length_append,ltk,List.length_drop,lrm]; show c + 1 + _≤20; omega),(fun z=>absurd z (by simp)),fun _ z=>?_,fun _ _ p5 hp5=>?_⟩
      · refine q p3 _ (s03.trans s4) ?_
        rw [s4 _ _ h3,←eset,z,List.append_nil]
      · exact q p5 _ ((s03.trans s4).trans (Same.new hp5)) (by rw [upd_same,eset])
abbrev sMade:Stmt:=top 31
theorem scMade:FnScope ["rows","first","second","column","lesser","greater"] ["rows","first","second","column"] (defScope sMade):=⟨rfl,rfl,rfl,by decide +kernel,rfl,by decide +kernel,by decide +kernel⟩
theorem ok_made {f fWN:Addr} {fd fdWN:FuncData} (F:Fun K "made_alike" "made_alike" sMade f fd) (GWN:FnOk P w K mg base CX0 1 fWN fdWN ["row","column","number"] (spWithN K)) (mWN:mg "with_number" = some (.ref fWN)) (kWN:PySem.W.keepIn K (.ref fWN)=true) (bWN:Binds K fdWN ["row","column","number"] []) (zmin:mg "min" = none) (zmax:mg "max" = none):FnOk P w K mg base CX0 2 f fd ["rows","first","second","column"] (spMade K):=by
  refine F.ok scMade (fun vs H Q E h=>?_) (fun cdv A outer s' H vs Q E hr h=>?_)
  · obtain ⟨tl,ts,T,m,i,j,c,ri,rj,rfl,_⟩:=h
    rfl
  · obtain ⟨tl,ts,T,m,i,j,c,ri,rj,rfl,htl,hT,m7,lT,eri,erj,hc,q⟩:=h
    have nd:=scMade.nd
    have hr1:Room 1 _:=hr.mono (by decide)
    have hi:i < ts.length:=by rw [hT.len]; exact (List.getElem?_eq_some_iff.mp eri).1
    have hj:j < ts.length:=by rw [hT.len]; exact (List.getElem?_eq_some_iff.mp erj).1
    obtain ⟨ti,eti⟩:∃t,ts[i]? = some t:=⟨_,List.getElem?_eq_getElem hi⟩
    obtain ⟨tj,etj⟩:∃t,ts[j]? = some t:=⟨_,List.getElem?_eq_getElem hj⟩
    have eiv:(ts.map V.ref)[i]? = some (V.ref ti):=by rw [List.getElem?_map,eti]; rfl
    have ejv:(ts.map V.ref)[j]? = some (V.ref tj):=by rw [List.getElem?_map,etj]; rfl
    have hi':=hT.at_ i ti ri eti eri
    have hj':=hT.at_ j tj rj etj erj
    have hi:=hi'
    have hj:=hj'
    have li:=hT.rl ri (List.mem_of_getElem? eri)
    have lj:=hT.rl rj (List.mem_of_getElem? erj)
    have ltm:(ts.map V.ref).length=T.length:=by rw [List.length_map]; exact hT.len
    refine ⟨_,(pss_cons (ps_set (i:=4) nd rfl (Or.inr rfl) (pe_callB (call_minI rfl) (by rfl) zmin PyProof.Rows.boot_min (pa_cons (pe_ix (ix_tupK (K:=K) rfl) (pe_ix (ix_listK (K:=K) rfl) (pv 0) (pv 1) (fun _ _=>rfl)) (pv 3) (fun _ _=>rfl)) (pa_cons (pe_ix (ix_tupK (K:=K) rfl) (pe_ix (ix_listK (K:=K) rfl) (pv 0) (pv 2) (fun _ _=>rfl)) (pv 3) (fun _ _=>rfl)) pa_nil))))
      (pss_cons (ps_set (i:=5) nd rfl (Or.inr rfl) (pe_callB (call_maxN rfl) (by rfl) zmax PyProof.Rows.boot_max (pa_cons (pe_ix (ix_tupK (K:=K) rfl) (pe_ix (ix_listK (K:=K) rfl) (pv 0) (pv 1) (fun _ _=>rfl)) (pv 3) (fun _ _=>rfl)) (pa_cons (pe_ix (ix_tupK (K:=K) rfl) (pe_ix (ix_listK (K:=K) rfl) (pv 0) (pv 2) (fun _ _=>rfl)) (pv 3) (fun _ _=>rfl)) pa_nil))))
      (pss_one (ps_ret (pe_comp (xs:=["row"]) (cs ["rows","first","second","column","lesser","greater"] (defScope sMade) rfl rfl (by decide +kernel)) rfl (pi_listK (K:=K) rfl (pv 0)) (fun _ _ _=>pg_name (i:=0) (show (["row","rows","first","second","column","lesser","greater"]:List Str).Nodup by decide +kernel) rfl (Or.inl rfl)) (fun _ _ _=>pts_nil) (fun _ _ _=>(pe_ifExp (pt_cmpR op_eqI (pe_ix (ix_tupK (K:=K) rfl) (pv 0) (pv 4) (fun _ _=>rfl)) (pv 6) (nomark _)) (pe_call GWN hr1 rfl mWN kWN bWN .nil pass0 (pa_cons (pv 0) (pa_cons (pv 4) (pa_cons (pv 5) pa_nil)))) (pv 0)))))))),?_⟩
    refine ⟨_,rfl,_,rfl,tl,_,_,_,rfl,rfl,htl,atI_nat eiv,_,rfl,ti,_,_,_,rfl,rfl,SqT.of hi,atI_nat (getD_int (by omega)),_,rfl,_,rfl,tl,_,_,_,rfl,rfl,htl,atI_nat ejv,_,rfl,tj,_,_,_,rfl,rfl,SqT.of hj,atI_nat (getD_int (by omega)),ri.getD c 0,rj.getD c 0,rfl,?_⟩
    refine ⟨_,rfl,_,rfl,tl,_,_,_,rfl,rfl,htl,atI_nat eiv,_,rfl,ti,_,_,_,rfl,rfl,SqT.of hi,atI_nat (getD_int (by omega)),_,rfl,_,rfl,tl,_,_,_,rfl,rfl,htl,atI_nat ejv,_,rfl,tj,_,_,_,rfl,rfl,SqT.of hj,atI_nat (getD_int (by omega)),ri.getD c 0,rj.getD c 0,rfl,?_⟩
    refine ⟨_,rfl,tl,rfl,⟨_,htl⟩,lc_list (K:=K) (xs:=ts.map V.ref) (fun k acc H'=>∃ts':List Addr,acc=ts'.map V.ref∧Same H H'∧TB H' m ts' ((T.take k).map (evenRow c (ri.getD c 0) (rj.getD c 0)))) (by rw [ltm]; omega) ⟨[],rfl,Same.refl _,TB.nil _ _⟩ (fun k acc H' hk h=>?_) (fun k v acc H' hv h=>?_) (fun acc H' h=>?_)⟩
    · obtain ⟨ts',rfl,s',h'⟩:=h
      refine ⟨s'.seq htl,?_⟩
      rw [List.length_map,h'.len,List.length_map]
      exact List.length_take_le _ _
    · obtain ⟨ts',rfl,s',h'⟩:=h
      rw [List.getElem?_map] at hv
      cases et:ts[k]? with
      | none=>rw [et] at hv; cases hv
      | some t=>
        rw [et] at hv
        obtain rfl:=(Option.some.inj hv).symm
        obtain ⟨r,er,hrt,lr⟩:=hT.get et
        have etk:(T.take (k + 1)).map (evenRow c (ri.getD c 0) (rj.getD c 0))=(T.take k).map (evenRow c (ri.getD c 0) (rj.getD c 0))++[(evenRow c (ri.getD c 0) (rj.getD c 0)) r]:=by rw [List.take_succ,er,List.map_append]; rfl
        refine ⟨rfl,_,rfl,_,rfl,t,_,_,_,rfl,rfl,SqT.of (s' _ _ hrt),atI_nat (getD_int (by omega)),_,rfl,r.getD c 0,max (ri.getD c 0) (rj.getD c 0),rfl,rfl,_,rfl,ite2 (fun hb=>?_) (fun hb=>?_)⟩
        · have ev:(evenRow c (ri.getD c 0) (rj.getD c 0)) r=r.set c (min (ri.getD c 0) (rj.getD c 0)):=by unfold evenRow; rw [if_pos (of_decide_eq_true hb)]
          refine ⟨_,rfl,_,rfl,_,rfl,t,r,c,min (ri.getD c 0) (rj.getD c 0),rfl,s' _ _ hrt,by omega,by omega,fun t' H2 s2 ht'=>?_⟩
          refine ⟨ts'++[t'],by rw [List.map_append]; rfl,s'.trans s2,?_⟩
          rw [etk]
          exact (h'.same s2).snoc (by rw [ev]; exact ht') (by rw [ev,List.length_set]; exact lr)
        · have ev:(evenRow c (ri.getD c 0) (rj.getD c 0)) r=r:=by unfold evenRow; rw [if_neg fun z=>hb (decide_eq_true z)]
          refine ⟨_,rfl,ts'++[t],by rw [List.map_append]; rfl,s',?_⟩
          rw [etk]
          exact h'.snoc (by rw [ev]; exact s' _ _ hrt) (by rw [ev]; exact lr)
    · obtain ⟨ts',rfl,s',h'⟩:=h
      rw [ltm,List.take_length] at h'
      intro np hnp
      exact q np ts' _ (s'.trans (Same.new hnp)) (s'.none hnp) upd_same (h'.same (Same.new hnp))
abbrev sCheck:Stmt:=top 25
theorem scCheck:FnScope ["many","parts","together","part"] ["many","parts"] (defScope sCheck):=⟨rfl,rfl,rfl,by decide +kernel,rfl,by decide +kernel,by decide +kernel⟩
theorem ok_check {f fIW fAL:Addr} {fd fdIW fdAL:FuncData} {tkMP:PySem.Tok} (F:Fun K "check_parts" "check_parts" sCheck f fd) (GIW:FnOk P w K mg base CX0 1 fIW fdIW ["one","other"] spWithin) (mIW:mg "is_within" = some (.ref fIW)) (kIW:PySem.W.keepIn K (.ref fIW)=true) (bIW:Binds K fdIW ["one","other"] []) (GAL:FnOk P w K mg base CX0 1 fAL fdAL ["many"] spAllOf) (mAL:mg "all_of" = some (.ref fAL)) (kAL:PySem.W.keepIn K (.ref fAL)=true) (bAL:Binds K fdAL ["many"] []) (mMP:mg "MOST_PARTS" = some (.int 10 tkMP)) (zlen:mg "len" = none):FnOk P w K mg base CX0 2 f fd ["many","parts"] (spCheck K):=by
  refine F.ok scCheck (fun vs H Q E h=>?_) (fun cdv A outer s' H vs Q E hr h=>?_)
  · obtain ⟨m,pl,ps,rfl,_⟩:=h
    rfl
  · obtain ⟨m,pl,ps,rfl,m7,hpl,lp,hf,q⟩:=h
    have nd:=scCheck.nd
    have hr1:Room 1 _:=hr.mono (by decide)
    have lpm:(ps.map vN).length=ps.length:=List.length_map ..
    refine ⟨_,(pss_cons (ps_if (pt_cmpR op_gtN (pe_callB (call_lenK (K:=K) rfl) (by rfl) zlen PySem.boot_len (pa_cons (pv 1) pa_nil)) (pe_glob (v:=vN 10) (by rfl) mMP ⟨_,rfl⟩) (nomark _)) (pss_one ps_never) pss_nil)
      (pss_cons (ps_set (i:=2) nd rfl (Or.inl rfl) pe_int)
      (pss_cons (ps_for PassesOwn.never rfl (pi_listK (K:=K) rfl (pv 1)) (pg_name (i:=3) nd rfl (Or.inl rfl)) (pss_one (ps_set (i:=2) nd rfl (Or.inl rfl) (pe_op op_orN (pv 2) (pv 3)))))
      (pss_one (ps_if (pt_not (pt_val (pe_call GIW hr1 rfl mIW kIW bIW .nil pass0 (pa_cons (pe_call GAL hr1 rfl mAL kAL bAL .nil pass0 (pa_cons (pv 0) pa_nil)) (pa_cons (pv 2) pa_nil))))) (pss_one ps_never) pss_nil))))),?_⟩
    refine ⟨_,rfl,pl,_,rfl,.inl hpl,(ps.map vN).length,10,rfl,rfl,_,rfl,?_⟩
    rw [lpm,decide_eq_false (show ¬10 < ps.length by omega)]
    refine iteF ?_
    refine ⟨_,rfl,pl,rfl,⟨_,hpl⟩,for_list (K:=K) (xs:=ps.map vN) (fun i σ H'=>(∃v3,σ=[some (vN m),some (.ref pl),some (vN ((ps.take i).foldl (·|||·) 0)),v3])∧H' = H) ⟨⟨_,rfl⟩,rfl⟩ (fun i σ H' _ h=>by rw [h.2]; exact hpl) ?_ ?_⟩
    · rintro i v σ H1 hv ⟨⟨v3,rfl⟩,rfl⟩
      rw [List.getElem?_map] at hv
      cases ep:ps[i]? with
      | none=>rw [ep] at hv; cases hv
      | some p=>
        rw [ep] at hv
        obtain rfl:=(Option.some.inj hv).symm
        refine ⟨_,rfl,_,rfl,(ps.take i).foldl (·|||·) 0,p,rfl,rfl,?_⟩
        exact ⟨⟨some (vN p),by rw [List.take_succ,ep,List.foldl_append]; rfl⟩,rfl⟩
    · rintro σ H1 ⟨⟨v3,rfl⟩,rfl⟩
      rw [lpm,List.take_length,hf]
      refine ⟨_,rfl,m,rfl,by omega,_,rfl,2 ^ m - 1,2 ^ m - 1,rfl,_,rfl,?_⟩
      rw [Nat.and_self,decide_eq_true rfl]
      refine iteF ?_
      exact q H1 (Same.refl _)
abbrev sBegunT:Stmt:=top 26
theorem scBegunT:FnScope ["many","parts"] ["many","parts"] (defScope sBegunT):=⟨rfl,rfl,rfl,by decide +kernel,rfl,by decide +kernel,by decide +kernel⟩
theorem ok_begunt {f fM fN:Addr} {fd fdM fdN:FuncData} (F:Fun K "begun_table" "begun_table" sBegunT f fd) (GM:FnOk P w K mg base CX0 2 fM fdM ["one","other","some"] (spMixed K)) (mM:mg "mixed" = some (.ref fM)) (kM:PySem.W.keepIn K (.ref fM)=true) (bM:Binds K fdM ["one","other","some"] []) (GN:FnOk P w K mg base CX0 1 fN fdN ["many"] spNoughts) (mN:mg "noughts" = some (.ref fN)) (kN:PySem.W.keepIn K (.ref fN)=true) (bN:Binds K fdN ["many"] []) (zenumerate:mg "enumerate" = none):FnOk P w K mg base CX0 3 f fd ["many","parts"] (spBegunT K):=by
  refine F.ok scBegunT (fun vs H Q E h=>?_) (fun cdv A outer s' H vs Q E hr h=>?_)
  · obtain ⟨m,pl,ps,rfl,_⟩:=h
    rfl
  · obtain ⟨m,pl,ps,rfl,m1,m7,hpl,lp,q⟩:=h
    have hr1:Room 1 _:=hr.mono (by decide)
    have hr2:Room 2 _:=hr.mono (by decide)
    have lpm:(ps.map vN).length=ps.length:=List.length_map ..
    refine ⟨_,(pss_one (ps_ret (pe_comp (xs:=["number","part"]) (cs ["many","parts"] (defScope sBegunT) rfl rfl (by decide +kernel)) rfl (pi_enumS (K:=K) rfl rfl zenumerate (pa_cons (pv 1) pa_nil) (pk_cons pe_int pk_nil)) (fun _ _ _=>pg_tupK (K:=K) (n:=2) rfl rfl (pgs_cons (pg_name (i:=0) (show (["number","part","many","parts"]:List Str).Nodup by decide +kernel) rfl (Or.inl rfl)) (pgs_cons (pg_name (i:=1) (show (["number","part","many","parts"]:List Str).Nodup by decide +kernel) rfl (Or.inl rfl)) pgs_nil)) rfl rfl) (fun _ _ _=>pts_nil) (fun _ _ _=>(pe_call GM hr2 rfl mM kM bM .nil pass0 (pa_cons (pe_call GN hr1 rfl mN kN bN .nil pass0 (pa_cons (pv 2) pa_nil)) (pa_cons (pe_op op_repT (pe_tup (pa_cons (pv 0) pa_nil)) (pv 2)) (pa_cons (pv 1) pa_nil)))))))),?_⟩
    refine ⟨_,rfl,pl,_,1,rfl,rfl,by omega,hpl,lc_enumS (K:=K) (xs:=ps.map vN) (n:=2) (k:=1) (fun i acc H'=>∃ts:List Addr,acc=ts.map V.ref∧Same H H'∧TB H' m ts (begK m ps i)) (by omega) ⟨[],rfl,Same.refl _,TB.nil _ _⟩ (fun i acc H' hi h=>?_) (fun i v acc H' t hv h ht=>?_) (fun acc H' h=>?_)⟩
    · obtain ⟨ts,rfl,s1,hT⟩:=h
      refine ⟨s1.seq hpl,?_⟩
      rw [List.length_map,hT.len]
      unfold begK
      rw [List.length_map,List.length_range]
      exact Nat.le_refl _
    · obtain ⟨ts,rfl,s1,hT⟩:=h
      rw [List.getElem?_map] at hv
      cases ep:ps[i]? with
      | none=>rw [ep] at hv; cases hv
      | some p=>
        rw [ep] at hv
        obtain rfl:=(Option.some.inj hv).symm
        have epd:ps.getD i 0=p:=by rw [List.getD_eq_getElem?_getD,ep]; rfl
        have bk:begK m ps (i + 1)=begK m ps i++[begRow m i p]:=by
          unfold begK
          rw [List.range_succ,List.map_append,←epd]; rfl
        have sT:=Same.new (o:=.tup [vN (i + 1),vN p]) ht
        refine ⟨t,_,rfl,SqT.of upd_same,rfl,_,_,rfl,_,_,rfl,rfl,rfl,?_⟩
        generalize upd H' t (.tup [vN (i + 1),vN p])=H2 at sT
        refine ⟨_,rfl,m,rfl,m1,by omega,fun t1 H3 s3 ht1 ht1'=>?_⟩
        refine ⟨_,rfl,(by show 1≤sizeLine; decide),fun t2 ht2=>?_⟩
        have s4:=Same.new (o:=.tup [vN (i + 1)]) ht2
        have h24:(upd H3 t2 (.tup [vN (i + 1)])) t2=some (.tup [vN (i + 1)]):=upd_same
        have h14:=s4 _ _ ht1'
        have s24:=(sT.trans s3).trans s4
        generalize upd H3 t2 (.tup [vN (i + 1)])=H4 at s4 h24 h14 s24
        refine ⟨_,rfl,t2,vN (i + 1),m,rfl,rfl,h24,m1,by omega,fun e=>?_,fun e t3 ht3=>?_⟩
        · have h24':H4 t2=some (.tup ((List.replicate m ((i + 1:Nat):Int)).map V.int)):=by rw [e]; exact h24
          refine ⟨_,rfl,t1,t2,List.replicate m 0,List.replicate m ((i + 1:Nat):Int),p,rfl,SqT.of h14,SqT.of h24',by rw [List.length_replicate,List.length_replicate],by rw [List.length_replicate]; omega,fun tr H5 s5 htr0 htr=>?_⟩
          exact ⟨ts++[tr],by rw [List.map_append]; rfl,s1.trans (s24.trans s5),by rw [bk]; exact (hT.same (s24.trans s5)).snoc htr (begRow_len ..)⟩
        · have s5':=Same.new (o:=.tup (List.replicate m (vN (i + 1)))) ht3
          have h35:(upd H4 t3 (.tup (List.replicate m (vN (i + 1))))) t3=some (.tup ((List.replicate m ((i + 1:Nat):Int)).map V.int)):=by rw [upd_same,List.map_replicate]; rfl
          have s25:=s24.trans s5'
          have h15:=s5' _ _ h14
          generalize upd H4 t3 (.tup (List.replicate m (vN (i + 1))))=H5 at h35 s25 h15
          refine ⟨_,rfl,t1,t3,List.replicate m 0,List.replicate m ((i + 1:Nat):Int),p,rfl,SqT.of h15,SqT.of h35,by rw [List.length_replicate,List.length_replicate],by rw [List.length_replicate]; omega,fun tr H6 s6 htr0 htr=>?_⟩
          exact ⟨ts++[tr],by rw [List.map_append]; rfl,s1.trans (s25.trans s6),by rw [bk]; exact (hT.same (s25.trans s6)).snoc htr (begRow_len ..)⟩
    · obtain ⟨ts,rfl,s1,hT⟩:=h
      rw [lpm] at hT
      intro tl htl
      exact q tl ts _ (s1.trans (Same.new htl)) (s1.none htl) upd_same (hT.same (Same.new htl))
end
end Own
namespace Own
open PySem L2
section
variable {P:Program} {w:World} {K:PySem.W.Frag} {mg:Str→Option Value} {base:Heap}
seal PySem.wpAny
abbrev sFilled:Stmt:=top 32
theorem scFilled:FnScope ["many","rules","parts","rows","steps","step"] ["many","rules","parts"] (defScope sFilled):=⟨rfl,rfl,rfl,by decide +kernel,rfl,by decide +kernel,by decide +kernel⟩
theorem ok_filled {f fCK fBT fFS fMD:Addr} {fd fdCK fdBT fdFS fdMD:FuncData} (F:Fun K "filled" "filled" sFilled f fd) (GCK:FnOk P w K mg base CX0 2 fCK fdCK ["many","parts"] (spCheck K)) (mCK:mg "check_parts" = some (.ref fCK)) (kCK:PySem.W.keepIn K (.ref fCK)=true) (bCK:Binds K fdCK ["many","parts"] []) (GBT:FnOk P w K mg base CX0 3 fBT fdBT ["many","parts"] (spBegunT K)) (mBT:mg "begun_table" = some (.ref fBT)) (kBT:PySem.W.keepIn K (.ref fBT)=true) (bBT:Binds K fdBT ["many","parts"] []) (GFS:FnOk P w K mg base CX0 5 fFS fdFS ["rules","rows"] (spFirstStep K)) (mFS:mg "first_step" = some (.ref fFS)) (kFS:PySem.W.keepIn K (.ref fFS)=true) (bFS:Binds K fdFS ["rules","rows"] []) (GMD:FnOk P w K mg base CX0 2 fMD fdMD ["rows","first","second","column"] (spMade K)) (mMD:mg "made_alike" = some (.ref fMD)) (kMD:PySem.W.keepIn K (.ref fMD)=true) (bMD:Binds K fdMD ["rows","first","second","column"] []):FnOk P w K mg base CX0 6 f fd ["many","rules","parts"] (spFilled K):=by
  refine F.ok scFilled (fun vs H Q E h=>?_) (fun cdv A outer s' H vs Q E hr h=>?_)
  · obtain ⟨m,rl,pl,rs,ps,rfl,_⟩:=h
    rfl
  · obtain ⟨m,rl,pl,rs,ps,rfl,m1,m7,hrl,hRs,lr,hpl,lp,hf,q⟩:=h
    have nd:=scFilled.nd
    have hr2:Room 2 _:=hr.mono (by decide)
    have hr3:Room 3 _:=hr.mono (by decide)
    have hr5:Room 5 _:=hr.mono (by decide)
    have hrules:Rules m (rs.map Rl.d):=fun r hr'=>by
      obtain ⟨r',h1,rfl⟩:=List.mem_map.mp hr'
      exact (hRs r' h1).2
    refine ⟨_,(pss_cons (ps_expr (pe_call GCK hr2 rfl mCK kCK bCK .nil pass0 (pa_cons (pv 0) (pa_cons (pv 2) pa_nil)))) (pss_cons (ps_set (i:=3) nd rfl (Or.inl rfl) (pe_call GBT hr3 rfl mBT kBT bBT .nil pass0 (pa_cons (pv 0) (pa_cons (pv 2) pa_nil)))) (pss_cons (ps_set (i:=4) nd rfl (Or.inl rfl) (pe_lst pa_nil)) (pss_cut (fun σ H'=>∃n,FInv H m rl pl rs ps n σ H') (ps_set (i:=5) nd rfl (Or.inl rfl) (pe_call GFS hr5 rfl mFS kFS bFS .nil pass0 (pa_cons (pv 1) (pa_cons (pv 3) pa_nil)))) (pss_cons (ps_while PassesOwn.never (pt_cmpR op_notN (pv 5) pe_non (nomark _)) (pss_cons (ps_expr (pe_bm PySem.F.plainAttrs_list PySem.F.slot_list_append PySem.F.type_list_append mt_append (pv 4) (pa_cons (pv 5) pa_nil)))
      (pss_cons (ps_set (i:=3) nd rfl (Or.inl rfl) (pe_call GMD hr2 rfl mMD kMD bMD .nil pass0 (pa_cons (pv 3) (pa_cons (pe_ix (ix_tupK (K:=K) rfl) (pv 5) pe_int (fun _ _=>rfl)) (pa_cons (pe_ix (ix_tupK (K:=K) rfl) (pv 5) pe_int (fun _ _=>rfl)) (pa_cons (pe_ix (ix_tupK (K:=K) rfl) (pv 5) pe_int (fun _ _=>rfl)) pa_nil))))))
      (pss_one (ps_set (i:=5) nd rfl (Or.inl rfl) (pe_call GFS hr5 rfl mFS kFS bFS .nil pass0 (pa_cons (pv 1) (pa_cons (pv 3) pa_nil))))))))
      (pss_one (ps_ret (pe_tup (pa_cons (pv 3) (pa_cons (pv 4) pa_nil)))))))))),?_⟩
    refine ⟨_,rfl,_,rfl,m,pl,ps,rfl,m7,hpl,lp,hf,fun H1 s1=>?_⟩
    refine ⟨_,rfl,_,rfl,m,pl,ps,rfl,m1,m7,s1.seq hpl,lp,fun tl ts H2 s2 htl0 htl hT=>?_⟩
    refine ⟨Nat.zero_le _,fun sl hsl=>?_⟩
    have s3:=Same.new (o:=.lst []) hsl
    have hsl3:(upd H2 sl (.lst [])) sl=some (.lst []):=upd_same
    have htl3:=s3 _ _ htl
    have hT3:=hT.same s3
    have ntl:tl≠sl:=ne_of_none htl hsl
    have s03:=(s1.trans s2).trans s3
    have hsl0:=(s1.trans s2).none hsl
    have htlH:=s1.none htl0
    generalize upd H2 sl (.lst [])=H3 at s3 hsl3 htl3 hT3 s03
    have A0:=begT_at (m:=m) (rs:=rs.map Rl.d) lp m7
    have lT:(begT m ps).length≤20:=by unfold begT begK; rw [List.length_map,List.length_range]; omega
    refine ⟨⟨_,rfl,_,rfl,rl,tl,rs,ts,begT m ps,m,rfl,s03.seq hrl,hRs.same s03,lr,SqL.of htl3,hT3,m7,lT,fun H4 s4 hn=>?_,fun p t H4 s4 hp ht0 ht=>?_⟩,?_⟩
    · exact ⟨_,begT m ps,ts,tl,sl,[],.non,rfl,A0,s03.trans s4,htlH,s4 _ _ htl3,hT3.same s4,hsl0,ntl,s4 _ _ hsl3,(fun w h=>absurd h List.not_mem_nil),.inl ⟨hn,rfl⟩⟩
    · exact ⟨_,begT m ps,ts,tl,sl,[],.ref t,rfl,A0,s03.trans s4,htlH,s4 _ _ htl3,hT3.same s4,hsl0,ntl,s4 _ _ hsl3,(fun w h=>absurd h List.not_mem_nil),.inr ⟨p,t,hp,rfl,ht⟩⟩
    clear hsl3 htl3 hT3 s03 hsl0 htlH ntl s3
    rintro σ H5 ⟨n0,hinv⟩
    refine ⟨FInv H m rl pl rs ps,⟨n0,hinv⟩,?_⟩
    clear hinv
    rintro n _ H4 ⟨T,ts,tl,sl,sw,v,rfl,A,s4,htl0,htl,hT,hsl0,ntl,hsl,hst,hv⟩
    refine ⟨_,rfl,rfl,_,rfl,?_⟩
    have lsw:=A.len
    rw [List.length_map] at lsw
    rcases hv with ⟨hn,rfl⟩ | ⟨p,t,hp,rfl,ht⟩
    · refine iteF ?_
      obtain ⟨d1,d2⟩:=A.done hn
      refine ⟨_,rfl,_,rfl,(by show 2≤sizeLine; decide),fun tt htt=>?_⟩
      have s5:=Same.new (o:=.tup [V.ref tl,V.ref sl]) htt
      exact q tt tl sl ts sw _ (s4.trans s5) upd_same htl0 (s5 _ _ htl) (by rw [←d1]; exact hT.same s5) hsl0 (s5 _ _ hsl) (hst.same s5) d2 (by omega) ntl
    · refine iteT ?_
      refine ⟨_,fun _ _ h=>h,?_⟩
      obtain ⟨⟨ri,rj,eri,erj,hc,estep⟩,n',rfl,A'⟩:=A.next m7 hrules hp
      refine ⟨_,rfl,.inl ⟨rfl,_,SqL.of hsl⟩,_,rfl,sl,_,_,rfl,rfl,hsl,(by rw [List.length_map]; exact small1000 (by omega)),?_⟩
      have nt:t≠sl:=ne_of ht hsl (by intro z; cases z)
      have s5:Same H (upd H4 sl (.lst ((sw.map fun w=>V.ref w.1)++[V.ref t]))):=s4.own hsl0
      have ht5:(upd H4 sl (.lst ((sw.map fun w=>V.ref w.1)++[V.ref t]))) t=some (.tup [vN p.1,vN p.2.1,vN p.2.2.1,vN p.2.2.2]):=by rw [upd_ne nt]; exact ht
      have hs5:(upd H4 sl (.lst ((sw.map fun w=>V.ref w.1)++[V.ref t]))) sl=some (.lst ((sw++[(t,p)]).map fun w=>V.ref w.1)):=by rw [upd_same,List.map_append]; rfl
      have htl5:(upd H4 sl (.lst ((sw.map fun w=>V.ref w.1)++[V.ref t]))) tl=some (.lst (ts.map V.ref)):=by rw [upd_ne ntl]; exact htl
      have hT5:TB (upd H4 sl (.lst ((sw.map fun w=>V.ref w.1)++[V.ref t]))) m ts T:=hT.putL hsl
      have st5:Steps4 (upd H4 sl (.lst ((sw.map fun w=>V.ref w.1)++[V.ref t]))) (sw++[(t,p)]):=(hst.put hsl).snoc (w:=(t,p)) ht5
      generalize upd H4 sl (.lst ((sw.map fun w=>V.ref w.1)++[V.ref t]))=H5 at s5 ht5 hs5 htl5 hT5 st5
      have lT:T.length≤20:=by rw [A.ln]; unfold begT begK; rw [List.length_map,List.length_range]; omega
      refine ⟨_,rfl,_,rfl,t,_,_,_,rfl,rfl,SqT.of ht5,atI_nat (j:=1) rfl,_,rfl,t,_,_,_,rfl,rfl,SqT.of ht5,atI_nat (j:=2) rfl,_,rfl,t,_,_,_,rfl,rfl,SqT.of ht5,atI_nat (j:=3) rfl,tl,ts,T,m,p.2.1,p.2.2.1,p.2.2.2,ri,rj,rfl,SqL.of htl5,hT5,m7,lT,eri,erj,hc,fun tl' ts' H6 s6 htl0' htl' hT'=>?_⟩
      rw [←estep] at hT'
      have A2:TAt m (rs.map Rl.d) (begT m ps) ((sw++[(t,p)]).map (·.2)) (stepT T p) n':=by rw [List.map_append]; exact A'
      have lT':(stepT T p).length≤20:=by rw [A2.ln,←A.ln]; exact lT
      have s56:=s5.trans s6
      have hs6:=s6 _ _ hs5
      have ntl':tl'≠sl:=(ne_of_none hs5 htl0').symm
      refine ⟨_,rfl,_,rfl,rl,tl',rs,ts',stepT T p,m,rfl,s56.seq hrl,hRs.same s56,lr,SqL.of htl',hT',m7,lT',fun H7 s7 hn=>?_,fun p' t' H7 s7 hp' ht0' ht'=>?_⟩
      · exact ⟨n',by omega,stepT T p,ts',tl',sl,_,.non,rfl,A2,s56.trans s7,s5.none htl0',s7 _ _ htl',hT'.same s7,hsl0,ntl',s7 _ _ hs6,(st5.same s6).same s7,.inl ⟨hn,rfl⟩⟩
      · exact ⟨n',by omega,stepT T p,ts',tl',sl,_,.ref t',rfl,A2,s56.trans s7,s5.none htl0',s7 _ _ htl',hT'.same s7,hsl0,ntl',s7 _ _ hs6,(st5.same s6).same s7,.inr ⟨p',t',hp',rfl,ht'⟩⟩
abbrev sSafe:Stmt:=top 33
theorem scSafe:FnScope ["many","rules","parts"] ["many","rules","parts"] (defScope sSafe):=⟨rfl,rfl,rfl,by decide +kernel,rfl,by decide +kernel,by decide +kernel⟩
theorem ok_safe {f fN fFL:Addr} {fd fdN fdFL:FuncData} (F:Fun K "is_safe" "is_safe" sSafe f fd) (GN:FnOk P w K mg base CX0 1 fN fdN ["many"] spNoughts) (mN:mg "noughts" = some (.ref fN)) (kN:PySem.W.keepIn K (.ref fN)=true) (bN:Binds K fdN ["many"] []) (GFL:FnOk P w K mg base CX0 6 fFL fdFL ["many","rules","parts"] (spFilled K)) (mFL:mg "filled" = some (.ref fFL)) (kFL:PySem.W.keepIn K (.ref fFL)=true) (bFL:Binds K fdFL ["many","rules","parts"] []):FnOk P w K mg base CX0 7 f fd ["many","rules","parts"] (spSafe K):=by
  refine F.ok scSafe (fun vs H Q E h=>?_) (fun cdv A outer s' H vs Q E hr h=>?_)
  · obtain ⟨m,rl,pl,rs,ps,rfl,_⟩:=h
    rfl
  · obtain ⟨m,rl,pl,rs,ps,rfl,m1,m7,hrl,hRs,lr,hpl,lp,hf,q⟩:=h
    have hr1:Room 1 _:=hr.mono (by decide)
    have hr6:Room 6 _:=hr.mono (by decide)
    refine ⟨_,(pss_one (ps_ret (pe_cmpR (op_inTT (K:=K) rfl hr.units) (pe_call GN hr1 rfl mN kN bN .nil pass0 (pa_cons (pv 0) pa_nil)) (pe_ix (ix_tupK (K:=K) rfl) (pe_call GFL hr6 rfl mFL kFL bFL .nil pass0 (pa_cons (pv 0) (pa_cons (pv 1) (pa_cons (pv 2) pa_nil)))) pe_int (fun _ _=>rfl)) (by rfl)))),?_⟩
    refine ⟨_,rfl,m,rfl,m1,by omega,fun p H1 s1 hp0 hp=>?_⟩
    refine ⟨_,rfl,_,rfl,_,rfl,m,rl,pl,rs,ps,rfl,m1,m7,s1.seq hrl,hRs.same s1,lr,s1.seq hpl,lp,hf,fun t tl sl ts sw H2 s2 ht htl0 htl hT _ _ _ _ _ _=>?_⟩
    refine ⟨t,_,_,_,rfl,rfl,SqT.of ht,atI_nat (j:=0) rfl,?_⟩
    obtain ⟨z1,z2⟩:=hT.zip
    refine ⟨p,tl,List.replicate m 0,ts.zip (runT (rs.map Rl.d) 1000 (begT m ps)).1,rfl,rfl,s2 _ _ hp,SqL.of (by rw [zip_refs hT.len]; exact htl),z1,fun b hb=>?_⟩
    exact q b H2 (s1.trans s2) (hb.trans (z2 _))
abbrev sTake:Stmt:=top 35
theorem scTake:FnScope ["_law_state","_law_most","_law_script","_law_at","_law_number"] ["_law_state","_law_most"] (defScope sTake):=⟨rfl,rfl,rfl,by decide +kernel,rfl,by decide +kernel,by decide +kernel⟩
theorem ok_take {f:Addr} {fd:FuncData} (F:Fun K "_law_take" "_law_take" sTake f fd) (zLen:mg "len" = none):FnOk P w K mg base CX0 1 f fd ["_law_state","_law_most"] (spTakeF K):=by
  refine F.ok scTake (fun vs H Q E h=>?_) (fun cdv A outer s H vs Q E hr h=>?_)
  · obtain ⟨st,ns,k,most,rfl,_⟩:=h
    rfl
  · obtain ⟨st,ns,k,most,rfl,⟨sc,hst,hscF⟩,hk,hl,hm,q⟩:=h
    have nd:=scTake.nd
    refine ⟨_,pss_cons (ps_asg (pv 0) (pg_lst rfl (pgs_cons (pg_name (i:=2) nd rfl (Or.inl rfl)) (pgs_cons (pg_name (i:=3) nd rfl (Or.inl rfl)) pgs_nil))))
      (pss_cons (ps_asg (pe_op op_add (pv 3) pe_int) (pg_sub (pv 0) pe_int set_list))
      (pss_cons (ps_if (pt_cmpR op_lt (pv 3) (pe_callB call_len_seq (by rfl) zLen PySem.boot_len (pa_cons (pv 2) pa_nil)) (nomark _))
        (pss_one (ps_ret (pe_op op_mod (pe_ix ix_list (pv 2) (pv 3) (fun _ _=>rfl)) (pv 1)))) pss_nil)
      (pss_cons (ps_set (i:=4) nd rfl (Or.inl rfl) (pe_op op_add (pe_op op_add (pe_op op_mul (pe_op op_mul (pv 3) (pv 3)) pe_int) (pe_op op_mul pe_int (pv 3))) pe_int))
      (pss_cons (ps_if (pt_cmpR op_gt (pe_callB call_len_seq (by rfl) zLen PySem.boot_len (pa_cons (pv 2) pa_nil)) pe_int (nomark _))
        (pss_one (ps_set (i:=4) nd rfl (Or.inl rfl) (pe_op op_add (pv 4) (pe_op op_mul (pe_op op_mod (pe_ix ix_list (pv 2) (pe_op op_mod (pe_op op_mul (pv 3) pe_int) (pe_callB call_len_seq (by rfl) zLen PySem.boot_len (pa_cons (pv 2) pa_nil))) (fun _ _=>rfl)) pe_int) (pe_op op_add (pv 3) pe_int))))) pss_nil)
      (pss_one (ps_ret (pe_op op_mod (pe_op op_mod (pe_op op_mul (pe_op op_mod (pe_op op_mul (pv 4) pe_int) pe_int) (pe_op op_add (pe_op op_mod (pv 4) pe_int) pe_int)) pe_int) (pv 1)))))))),?_⟩
    refine ⟨_,rfl,st,_,rfl,SqL.of hst,rfl,_,_,rfl,_,_,rfl,rfl,?_⟩
    refine ⟨_,rfl,_,_,rfl,rfl,_,rfl,st,_,1,1,rfl,rfl,hst,rfl,?_⟩
    have bt:But st H (upd H st (.lst [.ref sc,.int ((k:Int) + 1)])):=But.put st H _
    have hscF':SqF K (upd H st (.lst [.ref sc,.int ((k:Int) + 1)])) sc ns:=STF.seq hst hscF bt
    have hsc':=hscF'.sq
    have s':L2.STF K (upd H st (.lst [.ref sc,.int ((k:Int) + 1)])) st ns (k + 1):=⟨sc,by rw [upd_same]; rfl,hscF'⟩
    refine ⟨_,rfl,_,rfl,sc,_,rfl,.inl hsc',_,_,rfl,rfl,_,rfl,?_⟩
    have len1:(ns.map V.int).length=ns.length:=List.length_map ..
    refine ite2 (fun hc=>?_) (fun hc=>?_)
    · have hlt:k < ns.length:=by
        have:=of_decide_eq_true hc
        rw [len1] at this
        omega
      refine ⟨_,rfl,_,rfl,sc,_,_,_,rfl,rfl,hsc',atI_nat (j:=k) (v:=V.int ns[k]) (by simp [hlt]),_,rfl,_,_,rfl,rfl,hm,?_⟩
      exact q _ _ (mod_lo _ hm) (mod_hi _ hm) s' bt
    · refine ⟨_,rfl,_,rfl,_,_,rfl,rfl,.inl ⟨by omega,by omega⟩,_,_,rfl,rfl,.inr ⟨by decide,by decide⟩,_,rfl,_,_,rfl,rfl,.inl ⟨by decide,by decide⟩,_,_,rfl,rfl,_,_,rfl,rfl,?_⟩
      refine ⟨_,rfl,sc,_,rfl,.inl hsc',_,_,rfl,rfl,_,rfl,?_⟩
      have fin:∀z:Int,(tRet (tOp (rI (fun _ j=>0 < j) fun i j=>V.int (i % j)) (tOp (rI (fun _ j=>0 < j) fun i j=>V.int (i % j)) (tOp (rI CMul fun i j=>V.int (i * j)) (tOp (rI (fun _ j=>0 < j) fun i j=>V.int (i % j)) (tOp (rI CMul fun i j=>V.int (i * j)) (tVar 4) (tC (.int 48271))) (tC (.int 2147483629)))
          (tOp (rI0 fun i j=>V.int (i + j)) (tOp (rI (fun _ j=>0 < j) fun i j=>V.int (i % j)) (tVar 4) (tC (.int 65521))) (tC (.int 3)))) (tC (.int 999999937))) (tVar 1)))
          { nx:=fun _ H'=>Q .non H',rt:=Q } [some (.ref st),some (.int most),some (.ref sc),some (.int k),some (.int z)] (upd H st (.lst [.ref sc,.int ((k:Int) + 1)])):=fun z=>by
        refine ⟨_,rfl,_,_,rfl,rfl,.inr ⟨by decide,by decide⟩,_,_,rfl,rfl,(by show (0:Int) < _; decide),_,rfl,_,_,rfl,rfl,(by show (0:Int) < _; decide),_,_,rfl,rfl,_,_,rfl,rfl,.inl ⟨?_,?_⟩,_,_,rfl,rfl,(by show (0:Int) < _; decide),_,rfl,_,_,rfl,rfl,hm,?_⟩
        · have:=mod_lo (z * 48271) (show (0:Int) < 2147483629 by decide); omega
        · have:=mod_hi (z * 48271) (show (0:Int) < 2147483629 by decide); omega
        · exact q _ _ (mod_lo _ hm) (mod_hi _ hm) s' bt
      refine ite2 (fun hc2=>?_) (fun hc2=>?_)
      · have hpos:0 < ns.length:=by
          have:=of_decide_eq_true hc2
          rw [len1] at this
          omega
        have hp':(0:Int) < ((ns.map V.int).length:Int):=by rw [len1]; omega
        have ix:∃j:Nat,((k:Int) * 3 % ((ns.map V.int).length:Int))=(j:Int)∧j < ns.length:=by
          have h1:=mod_lo ((k:Int) * 3) hp'
          have h2:=mod_hi ((k:Int) * 3) hp'
          rw [len1] at h2
          refine ⟨((k:Int) * 3 % ((ns.map V.int).length:Int)).toNat,by omega,?_⟩
          rw [len1]
          rw [len1] at h1
          omega
        obtain ⟨j,ej,hj⟩:=ix
        refine ⟨_,rfl,_,rfl,_,rfl,_,_,rfl,rfl,.inr ⟨by decide,by decide⟩,_,rfl,sc,_,rfl,.inl hsc',_,_,rfl,rfl,hp',sc,_,_,_,rfl,rfl,hsc',(by rw [ej]; exact atI_nat (j:=j) (v:=V.int ns[j]) (by simp [hj])),_,_,rfl,rfl,(by show (0:Int) < _; decide),_,rfl,_,_,rfl,rfl,_,_,rfl,rfl,.inl ⟨?_,?_⟩,_,_,rfl,rfl,?_⟩
        · have:=mod_lo ns[j] (show (0:Int) < 2147483563 by decide); omega
        · have:=mod_hi ns[j] (show (0:Int) < 2147483563 by decide); omega
        · exact fin _
      · exact fin _
end
end Own
namespace Own
open PySem L2
theorem all_mk {l:PySem.W.OpenLaw} {w:World} {K:PySem.W.Frag} {h:Heap} {mg:Str→Option Value} {fa fH fC fAL fIW fL fM fN fCK fBT fUL fFP fFS fWN fMD fFL fSF fCU fI fUD fBG fFU fUN fFT fCT fT fLA fLX fLK fLP fTB fKE fLG fTW fSV fQ:Addr} (X:K.In h) (G:h.Ns mainGlobals mg) (hfa:mg "law" = some (.ref fa))
    {odH anH odC anC odAL anAL odIW anIW odL anL odM anM odN anN odCK anCK odBT anBT odUL anUL odFP anFP odFS anFS odWN anWN odMD anMD odFL anFL odSF anSF odCU anCU odI anI odUD anUD odBG anBG odFU anFU odUN anUN odFT anFT odCT anCT odT anT odLA anLA odLX anLX odLK anLK odLP anLP odTB anTB odKE anKE odLG anLG odTW anTW odSV anSV odQ anQ:Option Addr} {slH slC slAL slIW slL slM slN slCK slBT slUL slFP slFS slWN slMD slFL slSF slCU slI slUD slBG slFU slUN slFT slCT slT slLA slLX slLK slLP slTB slKE slLG slTW slSV slQ:Array (Option Value)} {ocH kVH dcH pmH cdH ctH ocC kVC dcC pmC cdC ctC ocAL kVAL dcAL pmAL cdAL ctAL ocIW kVIW dcIW pmIW cdIW ctIW ocL kVL dcL pmL cdL ctL ocM kVM dcM pmM cdM ctM ocN kVN dcN pmN cdN ctN ocCK kVCK dcCK pmCK cdCK ctCK ocBT kVBT dcBT pmBT cdBT ctBT ocUL kVUL dcUL pmUL cdUL ctUL ocFP kVFP dcFP pmFP cdFP ctFP ocFS kVFS dcFS pmFS cdFS ctFS ocWN kVWN dcWN pmWN cdWN ctWN ocMD kVMD dcMD pmMD cdMD ctMD ocFL kVFL dcFL pmFL cdFL ctFL ocSF kVSF dcSF pmSF cdSF ctSF ocCU kVCU dcCU pmCU cdCU ctCU ocI kVI dcI pmI cdI ctI ocUD kVUD dcUD pmUD cdUD ctUD ocBG kVBG dcBG pmBG cdBG ctBG ocFU kVFU dcFU pmFU cdFU ctFU ocUN kVUN dcUN pmUN cdUN ctUN ocFT kVFT dcFT pmFT cdFT ctFT ocCT kVCT dcCT pmCT cdCT ctCT ocT kVT dcT pmT cdT ctT ocLA kVLA dcLA pmLA cdLA ctLA ocLX kVLX dcLX pmLX cdLX ctLX ocLK kVLK dcLK pmLK cdLK ctLK ocLP kVLP dcLP pmLP cdLP ctLP ocTB kVTB dcTB pmTB cdTB ctTB ocKE kVKE dcKE pmKE cdKE ctKE ocLG kVLG dcLG pmLG cdLG ctLG ocTW kVTW dcTW pmTW cdTW ctTW ocSV kVSV dcSV pmSV cdSV ctSV ocQ kVQ dcQ pmQ cdQ ctQ:Value}
    (aH:PySem.W.nsIn K mainGlobals "has_column" = some (some (.ref fH))) (lH:K.lookup fH=some ⟨ocH,odH,.func (PySem.W.fnOf "has_column" "has_column" (defArgs sHas) (defBody sHas) (defScope sHas) .none kVH dcH pmH anH cdH ctH),slH⟩) (cH:PySem.W.codeIn K cdH "has_column" = true) (kH:PySem.W.keepIn K (.ref fH)=true)
    (aC:PySem.W.nsIn K mainGlobals "columns_of" = some (some (.ref fC))) (lC:K.lookup fC=some ⟨ocC,odC,.func (PySem.W.fnOf "columns_of" "columns_of" (defArgs sCols) (defBody sCols) (defScope sCols) .none kVC dcC pmC anC cdC ctC),slC⟩) (cC:PySem.W.codeIn K cdC "columns_of" = true) (kC:PySem.W.keepIn K (.ref fC)=true)
    (aAL:PySem.W.nsIn K mainGlobals "all_of" = some (some (.ref fAL))) (lAL:K.lookup fAL=some ⟨ocAL,odAL,.func (PySem.W.fnOf "all_of" "all_of" (defArgs sAll) (defBody sAll) (defScope sAll) .none kVAL dcAL pmAL anAL cdAL ctAL),slAL⟩) (cAL:PySem.W.codeIn K cdAL "all_of" = true) (kAL:PySem.W.keepIn K (.ref fAL)=true)
    (aIW:PySem.W.nsIn K mainGlobals "is_within" = some (some (.ref fIW))) (lIW:K.lookup fIW=some ⟨ocIW,odIW,.func (PySem.W.fnOf "is_within" "is_within" (defArgs sWithin) (defBody sWithin) (defScope sWithin) .none kVIW dcIW pmIW anIW cdIW ctIW),slIW⟩) (cIW:PySem.W.codeIn K cdIW "is_within" = true) (kIW:PySem.W.keepIn K (.ref fIW)=true)
    (aL:PySem.W.nsIn K mainGlobals "alike" = some (some (.ref fL))) (lL:K.lookup fL=some ⟨ocL,odL,.func (PySem.W.fnOf "alike" "alike" (defArgs sAlike) (defBody sAlike) (defScope sAlike) .none kVL dcL pmL anL cdL ctL),slL⟩) (cL:PySem.W.codeIn K cdL "alike" = true) (kL:PySem.W.keepIn K (.ref fL)=true)
    (aM:PySem.W.nsIn K mainGlobals "mixed" = some (some (.ref fM))) (lM:K.lookup fM=some ⟨ocM,odM,.func (PySem.W.fnOf "mixed" "mixed" (defArgs sMixed) (defBody sMixed) (defScope sMixed) .none kVM dcM pmM anM cdM ctM),slM⟩) (cM:PySem.W.codeIn K cdM "mixed" = true) (kM:PySem.W.keepIn K (.ref fM)=true)
    (aN:PySem.W.nsIn K mainGlobals "noughts" = some (some (.ref fN))) (lN:K.lookup fN=some ⟨ocN,odN,.func (PySem.W.fnOf "noughts" "noughts" (defArgs sNoughts) (defBody sNoughts) (defScope sNoughts) .none kVN dcN pmN anN cdN ctN),slN⟩) (cN:PySem.W.codeIn K cdN "noughts" = true) (kN:PySem.W.keepIn K (.ref fN)=true)
    (aCK:PySem.W.nsIn K mainGlobals "check_parts" = some (some (.ref fCK))) (lCK:K.lookup fCK=some ⟨ocCK,odCK,.func (PySem.W.fnOf "check_parts" "check_parts" (defArgs sCheck) (defBody sCheck) (defScope sCheck) .none kVCK dcCK pmCK anCK cdCK ctCK),slCK⟩) (cCK:PySem.W.codeIn K cdCK "check_parts" = true) (kCK:PySem.W.keepIn K (.ref fCK)=true)
    (aBT:PySem.W.nsIn K mainGlobals "begun_table" = some (some (.ref fBT))) (lBT:K.lookup fBT=some ⟨ocBT,odBT,.func (PySem.W.fnOf "begun_table" "begun_table" (defArgs sBegunT) (defBody sBegunT) (defScope sBegunT) .none kVBT dcBT pmBT anBT cdBT ctBT),slBT⟩) (cBT:PySem.W.codeIn K cdBT "begun_table" = true) (kBT:PySem.W.keepIn K (.ref fBT)=true)
    (aUL:PySem.W.nsIn K mainGlobals "first_unlike" = some (some (.ref fUL))) (lUL:K.lookup fUL=some ⟨ocUL,odUL,.func (PySem.W.fnOf "first_unlike" "first_unlike" (defArgs sUnlike) (defBody sUnlike) (defScope sUnlike) .none kVUL dcUL pmUL anUL cdUL ctUL),slUL⟩) (cUL:PySem.W.codeIn K cdUL "first_unlike" = true) (kUL:PySem.W.keepIn K (.ref fUL)=true)
    (aFP:PySem.W.nsIn K mainGlobals "first_place" = some (some (.ref fFP))) (lFP:K.lookup fFP=some ⟨ocFP,odFP,.func (PySem.W.fnOf "first_place" "first_place" (defArgs sPlace) (defBody sPlace) (defScope sPlace) .none kVFP dcFP pmFP anFP cdFP ctFP),slFP⟩) (cFP:PySem.W.codeIn K cdFP "first_place" = true) (kFP:PySem.W.keepIn K (.ref fFP)=true)
    (aFS:PySem.W.nsIn K mainGlobals "first_step" = some (some (.ref fFS))) (lFS:K.lookup fFS=some ⟨ocFS,odFS,.func (PySem.W.fnOf "first_step" "first_step" (defArgs sStep) (defBody sStep) (defScope sStep) .none kVFS dcFS pmFS anFS cdFS ctFS),slFS⟩) (cFS:PySem.W.codeIn K cdFS "first_step" = true) (kFS:PySem.W.keepIn K (.ref fFS)=true)
    (aWN:PySem.W.nsIn K mainGlobals "with_number" = some (some (.ref fWN))) (lWN:K.lookup fWN=some ⟨ocWN,odWN,.func (PySem.W.fnOf "with_number" "with_number" (defArgs sWithN) (defBody sWithN) (defScope sWithN) .none kVWN dcWN pmWN anWN cdWN ctWN),slWN⟩) (cWN:PySem.W.codeIn K cdWN "with_number" = true) (kWN:PySem.W.keepIn K (.ref fWN)=true)
    (aMD:PySem.W.nsIn K mainGlobals "made_alike" = some (some (.ref fMD))) (lMD:K.lookup fMD=some ⟨ocMD,odMD,.func (PySem.W.fnOf "made_alike" "made_alike" (defArgs sMade) (defBody sMade) (defScope sMade) .none kVMD dcMD pmMD anMD cdMD ctMD),slMD⟩) (cMD:PySem.W.codeIn K cdMD "made_alike" = true) (kMD:PySem.W.keepIn K (.ref fMD)=true)
    (aFL:PySem.W.nsIn K mainGlobals "filled" = some (some (.ref fFL))) (lFL:K.lookup fFL=some ⟨ocFL,odFL,.func (PySem.W.fnOf "filled" "filled" (defArgs sFilled) (defBody sFilled) (defScope sFilled) .none kVFL dcFL pmFL anFL cdFL ctFL),slFL⟩) (cFL:PySem.W.codeIn K cdFL "filled" = true) (kFL:PySem.W.keepIn K (.ref fFL)=true)
    (aSF:PySem.W.nsIn K mainGlobals "is_safe" = some (some (.ref fSF))) (lSF:K.lookup fSF=some ⟨ocSF,odSF,.func (PySem.W.fnOf "is_safe" "is_safe" (defArgs sSafe) (defBody sSafe) (defScope sSafe) .none kVSF dcSF pmSF anSF cdSF ctSF),slSF⟩) (cSF:PySem.W.codeIn K cdSF "is_safe" = true) (kSF:PySem.W.keepIn K (.ref fSF)=true)
    (aCU:PySem.W.nsIn K mainGlobals "can_use" = some (some (.ref fCU))) (lCU:K.lookup fCU=some ⟨ocCU,odCU,.func (PySem.W.fnOf "can_use" "can_use" (defArgs sCanUse) (defBody sCanUse) (defScope sCanUse) .none kVCU dcCU pmCU anCU cdCU ctCU),slCU⟩) (cCU:PySem.W.codeIn K cdCU "can_use" = true) (kCU:PySem.W.keepIn K (.ref fCU)=true)
    (aI:PySem.W.nsIn K mainGlobals "listed" = some (some (.ref fI))) (lI:K.lookup fI=some ⟨ocI,odI,.func (PySem.W.fnOf "listed" "listed" (defArgs sListed) (defBody sListed) (defScope sListed) .none kVI dcI pmI anI cdI ctI),slI⟩) (cI:PySem.W.codeIn K cdI "listed" = true) (kI:PySem.W.keepIn K (.ref fI)=true)
    (aUD:PySem.W.nsIn K mainGlobals "used" = some (some (.ref fUD))) (lUD:K.lookup fUD=some ⟨ocUD,odUD,.func (PySem.W.fnOf "used" "used" (defArgs sUsed) (defBody sUsed) (defScope sUsed) .none kVUD dcUD pmUD anUD cdUD ctUD),slUD⟩) (cUD:PySem.W.codeIn K cdUD "used" = true) (kUD:PySem.W.keepIn K (.ref fUD)=true)
    (aBG:PySem.W.nsIn K mainGlobals "begun" = some (some (.ref fBG))) (lBG:K.lookup fBG=some ⟨ocBG,odBG,.func (PySem.W.fnOf "begun" "begun" (defArgs sBegun) (defBody sBegun) (defScope sBegun) .none kVBG dcBG pmBG anBG cdBG ctBG),slBG⟩) (cBG:PySem.W.codeIn K cdBG "begun" = true) (kBG:PySem.W.keepIn K (.ref fBG)=true)
    (aFU:PySem.W.nsIn K mainGlobals "first_use" = some (some (.ref fFU))) (lFU:K.lookup fFU=some ⟨ocFU,odFU,.func (PySem.W.fnOf "first_use" "first_use" (defArgs sFirst) (defBody sFirst) (defScope sFirst) .none kVFU dcFU pmFU anFU cdFU ctFU),slFU⟩) (cFU:PySem.W.codeIn K cdFU "first_use" = true) (kFU:PySem.W.keepIn K (.ref fFU)=true)
    (aUN:PySem.W.nsIn K mainGlobals "unfolded" = some (some (.ref fUN))) (lUN:K.lookup fUN=some ⟨ocUN,odUN,.func (PySem.W.fnOf "unfolded" "unfolded" (defArgs sUnf) (defBody sUnf) (defScope sUnf) .none kVUN dcUN pmUN anUN cdUN ctUN),slUN⟩) (cUN:PySem.W.codeIn K cdUN "unfolded" = true) (kUN:PySem.W.keepIn K (.ref fUN)=true)
    (aFT:PySem.W.nsIn K mainGlobals "first_torn" = some (some (.ref fFT))) (lFT:K.lookup fFT=some ⟨ocFT,odFT,.func (PySem.W.fnOf "first_torn" "first_torn" (defArgs sTorn) (defBody sTorn) (defScope sTorn) .none kVFT dcFT pmFT anFT cdFT ctFT),slFT⟩) (cFT:PySem.W.codeIn K cdFT "first_torn" = true) (kFT:PySem.W.keepIn K (.ref fFT)=true)
    (aCT:PySem.W.nsIn K mainGlobals "cut_in_two" = some (some (.ref fCT))) (lCT:K.lookup fCT=some ⟨ocCT,odCT,.func (PySem.W.fnOf "cut_in_two" "cut_in_two" (defArgs sCutIn) (defBody sCutIn) (defScope sCutIn) .none kVCT dcCT pmCT anCT cdCT ctCT),slCT⟩) (cCT:PySem.W.codeIn K cdCT "cut_in_two" = true) (kCT:PySem.W.keepIn K (.ref fCT)=true)
    (aT:PySem.W.nsIn K mainGlobals "_law_take" = some (some (.ref fT))) (lT:K.lookup fT=some ⟨ocT,odT,.func (PySem.W.fnOf "_law_take" "_law_take" (defArgs sTake) (defBody sTake) (defScope sTake) .none kVT dcT pmT anT cdT ctT),slT⟩) (cT:PySem.W.codeIn K cdT "_law_take" = true) (kT:PySem.W.keepIn K (.ref fT)=true)
    (aLA:PySem.W.nsIn K mainGlobals "_law_alike" = some (some (.ref fLA))) (lLA:K.lookup fLA=some ⟨ocLA,odLA,.func (PySem.W.fnOf "_law_alike" "_law_alike" (defArgs sAlike9) (defBody sAlike9) (defScope sAlike9) .none kVLA dcLA pmLA anLA cdLA ctLA),slLA⟩) (cLA:PySem.W.codeIn K cdLA "_law_alike" = true) (kLA:PySem.W.keepIn K (.ref fLA)=true)
    (aLX:PySem.W.nsIn K mainGlobals "_law_mix" = some (some (.ref fLX))) (lLX:K.lookup fLX=some ⟨ocLX,odLX,.func (PySem.W.fnOf "_law_mix" "_law_mix" (defArgs sMix9) (defBody sMix9) (defScope sMix9) .none kVLX dcLX pmLX anLX cdLX ctLX),slLX⟩) (cLX:PySem.W.codeIn K cdLX "_law_mix" = true) (kLX:PySem.W.keepIn K (.ref fLX)=true)
    (aLK:PySem.W.nsIn K mainGlobals "_law_keeps" = some (some (.ref fLK))) (lLK:K.lookup fLK=some ⟨ocLK,odLK,.func (PySem.W.fnOf "_law_keeps" "_law_keeps" (defArgs sKeeps9) (defBody sKeeps9) (defScope sKeeps9) .none kVLK dcLK pmLK anLK cdLK ctLK),slLK⟩) (cLK:PySem.W.codeIn K cdLK "_law_keeps" = true) (kLK:PySem.W.keepIn K (.ref fLK)=true)
    (aLP:PySem.W.nsIn K mainGlobals "_law_put" = some (some (.ref fLP))) (lLP:K.lookup fLP=some ⟨ocLP,odLP,.func (PySem.W.fnOf "_law_put" "_law_put" (defArgs sPut9) (defBody sPut9) (defScope sPut9) .none kVLP dcLP pmLP anLP cdLP ctLP),slLP⟩) (cLP:PySem.W.codeIn K cdLP "_law_put" = true) (kLP:PySem.W.keepIn K (.ref fLP)=true)
    (aTB:PySem.W.nsIn K mainGlobals "_law_table" = some (some (.ref fTB))) (lTB:K.lookup fTB=some ⟨ocTB,odTB,.func (PySem.W.fnOf "_law_table" "_law_table" (defArgs sTable9) (defBody sTable9) (defScope sTable9) .none kVTB dcTB pmTB anTB cdTB ctTB),slTB⟩) (cTB:PySem.W.codeIn K cdTB "_law_table" = true) (kTB:PySem.W.keepIn K (.ref fTB)=true)
    (aKE:PySem.W.nsIn K mainGlobals "_law_kept" = some (some (.ref fKE))) (lKE:K.lookup fKE=some ⟨ocKE,odKE,.func (PySem.W.fnOf "_law_kept" "_law_kept" (defArgs sKept9) (defBody sKept9) (defScope sKept9) .none kVKE dcKE pmKE anKE cdKE ctKE),slKE⟩) (cKE:PySem.W.codeIn K cdKE "_law_kept" = true) (kKE:PySem.W.keepIn K (.ref fKE)=true)
    (aLG:PySem.W.nsIn K mainGlobals "_law_gains" = some (some (.ref fLG))) (lLG:K.lookup fLG=some ⟨ocLG,odLG,.func (PySem.W.fnOf "_law_gains" "_law_gains" (defArgs sGains9) (defBody sGains9) (defScope sGains9) .none kVLG dcLG pmLG anLG cdLG ctLG),slLG⟩) (cLG:PySem.W.codeIn K cdLG "_law_gains" = true) (kLG:PySem.W.keepIn K (.ref fLG)=true)
    (aTW:PySem.W.nsIn K mainGlobals "_law_two" = some (some (.ref fTW))) (lTW:K.lookup fTW=some ⟨ocTW,odTW,.func (PySem.W.fnOf "_law_two" "_law_two" (defArgs sTwo9) (defBody sTwo9) (defScope sTwo9) .none kVTW dcTW pmTW anTW cdTW ctTW),slTW⟩) (cTW:PySem.W.codeIn K cdTW "_law_two" = true) (kTW:PySem.W.keepIn K (.ref fTW)=true)
    (aSV:PySem.W.nsIn K mainGlobals "_law_several" = some (some (.ref fSV))) (lSV:K.lookup fSV=some ⟨ocSV,odSV,.func (PySem.W.fnOf "_law_several" "_law_several" (defArgs sSev9) (defBody sSev9) (defScope sSev9) .none kVSV dcSV pmSV anSV cdSV ctSV),slSV⟩) (cSV:PySem.W.codeIn K cdSV "_law_several" = true) (kSV:PySem.W.keepIn K (.ref fSV)=true)
    (aQ:PySem.W.nsIn K mainGlobals "law" = some (some (.ref fQ))) (lQ:K.lookup fQ=some ⟨ocQ,odQ,.func (PySem.W.fnOf "law" "law" (defArgs sLaw) (defBody sLaw) (defScope sLaw) .none kVQ dcQ pmQ anQ cdQ ctQ),slQ⟩) (cQ:PySem.W.codeIn K cdQ "law" = true) (kQ:PySem.W.keepIn K (.ref fQ)=true)
    {tkMP:Tok} (aMP:PySem.W.nsIn K mainGlobals "MOST_PARTS" = some (some (.int 10 tkMP)))
    (ylen:PySem.W.nsIn K mainGlobals "len" = some none) (yrange:PySem.W.nsIn K mainGlobals "range" = some none) (yenumerate:PySem.W.nsIn K mainGlobals "enumerate" = some none) (ylist:PySem.W.nsIn K mainGlobals "list" = some none) (yint:PySem.W.nsIn K mainGlobals "int" = some none) (ytuple:PySem.W.nsIn K mainGlobals "tuple" = some none) (yall:PySem.W.nsIn K mainGlobals "all" = some none) (ymin:PySem.W.nsIn K mainGlobals "min" = some none) (ymax:PySem.W.nsIn K mainGlobals "max" = some none) (ysorted:PySem.W.nsIn K mainGlobals "sorted" = some none) (yset:PySem.W.nsIn K mainGlobals "set" = some none) :
    ∃fd:FuncData,(∀(s:Shared) (v:Value),BindsTo s fd ⟨[v],[]⟩ [("_law_script",v)])∧∀base:Heap,K.In base→base.Ns mainGlobals mg→FnOk l.prog w K mg base CX0 9 fa fd ["_law_script"] (spLaw K):=by
  have e:=hfa.symm.trans (PySem.W.mg_of X G aQ)
  cases e
  have FH:=fun_mk (st:=sHas) lH cH kH
  have mH:=PySem.W.mg_of X G aH
  have bH:=FH.binds (ps:=["some","column"]) fun _ _ _ _ _ _ us hl=>match us,hl with | [_,_],_=>rfl
  have FC:=fun_mk (st:=sCols) lC cC kC
  have mC:=PySem.W.mg_of X G aC
  have bC:=FC.binds (ps:=["some"]) fun _ _ _ _ _ _ us hl=>match us,hl with | [_],_=>rfl
  have FAL:=fun_mk (st:=sAll) lAL cAL kAL
  have mAL:=PySem.W.mg_of X G aAL
  have bAL:=FAL.binds (ps:=["many"]) fun _ _ _ _ _ _ us hl=>match us,hl with | [_],_=>rfl
  have FIW:=fun_mk (st:=sWithin) lIW cIW kIW
  have mIW:=PySem.W.mg_of X G aIW
  have bIW:=FIW.binds (ps:=["one","other"]) fun _ _ _ _ _ _ us hl=>match us,hl with | [_,_],_=>rfl
  have FL:=fun_mk (st:=sAlike) lL cL kL
  have mL:=PySem.W.mg_of X G aL
  have bL:=FL.binds (ps:=["one","other","some"]) fun _ _ _ _ _ _ us hl=>match us,hl with | [_,_,_],_=>rfl
  have FM:=fun_mk (st:=sMixed) lM cM kM
  have mM:=PySem.W.mg_of X G aM
  have bM:=FM.binds (ps:=["one","other","some"]) fun _ _ _ _ _ _ us hl=>match us,hl with | [_,_,_],_=>rfl
  have FN:=fun_mk (st:=sNoughts) lN cN kN
  have mN:=PySem.W.mg_of X G aN
  have bN:=FN.binds (ps:=["many"]) fun _ _ _ _ _ _ us hl=>match us,hl with | [_],_=>rfl
  have FCK:=fun_mk (st:=sCheck) lCK cCK kCK
  have mCK:=PySem.W.mg_of X G aCK
  have bCK:=FCK.binds (ps:=["many","parts"]) fun _ _ _ _ _ _ us hl=>match us,hl with | [_,_],_=>rfl
  have FBT:=fun_mk (st:=sBegunT) lBT cBT kBT
  have mBT:=PySem.W.mg_of X G aBT
  have bBT:=FBT.binds (ps:=["many","parts"]) fun _ _ _ _ _ _ us hl=>match us,hl with | [_,_],_=>rfl
  have FUL:=fun_mk (st:=sUnlike) lUL cUL kUL
  have mUL:=PySem.W.mg_of X G aUL
  have bUL:=FUL.binds (ps:=["one","other","some"]) fun _ _ _ _ _ _ us hl=>match us,hl with | [_,_,_],_=>rfl
  have FFP:=fun_mk (st:=sPlace) lFP cFP kFP
  have mFP:=PySem.W.mg_of X G aFP
  have bFP:=FFP.binds (ps:=["rows","rule"]) fun _ _ _ _ _ _ us hl=>match us,hl with | [_,_],_=>rfl
  have FFS:=fun_mk (st:=sStep) lFS cFS kFS
  have mFS:=PySem.W.mg_of X G aFS
  have bFS:=FFS.binds (ps:=["rules","rows"]) fun _ _ _ _ _ _ us hl=>match us,hl with | [_,_],_=>rfl
  have FWN:=fun_mk (st:=sWithN) lWN cWN kWN
  have mWN:=PySem.W.mg_of X G aWN
  have bWN:=FWN.binds (ps:=["row","column","number"]) fun _ _ _ _ _ _ us hl=>match us,hl with | [_,_,_],_=>rfl
  have FMD:=fun_mk (st:=sMade) lMD cMD kMD
  have mMD:=PySem.W.mg_of X G aMD
  have bMD:=FMD.binds (ps:=["rows","first","second","column"]) fun _ _ _ _ _ _ us hl=>match us,hl with | [_,_,_,_],_=>rfl
  have FFL:=fun_mk (st:=sFilled) lFL cFL kFL
  have mFL:=PySem.W.mg_of X G aFL
  have bFL:=FFL.binds (ps:=["many","rules","parts"]) fun _ _ _ _ _ _ us hl=>match us,hl with | [_,_,_],_=>rfl
  have FSF:=fun_mk (st:=sSafe) lSF cSF kSF
  have mSF:=PySem.W.mg_of X G aSF
  have bSF:=FSF.binds (ps:=["many","rules","parts"]) fun _ _ _ _ _ _ us hl=>match us,hl with | [_,_,_],_=>rfl
  have FCU:=fun_mk (st:=sCanUse) lCU cCU kCU
  have mCU:=PySem.W.mg_of X G aCU
  have bCU:=FCU.binds (ps:=["rule","block"]) fun _ _ _ _ _ _ us hl=>match us,hl with | [_,_],_=>rfl
  have FI:=fun_mk (st:=sListed) lI cI kI
  have mI:=PySem.W.mg_of X G aI
  have bI:=FI.binds (ps:=["block"]) fun _ _ _ _ _ _ us hl=>match us,hl with | [_],_=>rfl
  have FUD:=fun_mk (st:=sUsed) lUD cUD kUD
  have mUD:=PySem.W.mg_of X G aUD
  have bUD:=FUD.binds (ps:=["rule","fixed","blocks","at"]) fun _ _ _ _ _ _ us hl=>match us,hl with | [_,_,_,_],_=>rfl
  have FBG:=fun_mk (st:=sBegun) lBG cBG kBG
  have mBG:=PySem.W.mg_of X G aBG
  have bBG:=FBG.binds (ps:=["many","some"]) fun _ _ _ _ _ _ us hl=>match us,hl with | [_,_],_=>rfl
  have FFU:=fun_mk (st:=sFirst) lFU cFU kFU
  have mFU:=PySem.W.mg_of X G aFU
  have bFU:=FFU.binds (ps:=["rules","blocks"]) fun _ _ _ _ _ _ us hl=>match us,hl with | [_,_],_=>rfl
  have FUN:=fun_mk (st:=sUnf) lUN cUN kUN
  have mUN:=PySem.W.mg_of X G aUN
  have bUN:=FUN.binds (ps:=["many","rules","some"]) fun _ _ _ _ _ _ us hl=>match us,hl with | [_,_,_],_=>rfl
  have FFT:=fun_mk (st:=sTorn) lFT cFT kFT
  have mFT:=PySem.W.mg_of X G aFT
  have bFT:=FFT.binds (ps:=["blocks","one","other"]) fun _ _ _ _ _ _ us hl=>match us,hl with | [_,_,_],_=>rfl
  have FCT:=fun_mk (st:=sCutIn) lCT cCT kCT
  have mCT:=PySem.W.mg_of X G aCT
  have bCT:=FCT.binds (ps:=["many","rules","one","other"]) fun _ _ _ _ _ _ us hl=>match us,hl with | [_,_,_,_],_=>rfl
  have FT:=fun_mk (st:=sTake) lT cT kT
  have mT:=PySem.W.mg_of X G aT
  have bT:=FT.binds (ps:=["_law_state","_law_most"]) fun _ _ _ _ _ _ us hl=>match us,hl with | [_,_],_=>rfl
  have FLA:=fun_mk (st:=sAlike9) lLA cLA kLA
  have mLA:=PySem.W.mg_of X G aLA
  have bLA:=FLA.binds (ps:=["_law_one","_law_other","_law_some"]) fun _ _ _ _ _ _ us hl=>match us,hl with | [_,_,_],_=>rfl
  have FLX:=fun_mk (st:=sMix9) lLX cLX kLX
  have mLX:=PySem.W.mg_of X G aLX
  have bLX:=FLX.binds (ps:=["_law_one","_law_other","_law_some"]) fun _ _ _ _ _ _ us hl=>match us,hl with | [_,_,_],_=>rfl
  have FLK:=fun_mk (st:=sKeeps9) lLK cLK kLK
  have mLK:=PySem.W.mg_of X G aLK
  have bLK:=FLK.binds (ps:=["_law_table_here","_law_rule"]) fun _ _ _ _ _ _ us hl=>match us,hl with | [_,_],_=>rfl
  have FLP:=fun_mk (st:=sPut9) lLP cLP kLP
  have mLP:=PySem.W.mg_of X G aLP
  have bLP:=FLP.binds (ps:=["_law_table_here","_law_parts"]) fun _ _ _ _ _ _ us hl=>match us,hl with | [_,_],_=>rfl
  have FTB:=fun_mk (st:=sTable9) lTB cTB kTB
  have mTB:=PySem.W.mg_of X G aTB
  have bTB:=FTB.binds (ps:=["_law_state","_law_many"]) fun _ _ _ _ _ _ us hl=>match us,hl with | [_,_],_=>rfl
  have FKE:=fun_mk (st:=sKept9) lKE cKE kKE
  have mKE:=PySem.W.mg_of X G aKE
  have bKE:=FKE.binds (ps:=["_law_state","_law_many","_law_table_here"]) fun _ _ _ _ _ _ us hl=>match us,hl with | [_,_,_],_=>rfl
  have FLG:=fun_mk (st:=sGains9) lLG cLG kLG
  have mLG:=PySem.W.mg_of X G aLG
  have bLG:=FLG.binds (ps:=["_law_table_here","_law_rules","_law_parts"]) fun _ _ _ _ _ _ us hl=>match us,hl with | [_,_,_],_=>rfl
  have FTW:=fun_mk (st:=sTwo9) lTW cTW kTW
  have mTW:=PySem.W.mg_of X G aTW
  have bTW:=FTW.binds (ps:=["_law_many","_law_table_here","_law_rules","_law_one","_law_other"]) fun _ _ _ _ _ _ us hl=>match us,hl with | [_,_,_,_,_],_=>rfl
  have FSV:=fun_mk (st:=sSev9) lSV cSV kSV
  have mSV:=PySem.W.mg_of X G aSV
  have bSV:=FSV.binds (ps:=["_law_many","_law_table_here","_law_rules","_law_parts"]) fun _ _ _ _ _ _ us hl=>match us,hl with | [_,_,_,_],_=>rfl
  have FQ:=fun_mk (st:=sLaw) lQ cQ kQ
  have mQ:=PySem.W.mg_of X G aQ
  have mMP:=PySem.W.mg_of X G aMP
  have zlen:=PySem.W.mg_none_of X G ylen
  have zrange:=PySem.W.mg_none_of X G yrange
  have zenumerate:=PySem.W.mg_none_of X G yenumerate
  have zlist:=PySem.W.mg_none_of X G ylist
  have zint:=PySem.W.mg_none_of X G yint
  have ztuple:=PySem.W.mg_none_of X G ytuple
  have zall:=PySem.W.mg_none_of X G yall
  have zmin:=PySem.W.mg_none_of X G ymin
  have zmax:=PySem.W.mg_none_of X G ymax
  have zsorted:=PySem.W.mg_none_of X G ysorted
  have zset:=PySem.W.mg_none_of X G yset
  refine ⟨PySem.W.fnOf "law" "law" (defArgs sLaw) (defBody sLaw) (defScope sLaw) .none kVQ dcQ pmQ anQ cdQ ctQ,fun s v=>.of_eq rfl,fun base _ _=>?_⟩
  have GH:=ok_has (P:=l.prog) (w:=w) (mg:=mg) (base:=base) FH
  have GC:=ok_cols FC GH mH kH bH zrange
  have GAL:=ok_all (P:=l.prog) (w:=w) (mg:=mg) (base:=base) FAL
  have GIW:=ok_within (P:=l.prog) (w:=w) (mg:=mg) (base:=base) FIW
  have GL:=ok_alike FL GC mC kC bC zall
  have GM:=ok_mixed FM GH mH kH bH zrange zlen ztuple
  have GN:=ok_noughts (P:=l.prog) (w:=w) (mg:=mg) (base:=base) FN
  have GCK:=ok_check FCK GIW mIW kIW bIW GAL mAL kAL bAL mMP zlen
  have GBT:=ok_begunt FBT GM mM kM bM GN mN kN bN zenumerate
  have GUL:=ok_unlike FUL GC mC kC bC
  have GFP:=ok_place FFP GL mL kL bL GUL mUL kUL bUL zenumerate zrange zlen
  have GFS:=ok_step FFS GFP mFP kFP bFP zenumerate
  have GWN:=ok_withn (P:=l.prog) (w:=w) (mg:=mg) (base:=base) FWN
  have GMD:=ok_made FMD GWN mWN kWN bWN zmin zmax
  have GFL:=ok_filled FFL GCK mCK kCK bCK GBT mBT kBT bBT GFS mFS kFS bFS GMD mMD kMD bMD
  have GSF:=ok_safe FSF GN mN kN bN GFL mFL kFL bFL
  have GCU:=ok_canuse (P:=l.prog) (w:=w) (mg:=mg) (base:=base) FCU
  have GI:=ok_listed (P:=l.prog) (w:=w) (mg:=mg) (base:=base) FI
  have GUD:=ok_used FUD GI mI kI bI
  have GBG:=ok_begun FBG GI mI kI bI GAL mAL kAL bAL
  have GFU:=ok_first FFU GCU mCU kCU bCU zenumerate
  have GUN:=ok_unf FUN GBG mBG kBG bBG GFU mFU kFU bFU GUD mUD kUD bUD
  have GIW:=ok_within (P:=l.prog) (w:=w) (mg:=mg) (base:=base) FIW
  have GFT:=ok_torn FFT GIW mIW kIW bIW
  have GCT:=ok_cutin FCT GIW mIW kIW bIW GAL mAL kAL bAL GUN mUN kUN bUN GFT mFT kFT bFT
  have GT:=ok_take (P:=l.prog) (w:=w) (base:=base) FT zlen
  have GLA:=ok_alike91 (P:=l.prog) (w:=w) (base:=base) FLA zrange zlen
  have GLX:=ok_mix91 (P:=l.prog) (w:=w) (base:=base) FLX zrange zlen ztuple
  have GLK:=ok_keeps91 FLK GLA mLA kLA bLA GLX mLX kLX bLX
  have GLP:=ok_put91 FLP GLA mLA kLA bLA GLX mLX kLX bLX ztuple zlist zsorted
  have GTB:=ok_table91 FTB GT mT kT bT zrange zlist ztuple
  have GKE:=ok_kept91 FKE GT mT kT bT GLK mLK kLK bLK zrange zlen
  have GLG:=ok_gains91 FLG GLK mLK kLK bLK GLP mLP kLP bLP
  have GTW:=ok_two91 FTW GCT mCT kCT bCT GLP mLP kLP bLP GLG mLG kLG bLG zset zsorted ztuple zrange
  have GSV:=ok_sev91 FSV GSF mSF kSF bSF GFL mFL kFL bFL GLP mLP kLP bLP GLG mLG kLG bLG zset zsorted
  exact ok_law FQ GT mT kT bT GTB mTB kTB bTB GKE mKE kKE bKE GTW mTW kTW bTW GSV mSV kSV bSV zrange
theorem walk {l:PySem.W.OpenLaw} {q:Program} {loose:List Str} {XP:(Str→Option Value)→Heap→Prop} {YP:World→Heap→Prop} {d:DefRec} {K:Params→PySem.W.Frag} (hn:l.most=some 63) (hdf:d.params.defaults=[])
    (hY:∀(w:World) (h:Heap),YP w h→(K w.params).In h)
    (F:∀(w:World) (mg:Str→Option Value) (fa:Addr) (h:Heap),(K w.params).In h→h.Ns mainGlobals mg→mg d.name=some (.ref fa)→
      ∃fd:FuncData,(∀(s:Shared) (u:Value),BindsTo s fd ⟨[u],[]⟩ [("_law_script",u)])∧∀base:Heap,(K w.params).In base→base.Ns mainGlobals mg→FnOk l.prog w (K w.params) mg base CX0 9 fa fd ["_law_script"] (spLaw (K w.params))) :
    PySem.W.WalkO q loose XP YP l.row.toRowW d [] (fun f vs=>PySem.call f vs):=
  L2.walk_of (n:=63) (k:=9) (x:="_law_script") (CX:=fun _=>CX0) (sp:=fun w=>spLaw (K w.params)) hn (by decide) hdf ⟨rfl,by decide,by decide⟩ hY F (fun _ _ a ns hl hO hS=>⟨a,ns,rfl,SqF.of hO hS,hl,fun _=>rfl⟩) fun _ _ _ _ _ z=>z
end Own
def PySem.W.Fast.tw11991243987046869014:Unit:=()
def PySem.W.Fast.tw2762167052632226825:Unit:=()
def PySem.W.Fast.tw11444134455640519483:Unit:=()
def PySem.W.Fast.tw17978637883016122381:Unit:=()
def PySem.W.Fast.tw6929155968388718042:Unit:=()
def PySem.W.Fast.tw5917633360124591235:Unit:=()
def PySem.W.Fast.tw4893798600431682297:Unit:=()
def PySem.W.Fast.tw16499286715494449839:Unit:=()
def PySem.W.Fast.tw16616143138886591839:Unit:=()
def PySem.W.Fast.tw14978382972122060466:Unit:=()
def PySem.W.Fast.tw2558847355934565536:Unit:=()
def PySem.W.Fast.tw5137919561289259238:Unit:=()
def PySem.W.Fast.tw8199325997898217037:Unit:=()
def PySem.W.Fast.tw12036821286903290871:Unit:=()
def PySem.W.Fast.tw3326724257827907423:Unit:=()
def PySem.W.Fast.tw16496442461066909010:Unit:=()
def PySem.W.Fast.tw17675528174989764668:Unit:=()
def PySem.W.Fast.tw15045106132162077408:Unit:=()
def PySem.W.Fast.tw18176677135015763313:Unit:=()
def PySem.W.Fast.tw17369516887607861320:Unit:=()
def PySem.W.Fast.tw16545313247935243993:Unit:=()
def PySem.W.Fast.tw17131116795292218857:Unit:=()
def PySem.W.Fast.tw18215114702279518459:Unit:=()
def PySem.W.Fast.tw8937081103274948469:Unit:=()
def PySem.W.Fast.tw10168661457719168990:Unit:=()
open PySem PySem.W PyProof.Rows
set_option maxRecDepth 100000 in
set_option maxHeartbeats 0 in
theorem PySem.Challenge.cw_splithouse_k91_whole_cuts_of_books_holds : PySem.Challenge.rw_splithouse_k91_whole_cuts_of_books.Holds := by
  w_on; o_law; k_head; (case hw=>w_witness2)
  k_fill
  refine Own.walk (l:=PySem.Challenge.rw_splithouse_k91_whole_cuts_of_books) rfl rfl (fun w h Y=>PySem.W.kIn_of Y) ?F
  case F=>
    intro w mg fa h KX G hmg
    refine' Own.all_mk KX G hmg ?aH ?lH ?cH ?kH ?aC ?lC ?cC ?kC ?aAL ?lAL ?cAL ?kAL ?aIW ?lIW ?cIW ?kIW ?aL ?lL ?cL ?kL ?aM ?lM ?cM ?kM ?aN ?lN ?cN ?kN ?aCK ?lCK ?cCK ?kCK ?aBT ?lBT ?cBT ?kBT ?aUL ?lUL ?cUL ?kUL ?aFP ?lFP ?cFP ?kFP ?aFS ?lFS ?cFS ?kFS ?aWN ?lWN ?cWN ?kWN ?aMD ?lMD ?cMD ?kMD ?aFL ?lFL ?cFL ?kFL ?aSF ?lSF ?cSF ?kSF ?aCU ?lCU ?cCU ?kCU ?aI ?lI ?cI ?kI ?aUD ?lUD ?cUD ?kUD ?aBG ?lBG ?cBG ?kBG ?aFU ?lFU ?cFU ?kFU ?aUN ?lUN ?cUN ?kUN ?aFT ?lFT ?cFT ?kFT ?aCT ?lCT ?cCT ?kCT ?aT ?lT ?cT ?kT ?aLA ?lLA ?cLA ?kLA ?aLX ?lLX ?cLX ?kLX ?aLK ?lLK ?cLK ?kLK ?aLP ?lLP ?cLP ?kLP ?aTB ?lTB ?cTB ?kTB ?aKE ?lKE ?cKE ?kKE ?aLG ?lLG ?cLG ?kLG ?aTW ?lTW ?cTW ?kTW ?aSV ?lSV ?cSV ?kSV ?aQ ?lQ ?cQ ?kQ ?aMP ?ylen ?yrange ?yenumerate ?ylist ?yint ?ytuple ?yall ?ymin ?ymax ?ysorted ?yset
    (case aH=>k_is)
    (case lH=>k_is)
    (case cH=>k_is)
    (case kH=>k_is)
    (case aC=>k_is)
    (case lC=>k_is)
    (case cC=>k_is)
    (case kC=>k_is)
    (case aAL=>k_is)
    (case lAL=>k_is)
    (case cAL=>k_is)
    (case kAL=>k_is)
    (case aIW=>k_is)
    (case lIW=>k_is)
    (case cIW=>k_is)
    (case kIW=>k_is)
    (case aL=>k_is)
    (case lL=>k_is)
    (case cL=>k_is)
    (case kL=>k_is)
    (case aM=>k_is)
    (case lM=>k_is)
    (case cM=>k_is)
    (case kM=>k_is)
    (case aN=>k_is)
    (case lN=>k_is)
    (case cN=>k_is)
    (case kN=>k_is)
    (case aCK=>k_is)
    (case lCK=>k_is)
    (case cCK=>k_is)
    (case kCK=>k_is)
    (case aBT=>k_is)
    (case lBT=>k_is)
    (case cBT=>k_is)
    (case kBT=>k_is)
    (case aUL=>k_is)
    (case lUL=>k_is)
    (case cUL=>k_is)
    (case kUL=>k_is)
    (case aFP=>k_is)
    (case lFP=>k_is)
    (case cFP=>k_is)
    (case kFP=>k_is)
    (case aFS=>k_is)
    (case lFS=>k_is)
    (case cFS=>k_is)
    (case kFS=>k_is)
    (case aWN=>k_is)
    (case lWN=>k_is)
    (case cWN=>k_is)
    (case kWN=>k_is)
    (case aMD=>k_is)
    (case lMD=>k_is)
    (case cMD=>k_is)
    (case kMD=>k_is)
    (case aFL=>k_is)
    (case lFL=>k_is)
    (case cFL=>k_is)
    (case kFL=>k_is)
    (case aSF=>k_is)
    (case lSF=>k_is)
    (case cSF=>k_is)
    (case kSF=>k_is)
    (case aCU=>k_is)
    (case lCU=>k_is)
    (case cCU=>k_is)
    (case kCU=>k_is)
    (case aI=>k_is)
    (case lI=>k_is)
    (case cI=>k_is)
    (case kI=>k_is)
    (case aUD=>k_is)
    (case lUD=>k_is)
    (case cUD=>k_is)
    (case kUD=>k_is)
    (case aBG=>k_is)
    (case lBG=>k_is)
    (case cBG=>k_is)
    (case kBG=>k_is)
    (case aFU=>k_is)
    (case lFU=>k_is)
    (case cFU=>k_is)
    (case kFU=>k_is)
    (case aUN=>k_is)
    (case lUN=>k_is)
    (case cUN=>k_is)
    (case kUN=>k_is)
    (case aFT=>k_is)
    (case lFT=>k_is)
    (case cFT=>k_is)
    (case kFT=>k_is)
    (case aCT=>k_is)
    (case lCT=>k_is)
    (case cCT=>k_is)
    (case kCT=>k_is)
    (case aT=>k_is)
    (case lT=>k_is)
    (case cT=>k_is)
    (case kT=>k_is)
    (case aLA=>k_is)
    (case lLA=>k_is)
    (case cLA=>k_is)
    (case kLA=>k_is)
    (case aLX=>k_is)
    (case lLX=>k_is)
    (case cLX=>k_is)
    (case kLX=>k_is)
    (case aLK=>k_is)
    (case lLK=>k_is)
    (case cLK=>k_is)
    (case kLK=>k_is)
    (case aLP=>k_is)
    (case lLP=>k_is)
    (case cLP=>k_is)
    (case kLP=>k_is)
    (case aTB=>k_is)
    (case lTB=>k_is)
    (case cTB=>k_is)
    (case kTB=>k_is)
    (case aKE=>k_is)
    (case lKE=>k_is)
    (case cKE=>k_is)
    (case kKE=>k_is)
    (case aLG=>k_is)
    (case lLG=>k_is)
    (case cLG=>k_is)
    (case kLG=>k_is)
    (case aTW=>k_is)
    (case lTW=>k_is)
    (case cTW=>k_is)
    (case kTW=>k_is)
    (case aSV=>k_is)
    (case lSV=>k_is)
    (case cSV=>k_is)
    (case kSV=>k_is)
    (case aQ=>k_is)
    (case lQ=>k_is)
    (case cQ=>k_is)
    (case kQ=>k_is)
    (case aMP=>k_is)
    (case ylen=>k_is)
    (case yrange=>k_is)
    (case yenumerate=>k_is)
    (case ylist=>k_is)
    (case yint=>k_is)
    (case ytuple=>k_is)
    (case yall=>k_is)
    (case ymin=>k_is)
    (case ymax=>k_is)
    (case ysorted=>k_is)
    (case yset=>k_is)

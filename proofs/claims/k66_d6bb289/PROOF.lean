import PyProof.Rows.All
import Wide.All
import OpenK.AllK
import Wide.FinOn
import Lean
import PyProof.EqAt
import PyProof.EqKinds
import PyProof.TupleCall
import PyProof.NeKinds
import PyProof.Draws
import PyProof.EnumMake
import PyProof.WalksEnum
import PyProof.Rows.EnumRows
import PyProof.ExcArgsOwn
import PyProof.ExcAttrAll.ValueError
import PyProof.ExcBaseAll.ValueError
import KE.KIsAll
import KE.KTryOn
import KE.RegKIsAll
import OpenK.KOwn
import PyProof.ZipIter
import PyProof.StrWalks
import PyProof.DictTable
import PyProof.SetNew
import PyProof.SetRoads
import PyProof.P3In
import PyProof.NeData
import PyProof.AttrMissSeq
import KE.KDictOf
import KE.KDictSum
import PyProof.Rows.SortStr
import PyProof.ExcInit
import PyProof.ExcClass2
import PyProof.InstStoreFacts
import KE.KLam
import KE.KNestM
import PyProof.Rows.SortRuns
import KE.KSortTup
import KE.KDictLaws
import KE.KDictList
import PyProof.ListRange
import PySem.Challenge.RW_tariffgate_k66_said_otherwise
set_option Elab.async false
set_option linter.all false
set_option maxRecDepth 100000
namespace L2
open PySem PySem.Spec PyProof.Rows
abbrev Key:=Sum Int Str
def vU:Key→Value→Bool
 | .inl k,v=>Value.isInt k v
 | .inr x,v=>Value.isStrOf x v
def J4 (w:World):Key→Int
 | .inl k=>hashInt k
 | .inr x=>hashStr w x
theorem nP:∀ {k:Key} {v:Value},vU k v=true→(∃ i t,k=Sum.inl i∧v=Value.int i t)∨(∃ x t,k=Sum.inr x∧v=Value.str x t)
 | .inl i,v,h=>by
  obtain⟨t,e⟩:=Value.isInt_shape (k:=i) (v:=v) h
  exact .inl ⟨i,t,rfl,e⟩
 | .inr x,v,h=>by
  obtain⟨t,e⟩:=Value.isStrOf_shape (x:=x) (v:=v) h
  exact .inr ⟨x,t,rfl,e⟩
theorem DG (i:Int) (t:Tok):vU (.inl i) (.int i t)=true:=by simp [vU,Value.isInt]
theorem Ej (x:Str) (t:Tok):vU (.inr x) (.str x t)=true:=by simp [vU,Value.isStrOf]
theorem Im (a b:Int):decide ((Sum.inl a:Key)=Sum.inl b)=(a == b):=by
 by_cases e:a=b
 ·subst e; simp
 ·have h:¬ (Sum.inl a:Key)=Sum.inl b:=fun q=>e (Sum.inl.inj q)
  rw[decide_eq_false h]
  exact (beq_eq_false_iff_ne.mpr e).symm
theorem Iv (a b:Str):decide ((Sum.inr a:Key)=Sum.inr b)=decide (a=b):=by
 by_cases e:a=b
 ·subst e; simp
 ·have h:¬ (Sum.inr a:Key)=Sum.inr b:=fun q=>e (Sum.inr.inj q)
  rw[decide_eq_false h,decide_eq_false e]
theorem Jc (a:Int) (b:Str):decide ((Sum.inl a:Key)=Sum.inr b)=false:=decide_eq_false (fun q=>nomatch q)
theorem Jw (a:Str) (b:Int):decide ((Sum.inr a:Key)=Sum.inl b)=false:=decide_eq_false (fun q=>nomatch q)
def nj (prog:Program) (w:World):PySem.KeyKind prog w Key where
 is:=vU
 hash:=J4 w
 inj:=fun v a b ha hb=>by
  rcases nP ha with ⟨i,t,rfl,rfl⟩ | ⟨x,t,rfl,rfl⟩
  ·rcases nP hb with ⟨j,u,rfl,e⟩ | ⟨y,u,rfl,e⟩
   ·injection e with e1 _; rw[e1]
   ·exact nomatch e
  ·rcases nP hb with ⟨j,u,rfl,e⟩ | ⟨y,u,rfl,e⟩
   ·exact nomatch e
   ·injection e with e1 _; rw[e1]
 byValue:=fun k v h=>by
  rcases nP h with ⟨i,t,rfl,rfl⟩ | ⟨x,t,rfl,rfl⟩ <;> rfl
 pyHash:=fun hv h=>by
  rcases nP hv with ⟨i,t,rfl,rfl⟩ | ⟨x,t,rfl,rfl⟩
  ·exact wpAny_pyHash_int h
  ·exact wpAny_pyHash_str h
 eqBool:=fun hu hv h=>by
  rcases nP hu with ⟨i,t,rfl,rfl⟩ | ⟨x,t,rfl,rfl⟩
  ·rcases nP hv with ⟨j,u,rfl,rfl⟩ | ⟨y,u,rfl,rfl⟩
   ·rw[Im] at h; exact wpAny_eqBool_int h
   ·rw[Jc] at h; exact SeqAt.EqAt.int_str i t y u _ _ _ _ h
  ·rcases nP hv with ⟨j,u,rfl,rfl⟩ | ⟨y,u,rfl,rfl⟩
   ·rw[Jw] at h; exact SeqAt.EqAt.str_int x t j u _ _ _ _ h
   ·rw[Iv] at h; exact wpAny_eqBool_str h
 «strs»:=fun k x t v h=>by
  rcases nP h with ⟨i,u,rfl,e⟩ | ⟨y,u,rfl,e⟩
  ·exact nomatch e
  ·injection e with e1 _
   subst e1
   cases v <;> rfl
theorem BQ (prog:Program) (w:World) (i:Int) (t:Tok):(nj prog w).is (.inl i) (.int i t)=true:=DG i t
theorem A8 (prog:Program) (w:World) (x:Str) (t:Tok):(nj prog w).is (.inr x) (.str x t)=true:=Ej x t
inductive V where
 | non | bl (b:Bool) | int (i:Int) | str (x:Str) | byt (b:Array UInt8) | flt (b:UInt64) | ref (a:Addr) | ty (n:String)
 deriving DecidableEq
def RelV:V→Value→Prop
 | .non,u=>u=Value.none
 | .bl b,u=>u=Value.bool b
 | .int i,u=>∃ t,u=Value.int i t
 | .str x,u=>∃ t,u=Value.str x t
 | .byt b,u=>∃ t,u=Value.bytes b t
 | .flt b,u=>∃ t,u=Value.float b t
 | .ref a,u=>u=Value.ref a
 | .ty n,u=>u=Value.type n
abbrev Vals:List V→List Value→Prop:=Paired RelV
theorem Vals.length {xs:List V} {us:List Value} (r:Vals xs us):xs.length=us.length:=Paired.length r
theorem Vals.get:∀ {xs:List V} {us:List Value} {i:Nat} {x:V},Vals xs us→xs[i]?=some x→∃ u,us[i]?=some u∧RelV x u
 | _,_,_,_,.nil,e=>by simp at e
 | _,_,0,_,.cons r _,e=>by simp at e; subst e; exact⟨_,rfl,r⟩
 | _,_,i+1,x,.cons _ t,e=>by
  obtain⟨u,h1,h2⟩:=Vals.get (i:=i) (x:=x) t (by simpa using e)
  exact⟨u,by simpa using h1,h2⟩
theorem Vals.set {x:V} {u:Value} (r:RelV x u):∀ {xs:List V} {us:List Value} (i:Nat),Vals xs us→Vals (xs.set i x) (us.set i u)
 | _,_,_,.nil=>.nil
 | _,_,0,.cons _ t=>.cons r t
 | _,_,i+1,.cons q t=>.cons q (Vals.set r i t)
theorem Vals.append:∀ {xs ys:List V} {us ws:List Value},Vals xs us→Vals ys ws→Vals (xs++ys) (us++ws)
 | _,_,_,_,.nil,s=>s
 | _,_,_,_,.cons r t,s=>.cons r (Vals.append t s)
theorem Vals.take:∀ {xs:List V} {us:List Value} (n:Nat),Vals xs us→Vals (xs.take n) (us.take n)
 | _,_,0,_=>.nil
 | _,_,_+1,.nil=>.nil
 | _,_,n+1,.cons r t=>.cons r (Vals.take n t)
theorem Vals.drop:∀ {xs:List V} {us:List Value} (n:Nat),Vals xs us→Vals (xs.drop n) (us.drop n)
 | _,_,0,r=>r
 | _,_,_+1,.nil=>.nil
 | _,_,n+1,.cons _ t=>Vals.drop n t
def RelO:Option V→Option Value→Prop
 | some v,some u=>RelV v u
 | none,none=>True
 | _,_=>False
def KV {κ:Type}:List (κ×V)→List (κ×Value)→Prop:=Paired fun (p:κ×V) (q:κ×Value)=>p.1=q.1∧RelV p.2 q.2
def kV:Key→V
 | .inl i=>.int i
 | .inr x=>.str x
inductive HO where
 /-- a list -/
 | lst (xs:List V)
 /-- a tuple (never changes) -/
 | tup (xs:List V)
 /-- a dict whose keys are ints and texts; one whose keys are tuples of ints and texts (the empty one is both) -/
 | dK (kvs:List (Key×V)) | dT (kvs:List (List Key×V))
 /-- a set of ints: its members,its size -/
 | set (S:Int→Bool) (n:Nat)
 /-- an instance of the class at C,its dict at dx,its attributes -/
 | ins (C dx:Addr) (fs:List (Str×V))
 /-- the dict of the instance at x -/
 | own (x:Addr)
 /-- the dict of an exception -/
 | xd (fs:List (Str×V))
 /-- a bound method,f of x -/
 | met (f x:Addr)
 /-- a range object lo,lo+1,.. below hi -/
 | rng (lo hi:Int)
 /-- a thing that is known to the object (the script; a dict while a loop walks it): read,never written while it is so -/
 | frz (o:Obj) (u:HO)
 /-- a code object's table -/
 | tbl (ps:Array Value)
 /-- any other thing,by what is true of its one object (a def of one's own: SetO a S n:=HO.ext fun h=>..) -/
 | ext (φ:Heap→Prop)
abbrev Hp:=Addr→Option HO
def upd (H:Hp) (a:Addr) (o:HO):Hp:=fun b=>if b=a then some o else H b
theorem cY {H:Hp} {a:Addr} {o:HO}:upd H a o a=some o:=by unfold upd; rw[if_pos rfl]
theorem er {H:Hp} {a b:Addr} {o:HO} (h:b≠a):upd H a o b=H b:=by unfold upd; rw[if_neg h]
theorem C4 {H:Hp} {a b:Addr} {o u:HO} (h:H a=some o) (h':H b=some u) (d:o≠u):a≠b:=by
 intro e; subst e; rw[h] at h'; exact d (Option.some.inj h')
theorem mz {H:Hp} {a b:Addr} {o:HO} (h:H a=some o) (h':H b=none):a≠b:=by
 intro e; subst e; rw[h] at h'; cases h'
section
variable (P:Program) (w:World)
def NoD (h:Heap) (a:Addr):Prop:=∃ o,h.get? a=some o∧o.dict=none
def ObjOk (H:Hp) (h:Heap) (a:Addr):HO→Prop
 | .lst xs=>xs.length≤sizeLine∧∃ (its:List Value) (n:Nat),Vals xs its∧h.get? a=some { cls:=.type "list",data:=.seq its.toArray n }
 | .tup xs=>xs.length≤sizeLine∧∃ its:List Value,Vals xs its∧IsTup h a its.toArray∧NoD h a
 | .dK kvs=>kvs.length≤sizeLine∧(a == sysModules)=false∧∃ vs,KV kvs vs∧h.DictOf (nj P w) a vs
 | .dT kvs=>kvs.length≤sizeLine∧(a == sysModules)=false∧∃ xs:List (List Key×Addr×Value),
   Paired (fun (p:List Key×V) (q:List Key×Addr×Value)=>p.1=q.1∧H q.2.1=some (.tup (p.1.map kV))∧RelV p.2 q.2.2) kvs xs ∧
   ∃ o es ep,h.get? a=some o∧o.ExactDict∧o.data=.dict es ep∧es.toList=xs.map (entryOfKey (tupleKind (nj P w)))∧(xs.map (·.1)).Nodup
 | .set S n=>h.SetOf (intKind P w) a S n
 | .ins C dx fs=>H dx=some (.own a)∧fs.length≤1000∧dx≠a∧h.get? a=some (PySem.W.instObj C dx) ∧
   ∃ mA,h.Ns1 dx mA∧(∀ f,RelO (fs.lookup f) (mA f))∧PySem.Within mA (fs.map (·.1))
 | .own _=>∃ o,h.get? a=some o
 | .xd fs=>∃ mA,h.Ns1 a mA∧∀ f,RelO (fs.lookup f) (mA f)
 | .rng lo hi=>∃ t u v,h.get? a=some { cls:=.type "range",data:=.fields #[.int lo t,.int hi u,.int 1 v] }
 | .frz o u=>h.get? a=some o∧ObjOk H h a u
 | .tbl ps=>h.get? a=some { cls:=.none,data:=.fields ps }
 | .met f x=>h.get? a=some (PySem.W.methodObj (.ref f) (.ref x))
 | .ext φ=>φ h∧(∃ o,h.get? a=some o)∧∀ h1 h2:Heap,φ h1→(∀ o,h1.get? a=some o→h2.get? a=some o)→φ h2
def HOk (H:Hp) (h:Heap):Prop:=∀ a o,H a=some o→ObjOk P w H h a o
end
section
variable {P:Program} {w:World} {H H':Hp} {h h':Heap} {a:Addr} {o:HO}
theorem ObjOk.lt (x:ObjOk P w H h a o):a<h.objs.size:=by
 cases o with
 | lst xs=>obtain⟨_,_,_,_,e⟩:=x; exact Heap.lt_size e
 | tup xs=>obtain⟨_,_,_,p,_⟩:=x; exact p.lt
 | dK kvs=>obtain⟨_,_,_,_,o,_,_,e,_⟩:=x; exact Heap.lt_size e
 | dT kvs=>obtain⟨_,_,_,_,o,_,_,e,_⟩:=x; exact Heap.lt_size e
 | set S n=>obtain⟨o,_,_,_,e,_⟩:=x; exact Heap.lt_size e
 | ins C dx fs=>obtain⟨_,_,_,e,_⟩:=x; exact Heap.lt_size e
 | own y=>obtain⟨_,e⟩:=x; exact Heap.lt_size e
 | xd fs=>obtain⟨_,⟨_,_,_,e,_⟩,_⟩:=x; exact Heap.lt_size e
 | rng lo hi=>obtain⟨_,_,_,e⟩:=x; exact Heap.lt_size e
 | frz ob u=>obtain⟨e,_⟩:=x; exact Heap.lt_size e
 | tbl ps=>exact Heap.lt_size (show h.get? a=some _ from x)
 | met f y=>exact Heap.lt_size (show h.get? a=some _ from x)
 | ext φ=>obtain⟨_,⟨_,e⟩,_⟩:=x; exact Heap.lt_size e
theorem Paired.mapP {α β:Type} {F G:α→β→Prop}:∀ {l₁:List α} {l₂:List β},Paired F l₁ l₂→(∀ a b,F a b→G a b)→Paired G l₁ l₂
 | _,_,.nil,_=>.nil
 | _,_,.cons r t,f=>.cons (f _ _ r) (Paired.mapP t f)
theorem ObjOk.stay (x:ObjOk P w H h a o) (k:∀ b u,(b=a∨H b=some (.own a))→h.get? b=some u→h'.get? b=some u)
  (ho:∀ b,H b=some (.own a)→H' b=some (.own a)) (ht:∀ b xs,H b=some (.tup xs)→H' b=some (.tup xs)):ObjOk P w H' h' a o:=by
 induction o with
 | lst xs=>obtain⟨z,its,n,r,e⟩:=x; exact⟨z,its,n,r,k _ _ (.inl rfl) e⟩
 | tup xs=>obtain⟨z,its,r,⟨ob,e,c⟩,o2,e2,d2⟩:=x; exact⟨z,its,r,⟨ob,k _ _ (.inl rfl) e,c⟩,o2,k _ _ (.inl rfl) e2,d2⟩
 | dK kvs=>obtain⟨z,y,vs,r,ob,es,ep,e,c⟩:=x; exact⟨z,y,vs,r,ob,es,ep,k _ _ (.inl rfl) e,c⟩
 | dT kvs =>
  obtain⟨z,y,xs,r,ob,es,ep,e,c⟩:=x
  exact⟨z,y,xs,Paired.mapP r fun p q z=>⟨z.1,ht _ _ z.2.1,z.2.2⟩,ob,es,ep,k _ _ (.inl rfl) e,c⟩
 | set S n=>obtain⟨ob,es,ep,t,e,c⟩:=x; exact⟨ob,es,ep,t,k _ _ (.inl rfl) e,c⟩
 | ins C dx fs =>
  obtain⟨d,z,ne,e,mA,⟨od,es,ep,e2,c⟩,r⟩:=x
  exact⟨ho _ d,z,ne,k _ _ (.inl rfl) e,mA,⟨od,es,ep,k _ _ (.inr d) e2,c⟩,r⟩
 | own y=>obtain⟨ob,e⟩:=x; exact⟨ob,k _ _ (.inl rfl) e⟩
 | xd fs=>obtain⟨mA,⟨od,es,ep,e,c⟩,r⟩:=x; exact⟨mA,⟨od,es,ep,k _ _ (.inl rfl) e,c⟩,r⟩
 | rng lo hi=>obtain⟨t,u,v,e⟩:=x; exact⟨t,u,v,k _ _ (.inl rfl) e⟩
 | frz ob u ih=>obtain⟨e,q⟩:=x; exact⟨k _ _ (.inl rfl) e,ih q⟩
 | tbl ps =>
  have e:h.get? a=some { cls:=.none,data:=.fields ps }:=x
  show h'.get? a=some { cls:=.none,data:=.fields ps }
  exact k a _ (.inl rfl) e
 | met f y =>
  have e:h.get? a=some (PySem.W.methodObj (.ref f) (.ref y)):=x
  show h'.get? a=some (PySem.W.methodObj (.ref f) (.ref y))
  exact k a _ (.inl rfl) e
 | ext φ=>obtain⟨p,⟨o,e⟩,st⟩:=x; exact⟨st _ _ p fun o q=>k _ _ (.inl rfl) q,⟨o,k _ _ (.inl rfl) e⟩,st⟩
theorem HOk.lt (x:HOk P w H h) (e:H a=some o):a<h.objs.size:=(x a o e).lt
theorem HOk.fresh (x:HOk P w H h) (e:h.objs.size≤a):H a=none:=by
 cases q:H a with
 | none=>rfl
 | some u=>exact absurd (Nat.lt_of_lt_of_le (x.lt q) e) (Nat.lt_irrefl _)
theorem HOk.kept (x:HOk P w H h) (k:∀ b u,h.get? b=some u→h'.get? b=some u):HOk P w H h':=fun a o e =>
 (x a o e).stay (fun b u _ q=>k b u q) (fun _ q=>q) fun _ _ q=>q
theorem HOk.laid (x:HOk P w H h) (k:∀ b u,h.get? b=some u→h'.get? b=some u) (hp:h.objs.size≤a) (new:ObjOk P w (upd H a o) h' a o):HOk P w (upd H a o) h':=fun b u e=>by
 have hn:=x.fresh hp
 by_cases hb:b=a
 ·subst hb; rw[cY] at e; cases e; exact new
 ·rw[er hb] at e
  exact (x b u e).stay (fun c v _ q=>k c v q) (fun c q=>by rw[er (mz q hn)]; exact q) fun c xs q=>by rw[er (mz q hn)]; exact q
end
def Rd (H:Hp) (a:Addr) (u:HO):Prop:=H a=some u∨∃ o,H a=some (.frz o u)
theorem Rd.ok {P:Program} {w:World} {H:Hp} {h:Heap} {a:Addr} {u:HO} (r:Rd H a u) (x:HOk P w H h):ObjOk P w H h a u:=by
 rcases r with r | ⟨o,r⟩
 ·exact x a u r
 ·obtain⟨_,q⟩:=x a _ r
  exact q
def Mut:Option HO→Prop
 | some (.lst _)=>True
 | some (.dK _)=>True
 | some (.dT _)=>True
 | some (.set _ _)=>True
 | some (.ins _ _ _)=>True
 | some (.ext _)=>True
 | _=>False
section
variable {P:Program} {w:World} {H:Hp} {h h':Heap} {x e:Addr} {o':HO}
theorem HOk.write (ok:HOk P w H h) (mu:Mut (H x)) (he:e=x∨H e=some (.own x)) (k:∀ b u,b≠e→h.get? b=some u→h'.get? b=some u) (heo:∃ u,h'.get? e=some u)
  (new:ObjOk P w (upd H x o') h' x o'):HOk P w (upd H x o') h':=fun b u q=>by
 have nown:∀ c y,H c=some (.own y)→c≠x:=fun c y r z=>by subst z; rw[r] at mu; exact mu
 have ntup:∀ c xs,H c=some (.tup xs)→c≠x:=fun c xs r z=>by subst z; rw[r] at mu; exact mu
 by_cases hb:b=x
 ·subst hb; rw[cY] at q; cases q; exact new
 ·rw[er hb] at q
  by_cases hbe:b=e
  ·have q':H b=some (.own x):=by
    rcases he with z | z
    ·exact absurd (hbe.trans z) hb
    ·rw[hbe]; exact z
   rw[q] at q'; cases q'
   obtain⟨v,hv⟩:=heo
   exact⟨v,by rw[hbe]; exact hv⟩
  ·refine (ok b u q).stay (fun c v hc r=>k c v ?_ r) (fun c r=>by rw[er (nown c b r)]; exact r) fun c xs r=>by rw[er (ntup c xs r)]; exact r
   rcases hc with rfl | hc
   ·exact hbe
   ·rintro rfl
    rcases he with z | z
    ·exact nown c b hc z
    ·rw[hc] at z; cases z; exact hb rfl
end
structure Un (fs ex:List Addr) (H H':Hp) (h h':Heap):Prop where
 keep:∀ b o,h.get? b=some o→H b=none→b ∉ fs→b ∉ ex→h'.get? b=some o
 slot:∀ b o,h.get? b=some o→H b=none→b∈fs→b ∉ ex→∃ sl,h'.get? b=some { o with slots:=sl }
 free:∀ b o,h.get? b=some o→H b=none→b ∉ ex→H' b=none
 there:∀ b o,h.get? b=some o→b ∉ ex→∃ o',h'.get? b=some o'
 tups:∀ b xs,H b=some (.tup xs)→H' b=some (.tup xs)
 frzs:∀ b o u,H b=some (.frz o u)→H' b=some (.frz o u)
 tbls:∀ b ps,H b=some (.tbl ps)→∃ more,H' b=some (.tbl (ps++more))
section
variable {fs fs' ex ex':List Addr} {H H1 H2:Hp} {h h1 h2 h':Heap} {a x e:Addr} {o:HO}
theorem Un.any (u:Un fs ex H H1 h h1) {b:Addr} {ob:Obj} (q:h.get? b=some ob) (n:H b=none) (hx:b ∉ ex):∃ sl,h1.get? b=some { ob with slots:=sl }:=by
 by_cases hb:b∈fs
 ·exact u.slot b ob q n hb hx
 ·exact⟨ob.slots,u.keep b ob q n hb hx⟩
theorem Un.trans (a:Un fs ex H H1 h h1) (b:Un fs ex H1 H2 h1 h2):Un fs ex H H2 h h2 where
 keep:=fun c ob q n hc hx=>b.keep c ob (a.keep c ob q n hc hx) (a.free c ob q n hx) hc hx
 slot:=fun c ob q n hc hx=>by
  obtain⟨sl,e1⟩:=a.slot c ob q n hc hx
  obtain⟨sl',e2⟩:=b.slot c _ e1 (a.free c ob q n hx) hc hx
  exact⟨sl',e2⟩
 free:=fun c ob q n hx=>by
  obtain⟨o',e1⟩:=a.there c ob q hx
  exact b.free c o' e1 (a.free c ob q n hx) hx
 there:=fun c ob q hx=>by
  obtain⟨o',e1⟩:=a.there c ob q hx
  exact b.there c o' e1 hx
 tups:=fun c xs q=>b.tups c xs (a.tups c xs q)
 frzs:=fun c ob xs q=>b.frzs c ob xs (a.frzs c ob xs q)
 tbls:=fun c ps q=>by
  obtain⟨m1,e1⟩:=a.tbls c ps q
  obtain⟨m2,e2⟩:=b.tbls c _ e1
  exact⟨m1++m2,by rw[e2,Array.append_assoc]⟩
theorem Un.kept (k:∀ b u,h.get? b=some u→h'.get? b=some u):Un fs ex H H h h' :=
 ⟨fun b ob q _ _ _=>k b ob q,fun b ob q _ _ _=>⟨ob.slots,k b ob q⟩,fun _ _ _ n _=>n,fun b ob q _=>⟨ob,k b ob q⟩,fun _ _ q=>q,fun _ _ _ q=>q,fun _ ps q=>⟨#[],by rw[q]; simp⟩⟩
theorem Un.refl:Un fs ex H H h h:=Un.kept fun _ _ q=>q
theorem Un.laid (k:∀ b u,h.get? b=some u→h'.get? b=some u) (hp:h.objs.size≤a) (hn:H a=none):Un fs ex H (upd H a o) h h' where
 keep:=fun b u q _ _ _=>k b u q
 slot:=fun b u q _ _ _=>⟨u.slots,k b u q⟩
 free:=fun b u q n _=>by rw[er (Nat.ne_of_lt (Nat.lt_of_lt_of_le (Heap.lt_size q) hp))]; exact n
 there:=fun b u q _=>⟨u,k b u q⟩
 tups:=fun b xs q=>by rw[er (mz q hn)]; exact q
 frzs:=fun b u xs q=>by rw[er (mz q hn)]; exact q
 tbls:=fun b ps q=>⟨#[],by rw[er (mz q hn),q]; simp⟩
theorem Un.write (mu:Mut (H x)) (he:e=x∨H e=some (.own x)) (k:∀ b u,b≠e→h.get? b=some u→h'.get? b=some u) (heo:∃ u,h'.get? e=some u):Un fs ex H (upd H x o) h h':=by
 have hx:∀ b,H b=none→b≠x:=fun b n z=>by subst z; rw[n] at mu; exact mu
 have hb:∀ b,H b=none→b≠e:=fun b n z=>by
  subst z
  rcases he with r | r
  ·exact hx b n r
  ·rw[n] at r; cases r
 have hm:∀ b u,H b=some u→¬ Mut (some u)→b≠x:=fun b u q nm z=>by subst z; rw[q] at mu; exact nm mu
 refine⟨fun b u q n _ _=>k b u (hb b n) q,fun b u q n _ _=>⟨u.slots,k b u (hb b n) q⟩,fun b u q n _=>by rw[er (hx b n)]; exact n,fun b u q _=>?_,
  fun b xs q=>by rw[er (hm b _ q fun z=>z)]; exact q,fun b u xs q=>by rw[er (hm b _ q fun z=>z)]; exact q,fun b ps q=>⟨#[],by rw[er (hm b _ q fun z=>z),q]; simp⟩⟩
 by_cases hbe:b=e
 ·subst hbe; exact heo
 ·exact⟨u,k b u hbe q⟩
end
def trk (h:Heap) (H:Hp):List Addr:=(List.range h.objs.size).filter fun a=>(H a).isSome
def vX (h:Heap) (H:Hp):Heap:=PySem.W.hideAll h (trk h H)
theorem E1 (h:Heap) (H:Hp):(vX h H).objs.size=h.objs.size:=PySem.W.hideAll_size _ _
theorem FY {h:Heap} {H:Hp} {b:Addr} {o:Obj} (e:h.get? b=some o) (n:H b=none):(vX h H).get? b=some o :=
 PySem.W.hideAll_get _ e fun hm=>by
  have q:(H b).isSome=true:=(List.mem_filter.mp hm).2
  rw[n] at q; simp at q
theorem Hi {h:Heap} {H:Hp} {b:Addr} {o:Obj} (e:(vX h H).get? b=some o):h.get? b=some o∧H b=none:=by
 have e':h.get? b=some o:=PySem.W.of_hideAll (trk h H) e
 refine⟨e',?_⟩
 cases q:H b with
 | none=>rfl
 | some x =>
  have hm:b∈trk h H:=List.mem_filter.mpr ⟨List.mem_range.mpr (Heap.lt_size e'),by simp [q]⟩
  have z:(vX h H).get? b=none:=PySem.W.hideAll_none (trk h H) hm
  rw[z] at e; cases e
def G6 (g h:Heap) (L:Addr):List (Addr×Obj):=(List.range h.objs.size).filterMap fun a=>if a=L∨(g.get? a).isSome=true then none else (h.get? a).map fun o=>(a,o)
def rest (g h:Heap) (L d:Addr):List (Addr×Obj):=(G6 g h L).filter fun p=>decide (p.1≠d)
structure Mod (K:PySem.W.Frag) (mg:Str→Option Value) (base:Heap):Prop where
 kin:K.In base
 glob:base.Ns mainGlobals mg
 blt:∃ mb,base.Ns builtinsNs mb∧∀ x:Str,x≠"__name__"→mb x=bootBuiltins x
 nolimit:base.NoLimit
structure Cx where
 prog:Program
 w:World
 K:PySem.W.Frag
 mg:Str→Option Value
 base:Heap
 A:Around
 N:List Str
 s₀:Shared
 H₀:Hp
 env:Env
 outer:List Env
 stack:List Env
 ex:List Addr
 fn:Str→Bool
 calm:Bool
 pn:List (Addr×Obj)
 xe:Value→Shared→Prop
def frs (l:List Env):List Addr:=l.filterMap (·.frame)
abbrev Cx.fs (X:Cx):List Addr:=frs X.outer
def Vis (sc:Scope) (x:Str):Prop:=sc.names.lookup x=some .local∨sc.names.lookup x=some .cell∨sc.names.lookup x=some .free
def Loc (sc:Scope) (x:Str):Prop:=sc.names.lookup x=some .local∨sc.names.lookup x=some .cell
def Look (env:Env) (h:Heap) (m:Str→Option Value) (x:Str) (u:Value):Prop :=
 (env.kindOf x=some .local∧m x=some u)∨((env.kindOf x=some .cell∨env.kindOf x=some .free)∧∃ c,env.cells.lookup x=some c∧h.IsCell c (some u))
structure Cx.Ok (X:Cx):Prop where
 mod:Mod X.K X.mg X.base
 kind:X.env.scope.kind=.function
 glob:X.env.globals=mainGlobals
 blt:X.env.builtins=builtinsNs
 above:X.s₀.heap.objs.size≤X.env.locals
 inj:∀ x y c,X.env.cells.lookup x=some c→X.env.cells.lookup y=some c→x=y
 has:∀ x,(X.env.kindOf x=some .cell∨X.env.kindOf x=some .free)→∃ c,X.env.cells.lookup x=some c
 cab:∀ x c,X.fn x=true→X.env.cells.lookup x=some c→X.s₀.heap.objs.size≤c
 hd:X.calm=true→X.A.handled=none
 frames:X.A.frames=some X.stack
 stk:X.stack=X.outer∨(X.stack=X.env::X.outer∧X.env.frame=some X.env.locals)
 exf:∀ b∈X.ex,b≠X.env.locals∧∀ x c,X.env.cells.lookup x=some c→c≠b
 bs:∀ b o,X.base.get? b=some o→X.s₀.heap.get? b=some o∧X.H₀ b=none
 bsz:X.base.objs.size≤X.s₀.heap.objs.size
 noex:∀ b o,X.base.get? b=some o→b ∉ X.ex
 exfs:∀ b∈X.ex,b ∉ X.fs
 funs:X.s₀.heap.FunFrames X.base X.outer
 frf:∀ b∈X.fs,X.H₀ b=none
structure Inv (X:Cx) (pins:List (Addr×Obj)) (σ:List (Option V)) (H:Hp) (s:Shared):Prop where
 ok:X.Ok
 os:s.os=X.s₀.os
 bare:AllBare s.gens
 base:Un X.fs X.ex X.H₀ H X.s₀.heap s.heap
 loc:∃ m,s.heap.Ns X.env.locals m∧∀ (i:Nat) (x:Str) (v:V),X.N[i]?=some x→σ[i]?=some (some v)→Vis X.env.scope x→∃ u,RelV v u∧Look X.env s.heap m x u
 cell:∀ x c,X.env.cells.lookup x=some c→∃ v,s.heap.IsCell c v
 free:H X.env.locals=none
 freeC:∀ x c,X.env.cells.lookup x=some c→H c=none
 pin:∀ p∈X.pn++pins,s.heap.get? p.1=some p.2∧H p.1=none∧p.1≠X.env.locals∧p.1 ∉ X.fs∧∀ v,p.2.data≠.cell v
 hok:HOk X.prog X.w H s.heap
 len:σ.length=X.N.length
section
variable {X:Cx} {pins:List (Addr×Obj)} {σ:List (Option V)} {H H':Hp} {s:Shared} {h':Heap}
theorem Cx.Ok.nofr (ok:X.Ok) {b:Addr} {o:Obj} (e:X.base.get? b=some o):b ∉ X.fs:=fun hb=>by
 have:=(ok.funs.mem hb).1
 rw[e] at this; cases this
theorem Inv.bs (I:Inv X pins σ H s):∀ b o,X.base.get? b=some o→s.heap.get? b=some o∧H b=none:=fun b o e =>
 ⟨I.base.keep b o (I.ok.bs b o e).1 (I.ok.bs b o e).2 (I.ok.nofr e) (I.ok.noex b o e),I.base.free b o (I.ok.bs b o e).1 (I.ok.bs b o e).2 (I.ok.noex b o e)⟩
theorem Inv.bk (I:Inv X pins σ H s):∀ b o,X.base.get? b=some o→s.heap.get? b=some o:=fun b o e=>(I.bs b o e).1
theorem Inv.mod (I:Inv X pins σ H s):Mod X.K X.mg X.base:=I.ok.mod
theorem Inv.kIn (I:Inv X pins σ H s):X.K.In s.heap:=I.ok.mod.kin.keeps I.bk
theorem Inv.lt (I:Inv X pins σ H s):X.env.locals<s.heap.objs.size:=let ⟨_,hn,_⟩:=I.loc; hn.lt
theorem Inv.sz (I:Inv X pins σ H s):X.s₀.heap.objs.size≤s.heap.objs.size:=Nat.le_trans I.ok.above (Nat.le_of_lt I.lt)
theorem Inv.nofs (I:Inv X pins σ H s) {a:Addr} (h:s.heap.objs.size≤a):a ∉ X.fs:=fun hb=>by
 obtain⟨_,o,ho,_⟩:=I.ok.funs.mem hb
 exact absurd (Nat.lt_of_lt_of_le (Heap.lt_size ho) (Nat.le_trans I.sz h)) (Nat.lt_irrefl _)
theorem Inv.cne (I:Inv X pins σ H s):∀ x c,X.env.cells.lookup x=some c→c≠X.env.locals:=fun x c e z=>by
 obtain⟨v,o,ho,hd⟩:=I.cell x c e
 obtain⟨m,⟨o',es,ep,ho',hd',_⟩,_⟩:=I.loc
 rw[z,ho'] at ho; cases ho; rw[hd'] at hd; cases hd
theorem Inv.funs (I:Inv X pins σ H s):s.heap.FunFrames X.base X.outer:=by
 have all:∀ (l:List Env),(∀ b∈frs l,b∈X.fs)→X.s₀.heap.FunFrames X.base l→s.heap.FunFrames X.base l:=by
  intro l
  induction l with
  | nil=>intro _ _; trivial
  | cons env r ih =>
   intro hs hl
   obtain⟨hk,⟨L,o,hf,hn,ho,hd⟩,hr⟩:=hl
   have hL:L∈X.fs:=hs L (by unfold frs; rw[List.filterMap_cons,hf]; exact List.mem_cons_self)
   obtain⟨sl,e⟩:=I.base.slot L o ho (I.ok.frf L hL) hL fun z=>I.ok.exfs L z hL
   exact⟨hk,⟨L,_,hf,hn,e,hd⟩,ih (fun b hb=>hs b (by unfold frs; rw[List.filterMap_cons,hf]; exact List.mem_cons_of_mem _ hb)) hr⟩
 exact all X.outer (fun _ hb=>hb) I.ok.funs
theorem Inv.stack (I:Inv X pins σ H s):s.heap.FunFrames X.base X.stack:=by
 rcases I.ok.stk with e | ⟨e,hf⟩
 ·rw[e]; exact I.funs
 ·rw[e]
  obtain⟨m,hn,_⟩:=I.loc
  refine .cons (by rw[I.ok.kind]; decide) hf hn ?_ I.funs
  exact Heap.get?_none_of_le (Nat.le_trans I.ok.bsz I.ok.above)
theorem Inv.stkSub (I:Inv X pins σ H s):∀ b∈frs X.stack,b∈X.env.locals::X.fs:=fun b hb=>by
 rcases I.ok.stk with e | ⟨e,hf⟩
 ·rw[e] at hb; exact List.mem_cons_of_mem _ hb
 ·rw[e] at hb
  unfold frs at hb
  rw[List.filterMap_cons,hf] at hb
  exact hb
theorem Inv.stkFree (I:Inv X pins σ H s):∀ b∈frs X.stack,H b=none:=fun b hb=>by
 rcases List.mem_cons.mp (I.stkSub b hb) with e | hb
 ·rw[e]; exact I.free
 ·obtain⟨_,o,ho,_⟩:=I.ok.funs.mem hb
  exact I.base.free b o ho (I.ok.frf b hb) fun z=>I.ok.exfs b z hb
theorem Inv.step {g':Array GenState} {t':Nat} {d':Drawn} {ch:List Addr} (I:Inv X pins σ H s)
  (hch:∀ b∈ch,(b∈X.ex∨X.s₀.heap.objs.size≤b)∧b≠X.env.locals∧(∀ x c,X.env.cells.lookup x=some c→c≠b)∧∀ p∈X.pn++pins,p.1≠b)
  (keep:∀ b o,b≠X.env.locals→b ∉ X.fs→b ∉ ch→s.heap.get? b=some o→H b=none→h'.get? b=some o)
  (slot:∀ b o,b≠X.env.locals→b∈X.fs→b ∉ ch→s.heap.get? b=some o→H b=none→∃ sl,h'.get? b=some { o with slots:=sl }) (free:∀ b o,b ∉ ch→s.heap.get? b=some o→H b=none→H' b=none)
  (there:∀ b o,b ∉ ch→s.heap.get? b=some o→∃ o',h'.get? b=some o')
  (tups:∀ b xs,H b=some (.tup xs)→H' b=some (.tup xs)) (frzs:∀ b o u,H b=some (.frz o u)→H' b=some (.frz o u)) (tbls:∀ b ps,H b=some (.tbl ps)→∃ more,H' b=some (.tbl (ps++more)))
  (ns:∀ m,s.heap.Ns X.env.locals m→h'.Ns X.env.locals m) (hok:HOk X.prog X.w H' h') (hg:AllBare g') :
  Inv X pins σ H' { s with heap:=h',gens:=g',drawn:=d',toks:=t' }:=by
 have neL:∀ b o,X.s₀.heap.get? b=some o→b≠X.env.locals:=fun b o e=>Nat.ne_of_lt (Nat.lt_of_lt_of_le (Heap.lt_size e) I.ok.above)
 have neC:∀ b o,X.s₀.heap.get? b=some o→b ∉ X.ex→b ∉ ch:=fun b o e hx hb=>by
  rcases (hch b hb).1 with z | z
  ·exact hx z
  ·exact absurd (Nat.lt_of_lt_of_le (Heap.lt_size e) z) (Nat.lt_irrefl _)
 have cellK:∀ x c,X.env.cells.lookup x=some c→∀ v,s.heap.IsCell c v→h'.IsCell c v:=fun x c e v ⟨o,ho,hd⟩=>by
  have nch:c ∉ ch:=fun z=>(hch c z).2.2.1 x c e rfl
  by_cases hc:c∈X.fs
  ·obtain⟨sl,q⟩:=slot c o (I.cne x c e) hc nch ho (I.freeC x c e)
   exact⟨_,q,hd⟩
  ·exact⟨o,keep c o (I.cne x c e) hc nch ho (I.freeC x c e),hd⟩
 refine⟨I.ok,I.os,hg,⟨fun b o e n hb hx=>?_,fun b o e n hb hx=>?_,fun b o e n hx=>?_,fun b o e hx=>?_,fun b xs e=>tups b xs (I.base.tups b xs e),fun b o xs e=>frzs b o xs (I.base.frzs b o xs e),fun b ps e=>?_⟩,?_,fun x c e=>?_,?_,fun x c e=>?_,fun p hp=>?_,hok,I.len⟩
 ·exact keep b o (neL b o e) hb (neC b o e hx) (I.base.keep b o e n hb hx) (I.base.free b o e n hx)
 ·obtain⟨sl,e1⟩:=I.base.slot b o e n hb hx
  obtain⟨sl',e2⟩:=slot b _ (neL b o e) hb (neC b o e hx) e1 (I.base.free b o e n hx)
  exact⟨sl',e2⟩
 ·obtain⟨o',e1⟩:=I.base.there b o e hx
  exact free b o' (neC b o e hx) e1 (I.base.free b o e n hx)
 ·obtain⟨o',e1⟩:=I.base.there b o e hx
  exact there b o' (neC b o e hx) e1
 ·obtain⟨m1,e1⟩:=I.base.tbls b ps e
  obtain⟨m2,e2⟩:=tbls b _ e1
  exact⟨m1++m2,by rw[e2,Array.append_assoc]⟩
 ·obtain⟨m,hn,hl⟩:=I.loc
  refine⟨m,ns m hn,fun i x v e1 e2 e3=>?_⟩
  obtain⟨u,r,l⟩:=hl i x v e1 e2 e3
  refine⟨u,r,?_⟩
  rcases l with l | ⟨k,c,e,z⟩
  ·exact .inl l
  ·exact .inr ⟨k,c,e,cellK x c e _ z⟩
 ·obtain⟨v,z⟩:=I.cell x c e
  exact⟨v,cellK x c e v z⟩
 ·obtain⟨m,⟨o,_,_,ho,_⟩,_⟩:=I.loc
  exact free _ o (fun z=>(hch _ z).2.1 rfl) ho I.free
 ·obtain⟨v,o,ho,hd⟩:=I.cell x c e
  exact free c o (fun z=>(hch c z).2.2.1 x c e rfl) ho (I.freeC x c e)
 ·obtain⟨e,n,ne,nf,d⟩:=I.pin p hp
  have nch:p.1 ∉ ch:=fun z=>(hch p.1 z).2.2.2 p hp rfl
  exact⟨keep p.1 p.2 ne nf nch e n,free p.1 p.2 nch e n,ne,nf,d⟩
theorem Inv.un {t':Nat} (I:Inv X pins σ H s) (u:Un X.fs [] H H' s.heap h') (hok:HOk X.prog X.w H' h'):Inv X pins σ H' { s with heap:=h',toks:=t' }:=by
 obtain⟨m,⟨o,es,ep,ho,r⟩,_⟩:=id I.loc
 obtain⟨sl,hL⟩:=u.any ho I.free (by simp)
 exact I.step (g':=s.gens) (d':=s.drawn) (ch:=[]) (fun _ z=>nomatch z) (fun b o _ hb _ e n=>u.keep b o e n hb (by simp)) (fun b o _ hb _ e n=>u.slot b o e n hb (by simp)) (fun b o _ e n=>u.free b o e n (by simp)) (fun b o _ e=>u.there b o e (by simp)) u.tups u.frzs u.tbls (fun m' hm=>by
  obtain⟨o',es',ep',ho',r'⟩:=hm
  rw[ho] at ho'; cases ho'
  exact⟨_,es',ep',hL,r'⟩) hok I.bare
theorem Inv.call {g':Array GenState} {t':Nat} {d':Drawn} {ch:List Addr} (I:Inv X pins σ H s) (u:Un (frs X.stack) ch H H' s.heap h') (hok:HOk X.prog X.w H' h') (hg:AllBare g')
  (hch:∀ b∈ch,(b∈X.ex∨X.s₀.heap.objs.size≤b)∧b≠X.env.locals∧(∀ x c,X.env.cells.lookup x=some c→c≠b)∧∀ p∈X.pn++pins,p.1≠b) :
  Inv X pins σ H' { s with heap:=h',gens:=g',drawn:=d',toks:=t' }:=by
 obtain⟨m,⟨o,es,ep,ho,r⟩,_⟩:=id I.loc
 obtain⟨sl,hL⟩:=u.any ho I.free fun z=>(hch _ z).2.1 rfl
 exact I.step (ch:=ch) hch (fun b o hL hb hc e n=>u.keep b o e n (fun z=>(List.mem_cons.mp (I.stkSub b z)).elim hL hb) hc) (fun b o _ _ hc e n=>u.any e n hc) (fun b o hc e n=>u.free b o e n hc) (fun b o hc e=>u.there b o e hc) u.tups u.frzs u.tbls (fun m' hm=>by
  obtain⟨o',es',ep',ho',r'⟩:=hm
  rw[ho] at ho'; cases ho'
  exact⟨_,es',ep',hL,r'⟩) hok hg
theorem Inv.turned {t':Nat} {it:Addr} (I:Inv X pins σ H s) (k:∀ b o,b≠it→s.heap.get? b=some o→h'.get? b=some o) (hn:H it=none) (hL:it≠X.env.locals)
  (h1:it∈X.ex∨X.s₀.heap.objs.size≤it) (h2:∀ x c,X.env.cells.lookup x=some c→c≠it) (h3:∀ p∈X.pn++pins,p.1≠it):Inv X pins σ H { s with heap:=h',toks:=t' }:=by
 have nit:∀ b u,H b=some u→b≠it:=fun b u e z=>by rw[z,hn] at e; cases e
 refine I.step (g':=s.gens) (d':=s.drawn) (ch:=[it]) (fun b hb=>?_) (fun b o _ _ hc e _=>k b o (fun z=>hc (by simp [z])) e) (fun b o _ _ hc e _=>⟨o.slots,k b o (fun z=>hc (by simp [z])) e⟩) (fun _ _ _ _ n=>n)
  (fun b o hc e=>⟨o,k b o (fun z=>hc (by simp [z])) e⟩) (fun _ _ e=>e) (fun _ _ _ e=>e) (fun b ps e=>⟨#[],by rw[e]; simp⟩) (fun m hm=>?_) (fun b u e=>?_) I.bare
 ·have e:b=it:=by simpa using hb
  subst e
  exact⟨h1,hL,h2,h3⟩
 ·obtain⟨o,es,ep,ho,r⟩:=hm
  exact⟨o,es,ep,k _ o (Ne.symm hL) ho,r⟩
 ·refine (I.hok b u e).stay (fun c v hc q=>k c v ?_ q) (fun _ q=>q) fun _ _ q=>q
  rcases hc with z | z
  ·rw[z]; exact nit b u e
  ·exact nit c _ z
theorem Inv.tok (I:Inv X pins σ H s) (t:Nat):Inv X pins σ H { s with toks:=t }:=I.un (h':=s.heap) (t':=t) Un.refl I.hok
theorem Inv.kept {t':Nat} (I:Inv X pins σ H s) (k:∀ b u,s.heap.get? b=some u→h'.get? b=some u):Inv X pins σ H { s with heap:=h',toks:=t' }:=I.un (Un.kept k) (I.hok.kept k)
theorem Inv.laid {a:Addr} {o:HO} {t':Nat} (I:Inv X pins σ H s) (k:∀ b u,s.heap.get? b=some u→h'.get? b=some u) (hp:s.heap.objs.size≤a) (new:ObjOk X.prog X.w (upd H a o) h' a o) :
  Inv X pins σ (upd H a o) { s with heap:=h',toks:=t' }:=I.un (Un.laid k hp (I.hok.fresh hp)) (I.hok.laid k hp new)
theorem Inv.write {x e:Addr} {o:HO} {t':Nat} (I:Inv X pins σ H s) (mu:Mut (H x)) (he:e=x∨H e=some (.own x)) (k:∀ b u,b≠e→s.heap.get? b=some u→h'.get? b=some u) (heo:∃ u,h'.get? e=some u)
  (new:ObjOk X.prog X.w (upd H x o) h' x o):Inv X pins σ (upd H x o) { s with heap:=h',toks:=t' }:=I.un (Un.write mu he k heo) (I.hok.write mu he k heo new)
theorem Inv.pins_of {pins':List (Addr×Obj)} (I:Inv X pins σ H s) (h:∀ p∈pins',s.heap.get? p.1=some p.2∧H p.1=none∧p.1≠X.env.locals∧p.1 ∉ X.fs∧∀ v,p.2.data≠.cell v):Inv X pins' σ H s :=
 ⟨I.ok,I.os,I.bare,I.base,I.loc,I.cell,I.free,I.freeC,fun p hp=>(List.mem_append.mp hp).elim (fun z=>I.pin p (List.mem_append_left _ z)) (h p),I.hok,I.len⟩
theorem AI {N:List Str} (hN:N.Nodup) {i j:Nat} {x:Str} (a:N[i]?=some x) (b:N[j]?=some x):i=j:=by
 obtain⟨h1,e1⟩:=List.getElem?_eq_some_iff.mp a
 obtain⟨h2,e2⟩:=List.getElem?_eq_some_iff.mp b
 exact (List.getElem_inj hN).mp (e1.trans e2.symm)
theorem zg {M:Model} {A:Around} {E:Value→Shared→Prop} {i:Nat} {x:Str} {v:V} {u:Value} {Q:Unit→Shared→Prop} (I:Inv X pins σ H s) (hN:X.N.Nodup) (hi:X.N[i]?=some x) (hx:Loc X.env.scope x) (r:RelV v u)
  (h:∀ s',Inv X pins (σ.set i (some v)) H s'→(∃ a,Heap.SameBut a s.heap s'.heap∧(a=X.env.locals∨X.env.cells.lookup x=some a))→Q () s') (hf:X.fn x=true∨X.env.scope.names.lookup x=some .local:=by first | exact .inl rfl | exact .inr rfl | assumption):wpAny M A (storeName X.env x u) Q E s:=by
 obtain⟨m,hn,hl⟩:=id I.loc
 have hcls:(X.env.scope.kind == .class || (X.env.scope.kind == .module && X.env.locals != X.env.globals))=false:=by rw[I.ok.kind]; rfl
 have hiσ:i<σ.length:=by rw[I.len]; exact (List.getElem?_eq_some_iff.mp hi).1
 have cne:=I.cne
 have tracked:∀ {a:Addr} {h':Heap},(∃ o,s.heap.get? a=some o∧H a=none)→Heap.SameBut a s.heap h'→HOk X.prog X.w H h':=fun {a h'} ha hs b ob e=>by
  obtain⟨_,_,hfree⟩:=ha
  refine (I.hok b ob e).stay (fun c w' hc q=>(hs.2 c ?_).trans q) (fun _ q=>q) fun _ _ q=>q
  rintro rfl
  rcases hc with rfl | hc
  ·rw[hfree] at e; cases e
  ·rw[hfree] at hc; cases hc
 rcases hx with hk | hk
 ·refine wpAny_storeName_local hk hn (fun h' hn' hs=>?_) hcls
  obtain⟨oL,_,_,hoL,_⟩:=id hn
  refine h _ ⟨I.ok,I.os,I.bare,⟨fun b o e n hb hx=>?_,fun b o e n hb hx=>?_,I.base.free,fun b o e hx=>?_,I.base.tups,I.base.frzs,I.base.tbls⟩,⟨_,hn',fun j y v' e1 e2 e3=>?_⟩,fun y c e=>?_,I.free,I.freeC,fun p hp=>?_,tracked ⟨oL,hoL,I.free⟩ hs,by simpa using I.len⟩ ⟨_,hs,.inl rfl⟩
  ·exact (hs.2 b (Nat.ne_of_lt (Nat.lt_of_lt_of_le (Heap.lt_size e) I.ok.above))).trans (I.base.keep b o e n hb hx)
  ·obtain⟨sl,e1⟩:=I.base.slot b o e n hb hx
   exact⟨sl,(hs.2 b (Nat.ne_of_lt (Nat.lt_of_lt_of_le (Heap.lt_size e) I.ok.above))).trans e1⟩
  ·obtain⟨o',e1⟩:=I.base.there b o e hx
   exact⟨o',(hs.2 b (Nat.ne_of_lt (Nat.lt_of_lt_of_le (Heap.lt_size e) I.ok.above))).trans e1⟩
  ·by_cases hj:j=i
   ·subst hj
    rw[hi] at e1; cases e1
    rw[List.getElem?_set_self hiσ] at e2
    cases e2
    exact⟨u,r,.inl ⟨hk,by simp⟩⟩
   ·rw[List.getElem?_set_ne (Ne.symm hj)] at e2
    obtain⟨u',r',q⟩:=hl j y v' e1 e2 e3
    refine⟨u',r',?_⟩
    rcases q with ⟨k,e⟩ | ⟨k,c,e,z⟩
    ·refine .inl ⟨k,?_⟩
     have:y≠x:=fun e=>hj (AI hN e1 (e ▸ hi))
     simp [this,e]
    ·exact .inr ⟨k,c,e,z.sameBut hs (cne y c e)⟩
  ·obtain⟨w',z⟩:=I.cell y c e
   exact⟨w',z.sameBut hs (cne y c e)⟩
  ·obtain⟨e,n,ne,nf,d⟩:=I.pin p hp
   exact⟨(hs.2 p.1 ne).trans e,n,ne,nf,d⟩
 ·have hfn:X.fn x=true:=by
   rcases hf with z | z
   ·exact z
   ·rw[z] at hk; cases hk
  obtain⟨c,hc⟩:=I.ok.has x (.inl hk)
  obtain⟨w',z⟩:=I.cell x c hc
  refine wpAny_storeName_cell I.ok.kind hk hc z (fun h' hc' hs=>?_)
  obtain⟨oc,hoc,hocd⟩:=id z
  refine h { s with heap:=h' } ⟨I.ok,I.os,I.bare,⟨fun b o e n hb hx=>?_,fun b o e n hb hx=>?_,I.base.free,fun b o e hx=>?_,I.base.tups,I.base.frzs,I.base.tbls⟩,⟨m,hn.sameBut hs (Ne.symm (cne x c hc)),fun j y v' e1 e2 e3=>?_⟩,fun y c' e=>?_,I.free,I.freeC,fun p hp=>?_,tracked ⟨oc,hoc,I.freeC x c hc⟩ hs,by simpa using I.len⟩ ⟨c,hs,.inr hc⟩
  ·exact (hs.2 b (Nat.ne_of_lt (Nat.lt_of_lt_of_le (Heap.lt_size e) (I.ok.cab x c hfn hc)))).trans (I.base.keep b o e n hb hx)
  ·obtain⟨sl,e1⟩:=I.base.slot b o e n hb hx
   exact⟨sl,(hs.2 b (Nat.ne_of_lt (Nat.lt_of_lt_of_le (Heap.lt_size e) (I.ok.cab x c hfn hc)))).trans e1⟩
  ·obtain⟨o',e1⟩:=I.base.there b o e hx
   exact⟨o',(hs.2 b (Nat.ne_of_lt (Nat.lt_of_lt_of_le (Heap.lt_size e) (I.ok.cab x c hfn hc)))).trans e1⟩
  ·by_cases hj:j=i
   ·subst hj
    rw[hi] at e1; cases e1
    rw[List.getElem?_set_self hiσ] at e2
    cases e2
    exact⟨u,r,.inr ⟨.inl hk,c,hc,hc'⟩⟩
   ·rw[List.getElem?_set_ne (Ne.symm hj)] at e2
    obtain⟨u',r',q⟩:=hl j y v' e1 e2 e3
    refine⟨u',r',?_⟩
    rcases q with q | ⟨k,c',e,z'⟩
    ·exact .inl q
    ·refine .inr ⟨k,c',e,z'.sameBut hs ?_⟩
     rintro rfl
     exact hj (AI hN e1 (I.ok.inj _ _ _ e hc ▸ hi))
  ·by_cases hcc:c'=c
   ·subst hcc; exact⟨_,hc'⟩
   ·obtain⟨w2,z2⟩:=I.cell y c' e
    exact⟨w2,z2.sameBut hs hcc⟩
  ·obtain⟨e,n,ne,nf,d⟩:=I.pin p hp
   refine⟨(hs.2 p.1 ?_).trans e,n,ne,nf,d⟩
   intro q
   rw[q,hoc] at e
   have q':oc=p.2:=Option.some.inj e
   exact d w' (by rw[← q']; exact hocd)
theorem xX {M:Model} {A:Around} {E:Value→Shared→Prop} {i:Nat} {x:Str} {v:V} {u:Value} {Q:Unit→Shared→Prop} (I:Inv X pins σ H s) (hN:X.N.Nodup) (hi:X.N[i]?=some x) (hx:Loc X.env.scope x) (r:RelV v u)
  (h:∀ s',Inv X pins (σ.set i (some v)) H s'→Q () s') (hf:X.fn x=true∨X.env.scope.names.lookup x=some .local:=by first | exact .inl rfl | exact .inr rfl | assumption):wpAny M A (storeName X.env x u) Q E s :=
 zg I hN hi hx r (fun s' I' _=>h s' I') hf
theorem Inv.call' {s':Shared} {ch:List Addr} (I:Inv X pins σ H s) (ho:s'.os=s.os) (u:Un (frs X.stack) ch H H' s.heap s'.heap) (hok:HOk X.prog X.w H' s'.heap) (hg:AllBare s'.gens)
  (hch:∀ b∈ch,(b∈X.ex∨X.s₀.heap.objs.size≤b)∧b≠X.env.locals∧(∀ x c,X.env.cells.lookup x=some c→c≠b)∧∀ p∈X.pn++pins,p.1≠b):Inv X pins σ H' s':=by
 obtain⟨h',g',d',t',o'⟩:=s'
 have e:o'=s.os:=ho
 subst e
 exact I.call (g':=g') (t':=t') (d':=d') u hok hg hch
end
abbrev XK:=Value→Option Addr→Hp→Prop
abbrev St:=List (Option V)
abbrev VK:=V→Hp→Prop
abbrev TE:=St→Hp→VK→Prop
abbrev TT:=St→Hp→(Bool→Hp→Prop)→Prop
abbrev TA:=St→Hp→(List V→Hp→Prop)→Prop
structure Ends where
 nx:St→Hp→Prop
 rt:VK
 bk:St→Hp→Prop:=fun _ _=>False
 ct:St→Hp→Prop:=fun _ _=>False
abbrev TS:=Ends→St→Hp→Prop
def EP (X:Cx) (pins:List (Addr×Obj)) (σ:St) (Q:VK) (u:Value) (s':Shared):Prop:=∃ v H',Inv X pins σ H' s'∧RelV v u∧Q v H'
def TP (X:Cx) (pins:List (Addr×Obj)) (σ:St) (Q:Bool→Hp→Prop) (b:Bool) (s':Shared):Prop:=∃ H',Inv X pins σ H' s'∧Q b H'
def AP (X:Cx) (pins:List (Addr×Obj)) (σ:St) (Q:List V→Hp→Prop) (us:List Value) (s':Shared):Prop:=∃ vs H',Inv X pins σ H' s'∧Vals vs us∧Q vs H'
def SP (X:Cx) (pins:List (Addr×Obj)) (D:Ends) (f:Flow) (s':Shared):Prop :=
 match f with
 | .next=>∃ σ' H',Inv X pins σ' H' s'∧D.nx σ' H'
 | .brk=>∃ σ' H',Inv X pins σ' H' s'∧D.bk σ' H'
 | .cont=>∃ σ' H',Inv X pins σ' H' s'∧D.ct σ' H'
 | .ret u=>∃ v σ' H',Inv X pins σ' H' s'∧RelV v u∧D.rt v H'
def PE (X:Cx) (e:Expr) (t:TE):Prop :=
 ∀ (pins:List (Addr×Obj)) (s:Shared) (σ:St) (H:Hp) (Q:VK),Inv X pins σ H s→t σ H Q→wpAny (model X.prog X.w) X.A (eval e X.env) (EP X pins σ Q) X.xe s
def PT (X:Cx) (e:Expr) (t:TT):Prop :=
 ∀ (pins:List (Addr×Obj)) (s:Shared) (σ:St) (H:Hp) (Q:Bool→Hp→Prop),Inv X pins σ H s→t σ H Q→wpAny (model X.prog X.w) X.A (isTrue e X.env (eval e X.env)) (TP X pins σ Q) X.xe s
def PW (X:Cx) (e:Expr) (t:TT):Prop :=
 ∀ (whole:Sem Value) (pins:List (Addr×Obj)) (s:Shared) (σ:St) (H:Hp) (Q:Bool→Hp→Prop),Inv X pins σ H s→t σ H Q→wpAny (model X.prog X.w) X.A (isTrue e X.env whole) (TP X pins σ Q) X.xe s
theorem PW.pt {X:Cx} {e:Expr} {t:TT} (h:PW X e t):PT X e t:=h _
def PA (X:Cx) (es:List Expr) (t:TA):Prop :=
 ∀ (pos:Pos) (pins:List (Addr×Obj)) (s:Shared) (σ:St) (H:Hp) (Q:List V→Hp→Prop),Inv X pins σ H s→t σ H Q→wpAny (model X.prog X.w) X.A (spliced (backTo pos (starEach es X.env))) (AP X pins σ Q) X.xe s
def PS (X:Cx) (st:Stmt) (t:TS):Prop :=
 ∀ (pins:List (Addr×Obj)) (s:Shared) (σ:St) (H:Hp) (D:Ends),Inv X pins σ H s→t D σ H→wpAny (model X.prog X.w) X.A (exec st X.env) (SP X pins D) X.xe s
def PSs (X:Cx) (st:List Stmt) (t:TS):Prop :=
 ∀ (pins:List (Addr×Obj)) (s:Shared) (σ:St) (H:Hp) (D:Ends),Inv X pins σ H s→t D σ H→wpAny (model X.prog X.w) X.A (execs st X.env) (SP X pins D) X.xe s
theorem thn {α:Type} {t:Sem α} {Q Q':α→Shared→Prop} {M:Model} {A:Around} {E:Value→Shared→Prop} {s:Shared} (h:wpAny M A t Q E s) (hQ:∀ a s,Q a s→Q' a s):wpAny M A t Q' E s:=wpAny_mono h hQ fun _ _ x=>x
section
variable {X:Cx}
theorem bin {a b:Expr} {ta tb:TE} (ha:PE X a ta) (hb:PE X b tb) {pins:List (Addr×Obj)} {s:Shared} {σ:St} {H:Hp} {R:V→V→Hp→Prop} (I:Inv X pins σ H s) (h:ta σ H fun x H1=>tb σ H1 fun y H2=>R x y H2)
  {α:Type} {Q:α→Shared→Prop} {f:Value→Value→Sem α}
  (hf:∀ v u s2 x y H2,Inv X pins σ H2 s2→RelV x v→RelV y u→R x y H2→wpAny (model X.prog X.w) X.A (f v u) Q X.xe s2) :
  wpAny (model X.prog X.w) X.A (eval a X.env) (fun v s₁=>wpAny (model X.prog X.w) X.A (eval b X.env) (fun u s₂=>wpAny (model X.prog X.w) X.A (f v u) Q X.xe s₂) X.xe s₁) X.xe s:=by
 refine thn (ha pins s σ H _ I h) fun v s1 ⟨x,H1,I1,r1,q1⟩=>?_
 refine thn (hb pins s1 σ H1 _ I1 q1) fun u s2 ⟨y,H2,I2,r2,q2⟩=>?_
 exact hf v u s2 x y H2 I2 r1 r2 q2
def Fg (i:Nat):TE:=fun σ H Q=>∃ v,σ[i]?=some (some v)∧Q v H
def tC (v:V):TE:=fun _ H Q=>Q v H
theorem cO {i:Nat} {x:Str} {pos:Pos} (hN:X.N[i]?=some x) (hv:Vis X.env.scope x) (hd:(x == ("__debug__":Str))=false:=by decide) (hcd:(x == ("__classdict__":Str))=false:=by decide):PE X (.Name x pos) (Fg i):=by
 intro pins s σ H Q I h
 obtain⟨v,e,h⟩:=h
 obtain⟨m,hn,hl⟩:=I.loc
 obtain⟨u,r,l⟩:=hl i x v hN e hv
 have fin:EP X pins σ Q u s:=⟨v,H,I,r,h⟩
 rcases l with ⟨hk,hm⟩ | ⟨hk,c,hc,hcell⟩
 ·exact wpAny_Name (wpAny_loadName_local I.ok.kind hk hn hm fin) hd
 ·rcases hk with hk | hk
  ·exact wpAny_Name (wpAny_loadName_cell I.ok.kind hk hc hcell fin) hd
  ·exact wpAny_Name (wpAny_loadName_free I.ok.kind hk hc hcell fin hcd) hd
theorem dw {i j pos}:PE X (.Constant (.int i) j pos) (tC (.int i)):=fun _ _ _ H _ I h=>wpAny_Constant_int ⟨.int i,H,I.tok _,⟨_,rfl⟩,h⟩
theorem tY {b j pos}:PE X (.Constant (.bool b) j pos) (tC (.bl b)):=fun _ _ _ H _ I h=>Constant_bool ⟨.bl b,H,I,rfl,h⟩
theorem tZ {j pos}:PE X (.Constant .none j pos) (tC .non):=fun _ _ _ H _ I h=>Constant_none ⟨.non,H,I,rfl,h⟩
theorem IM {x j pos}:PE X (.Constant (.str x) j pos) (tC (.str x)):=fun _ _ _ H _ I h=>Calls.Constant_str ⟨.str x,H,I.tok _,⟨_,rfl⟩,h⟩
def Gl (X:Cx) (x:Str):Prop:=X.env.kindOf x=some .globalImplicit
theorem Ht {E:Value→Shared→Prop} {pins:List (Addr×Obj)} {s:Shared} {σ:St} {H:Hp} {x:Str} {u:Value} {pos:Pos} {Q:Value→Shared→Prop} (I:Inv X pins σ H s) (hg:Gl X x) (hm:X.mg x=some u) (h:Q u s)
  (hd:(x == ("__debug__":Str))=false:=by decide):wpAny (model X.prog X.w) X.A (eval (.Name x pos) X.env) Q E s :=
 Calls.Name_function_global I.ok.kind hg (Calls.loadGlobal_global (by rw[I.ok.glob]; exact I.mod.glob.keeps I.bk) hm h) hd
theorem tX {E:Value→Shared→Prop} {pins:List (Addr×Obj)} {s:Shared} {σ:St} {H:Hp} {x:Str} {u:Value} {pos:Pos} {Q:Value→Shared→Prop} (I:Inv X pins σ H s) (hg:Gl X x) (hm:X.mg x=none) (hv:bootBuiltins x=some u) (h:Q u s)
  (hn:x≠"__name__":=by decide) (hd:(x == ("__debug__":Str))=false:=by decide):wpAny (model X.prog X.w) X.A (eval (.Name x pos) X.env) Q E s:=by
 obtain⟨mb,h1,h2⟩:=I.mod.blt
 exact Calls.Name_function_global I.ok.kind hg (Calls.loadGlobal_builtin (by rw[I.ok.glob]; exact I.mod.glob.keeps I.bk) hm (by rw[I.ok.blt]; exact h1.keeps I.bk) ((h2 x hn).trans hv) h) hd
theorem u9 {x:Str} {v:V} {u:Value} {pos:Pos} (hg:Gl X x) (hm:X.mg x=none) (hv:bootBuiltins x=some u) (r:RelV v u) (hn:x≠"__name__":=by decide) (hd:(x == ("__debug__":Str))=false:=by decide):PE X (.Name x pos) (tC v) :=
 fun _ _ _ H _ I h=>tX I hg hm hv ⟨v,H,I,r,h⟩ hn hd
variable {a b:Expr} {ta tb:TE} {pos:Pos}
def PC (X:Cx) (op:CmpOp) (a b:Expr) (t:TE):Prop :=
 ∀ (pins:List (Addr×Obj)) (s:Shared) (σ:St) (H:Hp) (Q:VK),Inv X pins σ H s→t σ H Q →
  wpAny (model X.prog X.w) X.A (eval a X.env) (fun v s₁=>wpAny (model X.prog X.w) X.A (eval b X.env) (fun u s₂=>wpAny (model X.prog X.w) X.A (compareOp op v u) (EP X pins σ Q) X.xe s₂) X.xe s₁) X.xe s
theorem Gj (b:Expr) {op:CmpOp} (h:op≠.In) (h2:op≠.NotIn):behindInMarks op b=false:=by
 have e1:(op == CmpOp.In)=false:=by cases op <;> first | rfl | exact absurd rfl h
 have e2:(op == CmpOp.NotIn)=false:=by cases op <;> first | rfl | exact absurd rfl h2
 cases b <;> simp [behindInMarks,e1,e2]
def tB (t:TE):TT:=fun σ H Q=>t σ H fun x H1=>∃ c,x=.bl c∧Q c H1
theorem IF {op:CmpOp} {t:TE} (h:PC X op a b t) (h1:behindInMarks op b=false:=by first | exact Gj _ (by decide) (by decide) | rfl):PT X (.Compare a [op] [b] pos) (tB t):=by
 intro pins s σ H Q I hw
 refine wpAny_isTrue_Compare1 (thn (h pins s σ H _ I hw) fun v s1 h1=>thn h1 fun u s2 h2=>thn h2 fun c s3 ⟨x,H1,I1,r1,q1⟩=>?_) h1
 obtain⟨d,rfl,q⟩:=q1
 cases r1
 exact wpAny_truthy_bool ⟨H1,I1,q⟩
theorem pV {e:Expr} {t:TE} (h:PE X e t) (he:∀ whole,isTrue e X.env whole=(do let v ← whole; standAt e.pos; holding [v] (truthy v)):=by intro _; rfl):PT X e (tB t):=by
 intro pins s σ H Q I hw
 refine isTrue_plain (thn (h pins s σ H _ I hw) fun v s1 ⟨x,H1,I1,r1,q1⟩=>?_) (he _)
 obtain⟨d,rfl,q⟩:=q1
 cases r1
 exact wpAny_truthy_bool ⟨H1,I1,q⟩
variable {tA tB':TT} {rest:List Expr}
def JF (t u:TT):TT:=fun σ H Q=>t σ H fun c H1=>if c=true then u σ H1 Q else Q false H1
def tOr (t u:TT):TT:=fun σ H Q=>t σ H fun c H1=>if c=true then Q true H1 else u σ H1 Q
def IE (t:TT):TT:=fun σ H Q=>t σ H fun c H1=>Q (!c) H1
theorem Cr (ha:PT X a tA):PW X (.BoolOp .And [a] pos) tA:=by
 intro wh pins s σ H Q I h
 refine isTrue_and (thn (ha pins s σ H Q I h) fun c s1 e=>?_)
 cases c with
 | true=>exact isTrue_and_nil e
 | false=>exact e
theorem AR (ha:PT X a tA):PW X (.BoolOp .Or [a] pos) tA:=by
 intro wh pins s σ H Q I h
 refine isTrue_or (thn (ha pins s σ H Q I h) fun c s1 e=>?_)
 cases c with
 | false=>exact isTrue_or_nil e
 | true=>exact e
theorem yc (ha:PT X a tA) (hb:PW X (.BoolOp .And (b::rest) pos) tB'):PW X (.BoolOp .And (a::b::rest) pos) (JF tA tB'):=by
 intro wh pins s σ H Q I h
 refine isTrue_and (thn (ha pins s σ H _ I h) fun c s1 ⟨H1,I1,q1⟩=>?_)
 cases c with
 | true=>exact hb wh pins s1 σ H1 Q I1 q1
 | false=>exact⟨H1,I1,q1⟩
theorem Dv (ha:PT X a tA) (hb:PW X (.BoolOp .Or (b::rest) pos) tB'):PW X (.BoolOp .Or (a::b::rest) pos) (tOr tA tB'):=by
 intro wh pins s σ H Q I h
 refine isTrue_or (thn (ha pins s σ H _ I h) fun c s1 ⟨H1,I1,q1⟩=>?_)
 cases c with
 | true=>exact⟨H1,I1,q1⟩
 | false=>exact hb wh pins s1 σ H1 Q I1 q1
theorem qT (ha:PT X a tA):PT X (.UnaryOp .Not a pos) (IE tA):=by
 intro pins s σ H Q I h
 exact isTrue_not (ha pins s σ H (fun c H1=>Q (!c) H1) I h)
def GR (ta tb:TE):TE:=fun σ H Q=>ta σ H fun x H1=>∃ c,x=.bl c∧if c=true then tb σ H1 Q else Q (.bl false) H1
def JH (ta tb:TE):TE:=fun σ H Q=>ta σ H fun x H1=>∃ c,x=.bl c∧if c=true then Q (.bl true) H1 else tb σ H1 Q
def Gv (ta:TE):TE:=fun σ H Q=>ta σ H fun x H1=>∃ c,x=.bl c∧Q (.bl (!c)) H1
theorem vm {op} {t:TE} (h:PE X a t):PE X (.BoolOp op [a] pos) t:=fun pins s σ H Q I hw=>BoolOp_one (h pins s σ H Q I hw)
theorem uO (ha:PE X a ta) (hb:PE X (.BoolOp .And (b::rest) pos) tb):PE X (.BoolOp .And (a::b::rest) pos) (GR ta tb):=by
 intro pins s σ H Q I h
 refine BoolOp_and (thn (ha pins s σ H _ I h) fun v s1 ⟨x,H1,I1,r1,q1⟩=>?_)
 obtain⟨c,rfl,q1⟩:=q1
 cases r1
 refine wpAny_truthy_bool ?_
 cases c with
 | true=>exact hb pins s1 σ H1 Q I1 q1
 | false=>exact⟨.bl false,H1,I1,rfl,q1⟩
theorem JZ (ha:PE X a ta) (hb:PE X (.BoolOp .Or (b::rest) pos) tb):PE X (.BoolOp .Or (a::b::rest) pos) (JH ta tb):=by
 intro pins s σ H Q I h
 refine BoolOp_or (thn (ha pins s σ H _ I h) fun v s1 ⟨x,H1,I1,r1,q1⟩=>?_)
 obtain⟨c,rfl,q1⟩:=q1
 cases r1
 refine wpAny_truthy_bool ?_
 cases c with
 | false=>exact hb pins s1 σ H1 Q I1 q1
 | true=>exact⟨.bl true,H1,I1,rfl,q1⟩
theorem IR (ha:PE X a ta):PE X (.UnaryOp .Not a pos) (Gv ta):=by
 intro pins s σ H Q I h
 refine UnaryOp_ (thn (ha pins s σ H _ I h) fun v s1 ⟨x,H1,I1,r1,q1⟩=>?_)
 obtain⟨c,rfl,q1⟩:=q1
 cases r1
 exact not_of (wpAny_truthy_bool ⟨.bl (!c),H1,I1,rfl,q1⟩)
end
def SqL (K:PySem.W.Frag) (H:Hp) (a:Addr) (xs:List V):Prop :=
 Rd H a (.lst xs) ∨
  ∃ (o:Obj) (its:Array Value) (n:Nat),K.lookup a=some o∧o.cls=.type "list"∧o.dict=none∧o.data=.seq its n∧its.size≤sizeLine∧Vals xs its.toList
def SqT (K:PySem.W.Frag) (H:Hp) (a:Addr) (xs:List V):Prop :=
 Rd H a (.tup xs) ∨
  ∃ (o:Obj) (its:Array Value) (n:Nat),K.lookup a=some o∧o.cls=.type "tuple"∧o.data=.seq its n∧its.size≤sizeLine∧Vals xs its.toList
def J9:Value→Option V
 | .none=>some .non
 | .bool b=>some (.bl b)
 | .int i _=>some (.int i)
 | .str x _=>some (.str x)
 | .bytes b _=>some (.byt b)
 | .float b _=>some (.flt b)
 | .ref a=>some (.ref a)
 | .type n=>some (.ty n)
 | _=>none
theorem RelV.abs {x:V} {u:Value} (r:RelV x u):J9 u=some x:=by
 cases x with
 | non=>cases r; rfl
 | bl _=>cases r; rfl
 | int _=>obtain⟨t,rfl⟩:=r; rfl
 | str _=>obtain⟨t,rfl⟩:=r; rfl
 | byt _=>obtain⟨t,rfl⟩:=r; rfl
 | flt _=>obtain⟨t,rfl⟩:=r; rfl
 | ref _=>cases r; rfl
 | ty _=>cases r; rfl
theorem RelV.inj {x y:V} {u:Value} (r:RelV x u) (q:RelV y u):x=y:=Option.some.inj (r.abs.symm.trans q.abs)
theorem Vals.inj:∀ {xs ys:List V} {us:List Value},Vals xs us→Vals ys us→xs=ys
 | _,_,_,.nil,.nil=>rfl
 | _,_,_,.cons r t,.cons r' t'=>by rw[r.inj r',Vals.inj t t']
section
variable {X:Cx} {pins:List (Addr×Obj)} {σ:St} {H:Hp} {s:Shared} {a:Addr} {xs ys:List V}
theorem SqL.of {K:PySem.W.Frag} (h:H a=some (.lst xs)):SqL K H a xs:=.inl (.inl h)
theorem SqT.of {K:PySem.W.Frag} (h:H a=some (.tup xs)):SqT K H a xs:=.inl (.inl h)
theorem Inv.list (I:Inv X pins σ H s) (h:SqL X.K H a xs):∃ its:List Value,Vals xs its∧PlainL s.heap a its.toArray∧xs.length≤sizeLine:=by
 rcases h with h | ⟨o,its,n,hk,hc,hd,hs,hz,r⟩
 ·obtain⟨z,its,n,r,e⟩:=h.ok I.hok
  exact⟨its,r,⟨_,n,e,rfl,rfl,rfl⟩,z⟩
 ·refine⟨its.toList,r,⟨o,n,I.kIn a o hk,hc,hd,by simpa using hs⟩,?_⟩
  have e:=r.length
  simp only [Array.length_toList] at e
  omega
theorem Inv.tuple (I:Inv X pins σ H s) (h:SqT X.K H a xs):∃ its:List Value,Vals xs its∧IsTup s.heap a its.toArray∧xs.length≤sizeLine:=by
 rcases h with h | ⟨o,its,n,hk,hc,hs,hz,r⟩
 ·obtain⟨z,its,r,p,_⟩:=h.ok I.hok
  exact⟨its,r,p,z⟩
 ·refine⟨its.toList,r,⟨o,I.kIn a o hk,hc,n,by simpa using hs⟩,?_⟩
  have e:=r.length
  simp only [Array.length_toList] at e
  omega
theorem Inv.list_inj (I:Inv X pins σ H s) (h:SqL X.K H a xs) (h':SqL X.K H a ys):xs=ys:=by
 obtain⟨its,r,⟨o,n,e,_,_,d⟩,_⟩:=I.list h
 obtain⟨its',r',⟨o',n',e',_,_,d'⟩,_⟩:=I.list h'
 rw[e] at e'; cases e'
 rw[d] at d'
 injection d' with d1 _
 have:its=its':=by simpa using congrArg Array.toList d1
 subst this
 exact r.inj r'
theorem Inv.tuple_inj (I:Inv X pins σ H s) (h:SqT X.K H a xs) (h':SqT X.K H a ys):xs=ys:=by
 obtain⟨its,r,⟨o,e,_,n,d⟩,_⟩:=I.tuple h
 obtain⟨its',r',⟨o',e',_,n',d'⟩,_⟩:=I.tuple h'
 rw[e] at e'; cases e'
 rw[d] at d'
 injection d' with d1 _
 have:its=its':=by simpa using congrArg Array.toList d1
 subst this
 exact r.inj r'
end
abbrev Cx.wish (X:Cx) (E:Value→Shared→Prop):Cx:={ X with xe:=E }
abbrev Cx.nox (X:Cx):Cx:=X.wish fun _ _=>False
theorem Cx.Ok.wish {X:Cx} (ok:X.Ok) (E:Value→Shared→Prop):(X.wish E).Ok :=
 ⟨ok.mod,ok.kind,ok.glob,ok.blt,ok.above,ok.inj,ok.has,ok.cab,ok.hd,ok.frames,ok.stk,ok.exf,ok.bs,ok.bsz,ok.noex,ok.exfs,ok.funs,ok.frf⟩
theorem Cx.Ok.unwish {X:Cx} {E:Value→Shared→Prop} (ok:(X.wish E).Ok):X.Ok :=
 ⟨ok.mod,ok.kind,ok.glob,ok.blt,ok.above,ok.inj,ok.has,ok.cab,ok.hd,ok.frames,ok.stk,ok.exf,ok.bs,ok.bsz,ok.noex,ok.exfs,ok.funs,ok.frf⟩
section
variable {X:Cx} {pins:List (Addr×Obj)} {σ:St} {H:Hp} {s:Shared} {E:Value→Shared→Prop}
theorem Inv.wish (I:Inv X pins σ H s) (E:Value→Shared→Prop):Inv (X.wish E) pins σ H s:=⟨I.ok.wish E,I.os,I.bare,I.base,I.loc,I.cell,I.free,I.freeC,I.pin,I.hok,I.len⟩
theorem Inv.unwish (I:Inv (X.wish E) pins σ H s):Inv X pins σ H s:=⟨I.ok.unwish,I.os,I.bare,I.base,I.loc,I.cell,I.free,I.freeC,I.pin,I.hok,I.len⟩
theorem SP.unwish {D:Ends} {f:Flow} {s':Shared} (h:SP (X.wish E) pins D f s'):SP X pins D f s':=by
 cases f with
 | next=>obtain⟨σ',H',I,q⟩:=h; exact⟨σ',H',I.unwish,q⟩
 | brk=>obtain⟨σ',H',I,q⟩:=h; exact⟨σ',H',I.unwish,q⟩
 | cont=>obtain⟨σ',H',I,q⟩:=h; exact⟨σ',H',I.unwish,q⟩
 | ret u=>obtain⟨v,σ',H',I,r,q⟩:=h; exact⟨v,σ',H',I.unwish,r,q⟩
theorem PSs.nox {st:List Stmt} {t:TS} (h:PSs X.nox st t):PSs X st t:=fun pins s σ H D I hw =>
 wpAny_mono (h pins s σ H D (I.wish _) hw) (fun _ _ q=>q.unwish) fun _ _ z=>False.elim z
end
section
variable {X:Cx} {st:Stmt} {rest:List Stmt} {t u:TS} {e:Expr} {te:TE} {pos:Pos}
def GF:TS:=fun D σ H=>D.nx σ H
def uV (t u:TS):TS:=fun D σ H=>t { D with nx:=u D } σ H
theorem m8:PSs X [] GF:=fun _ _ σ H _ I h=>wpAny_execs_nil ⟨σ,H,I,h⟩
theorem dI (h1:PS X st t) (h2:PSs X rest u):PSs X (st::rest) (uV t u):=by
 intro pins s σ H D I h
 refine wpAny_execs_cons (thn (h1 pins s σ H { D with nx:=u D } I h) fun f s1 q=>?_)
 cases f with
 | next =>
  obtain⟨σ',H',I',q⟩:=q
  exact h2 pins s1 σ' H' D I' q
 | ret v=>exact q
 | brk=>exact q
 | cont=>exact q
theorem eF (h1:PS X st t):PSs X [st] t:=by
 intro pins s σ H D I h
 refine wpAny_execs_cons (thn (h1 pins s σ H D I h) fun f s1 q=>?_)
 cases f with
 | next=>exact wpAny_execs_nil q
 | ret v=>exact q
 | brk=>exact q
 | cont=>exact q
theorem Inv.quiet {pins:List (Addr×Obj)} {σ:St} {H:Hp} {s:Shared} (I:Inv X pins σ H s):interactive X.env=false:=by simp [interactive,I.ok.kind]
def GP (te:TE):TS:=fun D σ H=>te σ H fun _ H1=>D.nx σ H1
theorem r8 (he:PE X e te) (hs:swapsWith e none pos.line X.env=pure false:=by rfl):PS X (.Expr e pos) (GP te):=by
 intro pins s σ H D I h
 exact wpAny_Expr_any (thn (he pins s σ H _ I h) fun v s1 ⟨x,H1,I1,r1,q1⟩=>⟨σ,H1,I1,q1⟩) I.quiet hs
def Jl (te:TE):TS:=fun D σ H=>te σ H D.rt
theorem ia (he:PE X e te):PS X (.Return (some e) pos) (Jl te):=by
 intro pins s σ H D I h
 exact wpAny_Return_some (thn (he pins s σ H _ I h) fun v s1 ⟨x,H1,I1,r1,q1⟩=>⟨x,σ,H1,I1,r1,q1⟩)
def Ji (c:TT) (t u:TS):TS:=fun D σ H=>c σ H fun b H1=>if b=true then t D σ H1 else u D σ H1
theorem nC {c:Expr} {a b:List Stmt} {tc:TT} (hc:PT X c tc) (ha:PSs X a t) (hb:PSs X b u):PS X (.If c a b pos) (Ji tc t u):=by
 intro pins s σ H D I h
 refine wpAny_If (thn (hc pins s σ H _ I h) fun d s1 ⟨H1,I1,q1⟩=>?_)
 cases d with
 | true=>exact ha pins s1 σ H1 D I1 q1
 | false=>exact hb pins s1 σ H1 D I1 q1
end
abbrev TG:=V→St→Hp→(St→Hp→Prop)→Prop
abbrev TGs:=List V→St→Hp→(St→Hp→Prop)→Prop
def PG (X:Cx) (target:Expr) (t:TG):Prop :=
 ∀ (pins:List (Addr×Obj)) (s:Shared) (σ:St) (H:Hp) (v:V) (u:Value) (Q:St→Hp→Prop),Inv X pins σ H s→RelV v u→t v σ H Q →
  wpAny (model X.prog X.w) X.A (assign target X.env u) (fun _ s'=>∃ σ' H',Inv X pins σ' H' s'∧Q σ' H') X.xe s
def PGs (X:Cx) (ts:List Expr) (t:TGs):Prop :=
 ∀ (pins:List (Addr×Obj)) (s:Shared) (σ:St) (H:Hp) (vs:List V) (us:List Value) (Q:St→Hp→Prop),Inv X pins σ H s→Vals vs us→t vs σ H Q →
  wpAny (model X.prog X.w) X.A (assignInOrder ((assignEach ts X.env).map (·.2)) us) (fun _ s'=>∃ σ' H',Inv X pins σ' H' s'∧Q σ' H') X.xe s
abbrev AC:=V→V→V→Hp→(Hp→Prop)→Prop
def Fq (X:Cx) (t:AC):Prop :=
 ∀ (pins:List (Addr×Obj)) (s:Shared) (σ:St) (H:Hp) (o i v:V) (ov iv u:Value) (Q:Hp→Prop),Inv X pins σ H s→RelV o ov→RelV i iv→RelV v u→t o i v H Q →
  wpAny (model X.prog X.w) X.A (setItem ov iv u) (fun _ s'=>∃ H',Inv X pins σ H' s'∧Q H') X.xe s
abbrev TIp:=V→V→Hp→VK→Prop
def PIp (X:Cx) (op:Operator) (t:TIp):Prop :=
 ∀ (pins:List (Addr×Obj)) (s:Shared) (σ:St) (H:Hp) (x y:V) (v u:Value) (Q:VK),Inv X pins σ H s→RelV x v→RelV y u→t x y H Q →
  wpAny (model X.prog X.w) X.A (inplaceOp op v u) (EP X pins σ Q) X.xe s
section
variable {X:Cx} {pos:Pos}
def vW (i:Nat):TG:=fun v σ H Q=>Q (σ.set i (some v)) H
theorem fj {i:Nat} {x:Str} (hN:X.N.Nodup) (hi:X.N[i]?=some x) (hx:Loc X.env.scope x) (hf:X.fn x=true∨X.env.scope.names.lookup x=some .local:=by first | exact .inl rfl | exact .inr rfl | assumption):PG X (.Name x pos) (vW i):=by
 intro pins s σ H v u Q I r h
 exact wpAny_assign_Name (xX I hN hi hx r (fun s' I'=>⟨_,H,I',h⟩) hf)
def Ig:TGs:=fun vs σ H Q=>vs=[]∧Q σ H
def Gs (t:TG) (u:TGs):TGs:=fun vs σ H Q=>∃ v r,vs=v::r∧t v σ H fun σ' H'=>u r σ' H' Q
theorem oW:PGs X [] Ig:=by
 intro pins s σ H vs us Q I r h
 obtain⟨e,h⟩:=h
 subst e
 cases r
 exact assignInOrder_nil ⟨σ,H,I,h⟩
theorem gS {e:Expr} {es:List Expr} {t:TG} {u:TGs} (h1:PG X e t) (h2:PGs X es u)
  (hs:(assignEach (e::es) X.env).map (·.2)=assign e X.env::(assignEach es X.env).map (·.2):=by rfl):PGs X (e::es) (Gs t u):=by
 intro pins s σ H vs us Q I r h
 obtain⟨v,vr,e1,h⟩:=h
 subst e1
 cases r with
 | cons r rr =>
  rw[hs]
  refine assignInOrder_cons (thn (h1 pins s σ H _ _ _ I r h) fun _ s1 ⟨σ1,H1,I1,q1⟩=>?_)
  exact h2 pins s1 σ1 H1 _ _ Q I1 rr q1
def E2 (K:PySem.W.Frag) (n:Nat) (t:TGs):TG:=fun v σ H Q=>∃ a xs,v=.ref a∧SqT K H a xs∧xs.length=n∧t xs σ H Q
theorem uP {es:List Expr} {k:Nat} {t:TGs} {n:Nat} (hc:X.calm=true) (h:PGs X es t)
  (hn:(assignEach es X.env).length=n:=by rfl) (hst:(assignEach es X.env).findIdx? (·.1)=none:=by rfl):PG X (.Tuple es k pos) (E2 X.K n t):=by
 intro pins s σ H v u Q I r hw
 obtain⟨a,xs,e1,hq,hl,hw⟩:=hw
 subst e1
 cases r
 obtain⟨its,rv,ht,hz⟩:=I.tuple hq
 refine assign_Tuple_tuple (I.ok.hd hc) ht (by simp [hn,← hl,rv.length]) hst fun h' hx=>?_
 have I1:Inv X pins σ H { s with heap:=h' }:=I.kept (t':=s.toks) fun b o e=>hx b o (Nat.ne_of_lt (Heap.lt_size e)) e
 exact h pins _ σ H xs _ Q I1 (by simpa using rv) hw
def Jt (to ti:TE) (t:AC):TG:=fun v σ H Q=>to σ H fun o H1=>ti σ H1 fun i H2=>t o i v H2 fun H3=>Q σ H3
theorem Ab {o i:Expr} {to ti:TE} {t:AC} (ho:PE X o to) (hi:PE X i ti) (hs:Fq X t)
  (ha:∀ v,assign (.Subscript o i pos) X.env v=(do
   let ov ← holding [v] (eval o X.env)
   let iv ← holding [v,ov] (eval i X.env)
   standAt pos
   holding [v,ov,iv] (setItem ov iv v)
   release [v,ov,iv] []):=by intro _; rfl):PG X (.Subscript o i pos) (Jt to ti t):=by
 intro pins s σ H v u Q I r h
 rw[ha]
 refine wpAny_bind (wpAny_holding (thn (ho pins s σ H _ I h) fun ov s1 ⟨x,H1,I1,r1,q1⟩=>?_))
 refine wpAny_bind (wpAny_holding (thn (hi pins s1 σ H1 _ I1 q1) fun iv s2 ⟨y,H2,I2,r2,q2⟩=>?_))
 refine wpAny_bind (wpAny_standAt (wpAny_bind (wpAny_holding (thn (hs pins s2 σ H2 x y v ov iv u _ I2 r1 r2 r q2) fun _ s3 ⟨H3,I3,q3⟩=>?_))))
 exact wpAny_release ⟨σ,H3,I3,q3⟩
def Dw (te:TE) (g:TG):TS:=fun D σ H=>te σ H fun x H1=>g x σ H1 D.nx
theorem wc {tg e:Expr} {te:TE} {g:TG} (he:PE X e te) (hg:PG X tg g) (hs:swapsWithSole [tg] e pos.line X.env=pure false:=by rfl) (hw:swappedStores [tg] e X.env=pure none:=by rfl)
  (h1:(assignEach [tg] X.env).map (·.2)=[assign tg X.env]:=by rfl):PS X (.Assign [tg] e pos) (Dw te g):=by
 intro pins s σ H D I h
 refine wpAny_Assign_stores (thn (he pins s σ H _ I h) fun v s1 ⟨x,H1,I1,r1,q1⟩=>?_) hs hw
 rw[h1]
 exact thn (hg pins s1 σ H1 x v _ I1 r1 q1) fun _ s2 q=>q
theorem ic {i:Nat} {x:Str} {e:Expr} {te:TE} {pos':Pos} (hN:X.N.Nodup) (hi:X.N[i]?=some x) (hx:Loc X.env.scope x) (he:PE X e te) (hs:swapsWith e (some (.Name x pos')) pos.line X.env=pure false:=by rfl) (hf:X.fn x=true∨X.env.scope.names.lookup x=some .local:=by first | exact .inl rfl | exact .inr rfl | assumption) :
  PS X (.Assign [.Name x pos'] e pos) (Dw te (vW i)):=by
 intro pins s σ H D I h
 refine wpAny_Assign_Name (thn (he pins s σ H _ I h) fun v s1 ⟨y,H1,I1,r1,q1⟩=>?_) hs
 exact xX I1 hN hi hx r1 (fun s2 I2=>⟨_,H1,I2,q1⟩) hf
def Jk (i:Nat) (te:TE) (ti:TIp):TS:=fun D σ H=>∃ x,σ[i]?=some (some x)∧te σ H fun y H1=>ti x y H1 fun z H2=>D.nx (σ.set i (some z)) H2
theorem DJ {i:Nat} {x:Str} {e:Expr} {te:TE} {op:Operator} {ti:TIp} {pos':Pos} (hN:X.N.Nodup) (hi:X.N[i]?=some x) (hx:Loc X.env.scope x) (he:PE X e te) (ho:PIp X op ti) (hf:X.fn x=true∨X.env.scope.names.lookup x=some .local:=by first | exact .inl rfl | exact .inr rfl | assumption) :
  PS X (.AugAssign (.Name x pos') op e pos) (Jk i te ti):=by
 intro pins s σ H D I h
 obtain⟨v,e1,h⟩:=h
 obtain⟨m,hn,hl⟩:=I.loc
 have vis:Vis X.env.scope x:=by rcases hx with k | k; exact .inl k; exact .inr (.inl k)
 obtain⟨u,r,l⟩:=hl i x v hi e1 vis
 refine wpAny_AugAssign_Name ?_
 have go:wpAny (model X.prog X.w) X.A (eval e X.env) (fun w s₂=>wpAny (model X.prog X.w) X.A (inplaceOp op u w) (fun r s₃=>wpAny (model X.prog X.w) X.A (storeName X.env x r) (fun _=>SP X pins D .next) X.xe s₃) X.xe s₂) X.xe s:=by
  refine thn (he pins s σ H _ I h) fun w s1 ⟨y,H1,I1,r1,q1⟩=>?_
  refine thn (ho pins s1 σ H1 v y u w _ I1 r r1 q1) fun z s2 ⟨zv,H2,I2,r2,q2⟩=>?_
  exact xX I2 hN hi hx r2 (fun s3 I3=>⟨_,H2,I3,q2⟩) hf
 rcases l with ⟨hk,hm⟩ | ⟨hk,c,hc,hcell⟩
 ·exact wpAny_loadName_local I.ok.kind hk hn hm go
 ·rcases hk with hk | hk
  ·exact wpAny_loadName_cell I.ok.kind hk hc hcell go
  ·rcases hx with k | k
   ·have:X.env.scope.names.lookup x=some .free:=hk
    rw[k] at this; cases this
   ·have:X.env.scope.names.lookup x=some .free:=hk
    rw[k] at this; cases this
def GJ (to ti te:TE) (tget:V→V→Hp→VK→Prop) (tip:TIp) (tset:AC):TS:=fun D σ H=>to σ H fun o H1=>ti σ H1 fun i H2=>tget o i H2 fun x H3=>te σ H3 fun y H4=>tip x y H4 fun z H5=>tset o i z H5 fun H6=>D.nx σ H6
def Ih (X:Cx) (t:V→V→Hp→VK→Prop):Prop :=
 ∀ (pins:List (Addr×Obj)) (s:Shared) (σ:St) (H:Hp) (o i:V) (ov iv:Value) (Q:VK),Inv X pins σ H s→RelV o ov→RelV i iv→t o i H Q →
  wpAny (model X.prog X.w) X.A (getItem ov iv) (EP X pins σ Q) X.xe s
theorem yQ {o i e:Expr} {to ti te:TE} {tget:V→V→Hp→VK→Prop} {tip:TIp} {tset:AC} {op:Operator} {tpos:Pos} (ho:PE X o to) (hi:PE X i ti) (hg:Ih X tget) (he:PE X e te) (hp:PIp X op tip) (hs:Fq X tset)
  (ha:∀ ov iv new,augStore i ov iv new=(do holding [new,ov,iv] (setItem ov iv new); release [new,ov,iv] []; pure .next):=by intros; rfl):PS X (.AugAssign (.Subscript o i tpos) op e pos) (GJ to ti te tget tip tset):=by
 intro pins s σ H D I h
 refine wpAny_AugAssign_SubscriptAny (thn (ho pins s σ H _ I h) fun ov s1 ⟨x1,H1,I1,r1,q1⟩=>?_) ha
 refine thn (hi pins s1 σ H1 _ I1 q1) fun iv s2 ⟨x2,H2,I2,r2,q2⟩=>?_
 refine thn (hg pins s2 σ H2 x1 x2 ov iv _ I2 r1 r2 q2) fun old s3 ⟨x3,H3,I3,r3,q3⟩=>?_
 refine thn (he pins s3 σ H3 _ I3 q3) fun v s4 ⟨x4,H4,I4,r4,q4⟩=>?_
 refine thn (hp pins s4 σ H4 x3 x4 old v _ I4 r3 r4 q4) fun new s5 ⟨x5,H5,I5,r5,q5⟩=>?_
 exact thn (hs pins s5 σ H5 x1 x2 x5 ov iv new _ I5 r1 r2 r5 q5) fun _ s6 ⟨H6,I6,q6⟩=>⟨σ,H6,I6,q6⟩
def ipI (f:Int→Int→Int):TIp:=fun x y H Q=>∃ i j,x=.int i∧y=.int j∧Q (.int (f i j)) H
theorem EZ:PIp X .Add (ipI fun i j=>i+j):=by
 intro pins s σ H x y v u Q I r1 r2 h
 obtain⟨i,j,e1,e2,q⟩:=h
 subst e1; subst e2
 obtain⟨t,rfl⟩:=r1
 obtain⟨t',rfl⟩:=r2
 exact iadd_int ⟨.int _,H,I.tok _,⟨_,rfl⟩,q⟩
theorem AJ:PIp X .Sub (ipI fun i j=>i-j):=by
 intro pins s σ H x y v u Q I r1 r2 h
 obtain⟨i,j,e1,e2,q⟩:=h
 subst e1; subst e2
 obtain⟨t,rfl⟩:=r1
 obtain⟨t',rfl⟩:=r2
 exact isub_int ⟨.int _,H,I.tok _,⟨_,rfl⟩,q⟩
end
section
variable {X:Cx} {pos:Pos}
def I0 (c:TT) (tb:TS):TS:=fun D σ H=>∃ W:Nat→St→Hp→Prop,(∃ m,W m σ H)∧∀ m σ H,W m σ H →
 c σ H fun b H1=>if b=true then ∃ N:St→Hp→Prop,(∀ σ' H',N σ' H'→∃ m',m'<m∧W m' σ' H')∧tb { D with nx:=N,ct:=N,bk:=D.nx } σ H1 else D.nx σ H1
theorem xP {c:Expr} {body:List Stmt} {tc:TT} {tb:TS} (hp:PassesOwn (model X.prog X.w) X.A X.env X.xe) (hc:PT X c tc) (hb:PSs X body tb):PS X (.While c body [] pos) (I0 tc tb):=by
 intro pins s σ H D I h
 obtain⟨W,⟨m0,w0⟩,turn⟩:=h
 refine wpAny_While (codeAny_whileLoop (fun n s'=>∃ σ' H',Inv X pins σ' H' s'∧W n σ' H') ?_ m0 ⟨σ,H,I,w0⟩)
 rintro n s1 ⟨σ1,H1,I1,w1⟩
 refine wpAny_passesOwn hp (thn (hc pins s1 σ1 H1 _ I1 (turn n σ1 H1 w1)) fun b s2 ⟨H2,I2,q2⟩=>?_)
 cases b with
 | true =>
  obtain⟨N,hN,q2⟩:=q2
  rw[if_pos rfl]
  refine wpAny_passesOwn hp (thn (hb pins s2 σ1 H2 _ I2 q2) fun f s3 q3=>?_)
  cases f with
  | next =>
   obtain⟨σ3,H3,I3,n3⟩:=q3
   obtain⟨m',hm,w3⟩:=hN σ3 H3 n3
   exact⟨m',hm,σ3,H3,I3,w3⟩
  | cont =>
   obtain⟨σ3,H3,I3,n3⟩:=q3
   obtain⟨m',hm,w3⟩:=hN σ3 H3 n3
   exact⟨m',hm,σ3,H3,I3,w3⟩
  | brk=>exact q3
  | ret v=>exact q3
 | false =>
  rw[if_neg Bool.false_ne_true]
  exact wpAny_execs_nil ⟨σ1,H2,I2,q2⟩
end
structure It where
 go:Nat→Hp→Prop
 yld:Nat→Hp→V→Hp→Prop
 stop:Nat→Hp→Prop
def FpOk (X:Cx) (pins:List (Addr×Obj)) (H:Hp) (b:Addr):Prop :=
 H b=none∧b≠X.env.locals∧b ∉ X.fs∧(b∈X.ex∨X.s₀.heap.objs.size≤b)∧(∀ x c,X.env.cells.lookup x=some c→c≠b)∧∀ p∈X.pn++pins,p.1≠b
theorem Inv.fpOk {X:Cx} {pins:List (Addr×Obj)} {σ:St} {H H':Hp} {s:Shared} {b:Addr} (I:Inv X pins σ H s) (hb:s.heap.objs.size≤b) (hn:H' b=none):FpOk X pins H' b:=by
 refine⟨hn,Nat.ne_of_gt (Nat.lt_of_lt_of_le I.lt hb),I.nofs hb,.inr (Nat.le_trans I.sz hb),fun x c e z=>?_,fun p hp z=>?_⟩
 ·obtain⟨v,q⟩:=I.cell x c e
  exact absurd (Nat.lt_of_lt_of_le q.lt (by rw[z]; exact hb)) (Nat.lt_irrefl _)
 ·exact absurd (Nat.lt_of_lt_of_le (Heap.lt_size (I.pin p hp).1) (by rw[z]; exact hb)) (Nat.lt_irrefl _)
structure Turn (P:Program) (w:World) (K:PySem.W.Frag) (tg:Expr) (J:It) (fp:List Addr) (it:Addr) (tn:Nat→Heap→Prop):Prop where
 mem:it∈fp
 obj:∀ i h,tn i h→∀ b∈fp,∃ o,h.get? b=some o∧∀ v,o.data≠.cell v
 keep:∀ i h h',tn i h→(∀ b∈fp,∀ o,h.get? b=some o→h'.get? b=some o)→tn i h'
 item:∀ (X:Cx),X.prog=P→X.w=w→X.K=K→X.calm=true→∀ (i:Nat) (pins:List (Addr×Obj)) (s:Shared) (σ:St) (H:Hp) (E:Value→Shared→Prop),Inv X pins σ H s→(∀ b∈fp,FpOk X pins H b)→tn i s.heap→J.go i H →
  wpAny (model P w) X.A (pyNext (.ref it)) (fun r s1=>∃ u,r=some u ∧
   wpAny (model P w) X.A (letOwnedTupleGo tg (.ref it) u) (fun _ s2=>∃ x H',Inv X pins σ H' s2∧RelV x u∧J.yld i H x H'∧tn (i+1) s2.heap∧∀ b∈fp,H' b=none) E s1) E s
 done:∀ (X:Cx),X.prog=P→X.w=w→X.K=K→X.calm=true→∀ (i:Nat) (pins:List (Addr×Obj)) (s:Shared) (σ:St) (H:Hp) (E:Value→Shared→Prop),Inv X pins σ H s→(∀ b∈fp,FpOk X pins H b)→tn i s.heap→J.stop i H →
  wpAny (model P w) X.A (pyNext (.ref it)) (fun r s1=>r=none∧Inv X pins σ H s1) E s
 self:∀ (A:Around) (i:Nat) (s:Shared) (Q:Value→Shared→Prop) (E:Value→Shared→Prop),tn i s.heap→Q (.ref it) s→wpAny (model P w) A (pyIter (.ref it)) Q E s
abbrev TI:=St→Hp→(It→Hp→Prop)→Prop
def PIE (X:Cx) (pins:List (Addr×Obj)) (σ:St) (tg:Expr) (R:It→Hp→Prop) (itv:Value) (s2:Shared):Prop :=
 ∃ (it:Addr) (fp:List Addr) (tn:Nat→Heap→Prop) (J:It) (H':Hp),itv=.ref it∧Inv X pins σ H' s2∧Turn X.prog X.w X.K tg J fp it tn∧tn 0 s2.heap∧(∀ b∈fp,FpOk X pins H' b)∧R J H'
def PI (X:Cx) (tg iter:Expr) (wi:TI):Prop :=
 ∀ (pins:List (Addr×Obj)) (s:Shared) (σ:St) (H:Hp) (R:It→Hp→Prop),Inv X pins σ H s→wi σ H R →
  wpAny (model X.prog X.w) X.A (eval iter X.env) (fun v s1=>wpAny (model X.prog X.w) X.A (pyIter v) (PIE X pins σ tg R) X.xe s1) X.xe s
theorem zK {M:Model} {A:Around} {E:Value→Shared→Prop} {s:Shared} {tg:Expr} {it:Addr} {u:Value} {o:Obj} {n:String} {vs:Array Value} {Q:Unit→Shared→Prop} (ho:s.heap.get? it=some o) (hc:o.cls=.type n) (hd:o.data=.fields vs)
    (hn:["enumerate","zip","dict_itemiterator","dict_reverseitemiterator","odict_iterator","itertools.zip_longest","itertools.pairwise"].contains n=false) (hQ:Q () s):wpAny M A (letOwnedTupleGo tg (.ref it) u) Q E s:=by
  unfold letOwnedTupleGo
  cases tg <;> first
    | exact wpAny_pure hQ
    | (cases u <;> first
        | exact wpAny_pure hQ
        | (refine wpAny_bind (wpAny_load ho ?_)
           rw[hc,hd]
           show wpAny M A (if (["enumerate","zip","dict_itemiterator","dict_reverseitemiterator","odict_iterator","itertools.zip_longest","itertools.pairwise"].contains n && vs[0]? == some (rawInt _))=true then _ else _) Q E s
           rw[if_neg (by intro h; rw[hn,Bool.false_and] at h; cases h)]
           exact wpAny_pure hQ))
def Itl (K:PySem.W.Frag) (a:Addr):It :=
 ⟨fun i H=>∃ xs x,SqL K H a xs∧xs[i]?=some x,fun i H x H'=>H'=H∧∀ xs,SqL K H a xs→xs[i]?=some x,fun i H=>∃ xs,SqL K H a xs∧xs.length≤i⟩
def Itt (K:PySem.W.Frag) (a:Addr):It :=
 ⟨fun i H=>∃ xs x,SqT K H a xs∧xs[i]?=some x,fun i H x H'=>H'=H∧∀ xs,SqT K H a xs→xs[i]?=some x,fun i H=>∃ xs,SqT K H a xs∧xs.length≤i⟩
def Itr (lo:Int) (n:Nat):It:=⟨fun i _=>i<n,fun i H x H'=>H'=H∧x=.int (lo+i),fun i _=>n≤i⟩
theorem EB {P:Program} {w:World} {K:PySem.W.Frag} {tg:Expr} (a it:Addr):Turn P w K tg (Itl K a) [it] it (fun i h=>h.IsListIter it a i) where
 mem:=by simp
 obj:=fun i h st b hb=>by
  have e:b=it:=by simpa using hb
  subst e
  obtain⟨o,e,c,d⟩:=st
  exact⟨o,e,fun v z=>by rw[d] at z; cases z⟩
 keep:=fun i h h' st k=>st.at fun o e=>k it (by simp) o e
 item:=by
  intro X hP hw hK hc i pins s σ H E I hf st hg
  subst hP hw hK
  obtain⟨xs,x,hq,hx⟩:=hg
  obtain⟨its,rv,p,hz⟩:=I.list hq
  obtain⟨u,hu,ru⟩:=rv.get hx
  obtain⟨f0,f1,f2,f3,f4,f5⟩:=hf it (by simp)
  refine wpAny_pyNext_list_item st p.isList (x:=u) (by simpa using hu) fun h' st' sb=>?_
  have I1:Inv X pins σ H { s with heap:=h' }:=I.turned (t':=s.toks) (fun b o hb e=>(sb.2 b hb).trans e) f0 f1 f3 f4 f5
  obtain⟨o,e,c,d⟩:=id st'
  exact⟨u,rfl,zK (s:={ s with heap:=h' }) e c d (by decide) ⟨x,H,I1,ru,⟨rfl,fun ys hy=>by rw[I.list_inj hy hq]; exact hx⟩,st',fun b hb=>(hf b hb).1⟩⟩
 done:=by
  intro X hP hw hK hc i pins s σ H E I hf st hg
  subst hP hw hK
  obtain⟨xs,hq,hx⟩:=hg
  obtain⟨its,rv,p,hz⟩:=I.list hq
  obtain⟨f0,f1,f2,f3,f4,f5⟩:=hf it (by simp)
  have hl:=rv.length
  exact wpAny_pyNext_list_end (I.ok.hd hc) st p.isList (by simp; omega) fun h' eb=>⟨rfl,I.turned (t':=s.toks) (fun b o hb e=>eb b o hb e) f0 f1 f3 f4 f5⟩
 self:=fun _ _ _ _ _ st h=>wpAny_pyIter_listiter st h
theorem CC {P:Program} {w:World} {K:PySem.W.Frag} {tg:Expr} (a it:Addr):Turn P w K tg (Itt K a) [it] it (fun i h=>h.IsTupleIter it a i) where
 mem:=by simp
 obj:=fun i h st b hb=>by
  have e:b=it:=by simpa using hb
  subst e
  obtain⟨o,e,c,d⟩:=st
  exact⟨o,e,fun v z=>by rw[d] at z; cases z⟩
 keep:=fun i h h' st k=>st.at fun o e=>k it (by simp) o e
 item:=by
  intro X hP hw hK hc i pins s σ H E I hf st hg
  subst hP hw hK
  obtain⟨xs,x,hq,hx⟩:=hg
  obtain⟨its,rv,p,hz⟩:=I.tuple hq
  obtain⟨u,hu,ru⟩:=rv.get hx
  obtain⟨f0,f1,f2,f3,f4,f5⟩:=hf it (by simp)
  refine wpAny_pyNext_tuple_item st (show s.heap.IsTuple a its.toArray from p) (x:=u) (by simpa using hu) fun h' st' sb=>?_
  have I1:Inv X pins σ H { s with heap:=h' }:=I.turned (t':=s.toks) (fun b o hb e=>(sb.2 b hb).trans e) f0 f1 f3 f4 f5
  obtain⟨o,e,c,d⟩:=id st'
  exact⟨u,rfl,zK (s:={ s with heap:=h' }) e c d (by decide) ⟨x,H,I1,ru,⟨rfl,fun ys hy=>by rw[I.tuple_inj hy hq]; exact hx⟩,st',fun b hb=>(hf b hb).1⟩⟩
 done:=by
  intro X hP hw hK hc i pins s σ H E I hf st hg
  subst hP hw hK
  obtain⟨xs,hq,hx⟩:=hg
  obtain⟨its,rv,p,hz⟩:=I.tuple hq
  obtain⟨f0,f1,f2,f3,f4,f5⟩:=hf it (by simp)
  have hl:=rv.length
  exact wpAny_pyNext_tuple_end (I.ok.hd hc) st (show s.heap.IsTuple a its.toArray from p) (by simp; omega) fun h' eb=>⟨rfl,I.turned (t':=s.toks) (fun b o hb e=>eb b o hb e) f0 f1 f3 f4 f5⟩
 self:=fun _ _ _ _ _ st h=>wpAny_pyIter_tupleiter st h
theorem C1 {P:Program} {w:World} {K:PySem.W.Frag} {tg:Expr} (it:Addr) (lo:Int) (n:Nat):Turn P w K tg (Itr lo n) [it] it (fun i h=>IsRangeIter h it (lo+(i:Nat) * 1) ((n:Int)-(i:Nat)) 1) where
 mem:=by simp
 obj:=fun i h st b hb=>by
  have e:b=it:=by simpa using hb
  subst e
  exact⟨_,st,fun v z=>by
   have z':Data.fields _=Data.cell v:=z
   cases z'⟩
 keep:=fun i h h' st k=>k it (by simp) _ st
 item:=by
  intro X hP hw hK hc i pins s σ H E I hf st hg
  subst hP hw hK
  obtain⟨f0,f1,f2,f3,f4,f5⟩:=hf it (by simp)
  have W:=Walks.range (prog:=X.prog) (w:=X.w) (I.ok.hd hc) it lo 1 n
  refine W.item i s _ _ hg st fun v h' tk hv st' kk=>?_
  obtain⟨t,rfl⟩:=hv
  have I1:Inv X pins σ H { s with heap:=h',toks:=tk }:=I.turned (fun b o hb e=>kk b o (by simpa using hb) e) f0 f1 f3 f4 f5
  refine⟨_,rfl,zK (s:={ s with heap:=h',toks:=tk }) (n:="range_iterator") st' rfl rfl (by decide) ⟨.int (lo+i),H,I1,⟨t,?_⟩,⟨rfl,rfl⟩,st',fun b hb=>(hf b hb).1⟩⟩
  rw[Int.mul_one]
 done:=by
  intro X hP hw hK hc i pins s σ H E I hf st hg
  subst hP hw hK
  obtain⟨f0,f1,f2,f3,f4,f5⟩:=hf it (by simp)
  exact wpAny_pyNext_range_end (I.ok.hd hc) st (by have:n≤i:=hg; omega) fun h' eb=>⟨rfl,I.turned (t':=s.toks) (fun b o hb e=>eb b o hb e) f0 f1 f3 f4 f5⟩
 self:=fun _ _ _ _ _ st h=>wpAny_pyIter_rangeiter st h
section
variable {X:Cx} {tg:Expr}
def Gr (K:PySem.W.Frag) (tl:TE):TI:=fun σ H R=>tl σ H fun x H1=>∃ a,x=.ref a∧(∃ xs,SqL K H1 a xs)∧R (Itl K a) H1
def IK (K:PySem.W.Frag) (tl:TE):TI:=fun σ H R=>tl σ H fun x H1=>∃ a,x=.ref a∧(∃ xs,SqT K H1 a xs)∧R (Itt K a) H1
theorem kL {l:Expr} {tl:TE} (hl:PE X l tl):PI X tg l (Gr X.K tl):=by
 intro pins s σ H R I h
 refine thn (hl pins s σ H _ I h) fun v s1 ⟨x,H1,I1,r1,q1⟩=>?_
 obtain⟨a,e,⟨xs,hq⟩,q⟩:=q1
 subst e
 cases r1
 obtain⟨its,rv,p,hz⟩:=I1.list hq
 refine wpAny_pyIter_list p.isList ?_
 refine⟨s1.heap.objs.size,[s1.heap.objs.size],_,_,H1,rfl,I1.kept (t':=s1.toks) fun b o e=>Heap.get?_push_of_some _ e,EB a _,⟨_,Heap.get?_push_size _ rfl,rfl,rfl⟩,fun b hb=>?_,q⟩
 have e:b=s1.heap.objs.size:=by simpa using hb
 subst e
 exact I1.fpOk (Nat.le_refl _) (I1.hok.fresh (Nat.le_refl _))
theorem IC {l:Expr} {tl:TE} (hl:PE X l tl):PI X tg l (IK X.K tl):=by
 intro pins s σ H R I h
 refine thn (hl pins s σ H _ I h) fun v s1 ⟨x,H1,I1,r1,q1⟩=>?_
 obtain⟨a,e,⟨xs,hq⟩,q⟩:=q1
 subst e
 cases r1
 obtain⟨its,rv,p,hz⟩:=I1.tuple hq
 refine wpAny_pyIter_tuple (show s1.heap.IsTuple a its.toArray from p) ?_
 refine⟨s1.heap.objs.size,[s1.heap.objs.size],_,_,H1,rfl,I1.kept (t':=s1.toks) fun b o e=>Heap.get?_push_of_some _ e,CC a _,⟨_,Heap.get?_push_size _ rfl,rfl,rfl⟩,fun b hb=>?_,q⟩
 have e:b=s1.heap.objs.size:=by simpa using hb
 subst e
 exact I1.fpOk (Nat.le_refl _) (I1.hok.fresh (Nat.le_refl _))
theorem E7 {pins:List (Addr×Obj)} {σ:St} {H:Hp} {s:Shared} {R:It→Hp→Prop} {E:Value→Shared→Prop} {lo hi:Int} {t u v:Tok} {tk:Nat} (I:Inv X pins σ H s) (h1:-(2 ^ 62)≤lo) (h2:lo<2 ^ 62) (h3:-(2 ^ 62)≤hi) (h4:hi<2 ^ 62)
  (q:R (Itr lo (hi-lo).toNat) H):wpAny (model X.prog X.w) X.A (pyIter (.ref s.heap.objs.size)) (PIE X pins σ tg R) E { s with heap:=s.heap.push { cls:=.type "range",data:=.fields #[.int lo t,.int hi u,.int 1 v] },toks:=tk }:=by
 refine wpAny_pyIter_range (IsRange.new ..) (small_one h1 h2 h3 h4) ?_
 have I1:Inv X pins σ H { s with heap:=s.heap.push { cls:=.type "range",data:=.fields #[.int lo t,.int hi u,.int 1 v] },toks:=tk }:=I.kept fun b o e=>Heap.get?_push_of_some _ e
 refine⟨(s.heap.push { cls:=.type "range",data:=.fields #[.int lo t,.int hi u,.int 1 v] }).objs.size,[(s.heap.push { cls:=.type "range",data:=.fields #[.int lo t,.int hi u,.int 1 v] }).objs.size],_,_,H,rfl,
  I1.kept (t':=tk) fun b o e=>Heap.get?_push_of_some _ e,C1 _ lo (hi-lo).toNat,?_,fun b hb=>?_,q⟩
 ·have e1:lo+((0:Nat):Int) * 1=lo:=by simp
  have e2:(((hi-lo).toNat:Nat):Int)-((0:Nat):Int)=Builtin.Range.rangeSize lo hi 1:=by rw[rangeSize_one]; split <;> omega
  show IsRangeIter _ _ (lo+((0:Nat):Int) * 1) ((((hi-lo).toNat:Nat):Int)-((0:Nat):Int)) 1
  rw[e1,e2]
  exact Heap.get?_push_size _ rfl
 ·have e:b=(s.heap.push { cls:=.type "range",data:=.fields #[.int lo t,.int hi u,.int 1 v] }).objs.size:=by simpa using hb
  subst e
  exact I1.fpOk (Nat.le_refl _) (I1.hok.fresh (Nat.le_refl _))
def GN (ta:TA):TI:=fun σ H R=>ta σ H fun vs H1=>∃ j:Int,vs=[.int j]∧-(2 ^ 62)≤j∧j<2 ^ 62∧R (Itr 0 j.toNat) H1
theorem sW {a:Expr} {ta:TA} {p pos:Pos} (hg:Gl X "range") (hm:X.mg "range"=none) (ha:PA X [a] ta) (hs:starEach [a] X.env=[(false,eval a X.env)]:=by rfl):PI X tg (.Call (.Name "range" p) [a] [] pos) (GN ta):=by
 intro pins s σ H R I h
 refine Call_ (tX I hg hm boot_range (PyProof.Rows.callWith_type1 (thn (ha pos pins s σ H _ I h) fun us s1 ⟨vs,H1,I1,r1,q1⟩=>?_) hs rfl))
 obtain⟨j,e,q1,q2,q⟩:=q1
 subst e
 cases r1 with
 | cons r rr =>
  cases rr
  obtain⟨t,rfl⟩:=r
  exact call_range_1 (E7 I1 (by omega) (by omega) q1 q2 (by simpa using q))
def IW (wi:TI) (g:TG) (tb:TS):TS:=fun D σ H=>wi σ H fun J H1=>∃ W:Nat→Nat→St→Hp→Prop,(∃ m,W 0 m σ H1)∧∀ i m σ H,W i m σ H →
 (J.stop i H∧D.nx σ H)∨(J.go i H∧∃ N:St→Hp→Prop,(∀ σ' H',N σ' H'→∃ m',m'<m∧W (i+1) m' σ' H')∧∀ x H',J.yld i H x H'→g x σ H' fun σ2 H2=>tb { D with nx:=N,ct:=N,bk:=D.nx } σ2 H2)
def we (fp:List Addr) (h:Heap):List (Addr×Obj):=fp.filterMap fun b=>(h.get? b).map fun o=>(b,o)
theorem uY {fp:List Addr} {h:Heap} {b:Addr} {o:Obj} (hb:b∈fp) (e:h.get? b=some o):(b,o)∈we fp h:=List.mem_filterMap.mpr ⟨b,hb,by rw[e]; rfl⟩
theorem Em {fp:List Addr} {h:Heap} {p:Addr×Obj} (hp:p∈we fp h):p.1∈fp∧h.get? p.1=some p.2:=by
 obtain⟨b,hb,e⟩:=List.mem_filterMap.mp hp
 cases q:h.get? b with
 | none=>rw[q] at e; cases e
 | some o =>
  rw[q] at e
  have e':(b,o)=p:=Option.some.inj e
  subst e'
  exact⟨hb,q⟩
theorem Inv.pinned {pins:List (Addr×Obj)} {σ:St} {H:Hp} {s:Shared} {fp:List Addr} (I:Inv X pins σ H s) (hf:∀ b∈fp,FpOk X pins H b) (ho:∀ b∈fp,∃ o,s.heap.get? b=some o∧∀ v,o.data≠.cell v):Inv X (pins++we fp s.heap) σ H s :=
 I.pins_of fun p hp=>(List.mem_append.mp hp).elim (fun z=>I.pin p (List.mem_append_right _ z)) fun z=>by
  obtain⟨hb,e⟩:=Em z
  obtain⟨f0,f1,f2,_⟩:=hf p.1 hb
  obtain⟨o,e',d⟩:=ho p.1 hb
  rw[e] at e'; cases e'
  exact⟨e,f0,f1,f2,d⟩
theorem Inv.unpinned {pins pl:List (Addr×Obj)} {σ:St} {H:Hp} {s:Shared} (I:Inv X (pins++pl) σ H s):Inv X pins σ H s:=I.pins_of fun p hp=>I.pin p (List.mem_append_right _ (List.mem_append_left _ hp))
theorem pC {iter:Expr} {body:List Stmt} {wi:TI} {g:TG} {tb:TS} {pos:Pos} (hp:PassesOwn (model X.prog X.w) X.A X.env X.xe) (hc:X.calm=true) (hi:PI X tg iter wi) (hg:PG X tg g) (hb:PSs X body tb)
  (hs:∀ x,foldedSetIterable iter X.env x=pure x:=by intro _; rfl):PS X (.For tg iter body [] pos) (IW wi g tb):=by
 intro pins s σ H D I h
 refine wpAny_For (thn (hi pins s σ H _ I h) fun v s1 h1=>thn h1 fun itv s2 h2=>?_) hs
 obtain⟨it,fp,tn,J,H2,e,I2,T,st2,f2,W,⟨m0,w0⟩,turn⟩:=h2
 subst e
 -- what stays true of the iterator's objects through the loop
 have stat:∀ {H':Hp},(∀ b∈fp,H' b=none)→∀ b∈fp,FpOk X pins H' b:=fun hn b hb=>⟨hn b hb,(f2 b hb).2⟩
 refine codeAny_forLoop_any (fun n s'=>∃ i σ' H',Inv X pins σ' H' s'∧tn i s'.heap∧(∀ b∈fp,H' b=none)∧W i n σ' H') ?_ m0 ⟨0,σ,H2,I2,st2,fun b hb=>(f2 b hb).1,w0⟩
 rintro n s3 ⟨i,σ3,H3,I3,st3,fr3,w3⟩
 rcases turn i n σ3 H3 w3 with ⟨stop,qn⟩ | ⟨go,N,hN,step⟩
 ·refine wpAny_passesOwn hp (thn (T.done X rfl rfl rfl hc i pins s3 σ3 H3 X.xe I3 (stat fr3) st3 stop) fun r s4 ⟨hr,I4⟩=>?_)
  subst hr
  exact wpAny_execs_nil ⟨σ3,H3,I4,qn⟩
 ·refine wpAny_passesOwn hp (thn (T.item X rfl rfl rfl hc i pins s3 σ3 H3 X.xe I3 (stat fr3) st3 go) fun r s4 ⟨u,hr,h4⟩=>?_)
  subst hr
  refine wpAny_passesOwn hp (thn h4 fun _ s5 ⟨x,H5,I5,r5,y5,st5,fr5⟩=>?_)
  have I5':=I5.pinned (stat fr5) (T.obj _ _ st5)
  refine wpAny_passesOwn hp (thn (hg _ s5 σ3 H5 x u _ I5' r5 (step x H5 y5)) fun _ s6 ⟨σ6,H6,I6,q6⟩=>?_)
  refine wpAny_passesOwn hp (thn (hb _ s6 σ6 H6 _ I6 q6) fun f s7 q7=>?_)
  have again:∀ {σ7:St} {H7:Hp},Inv X (pins++we fp s5.heap) σ7 H7 s7→N σ7 H7→∃ m,m<n∧∃ i σ' H',Inv X pins σ' H' s7∧tn i s7.heap∧(∀ b∈fp,H' b=none)∧W i m σ' H':=fun {σ7 H7} I7 n7=>by
   obtain⟨m',hm,w7⟩:=hN σ7 H7 n7
   refine⟨m',hm,i+1,σ7,H7,I7.unpinned,T.keep _ _ _ st5 fun b hb o e=>(I7.pin (b,o) (List.mem_append_right _ (List.mem_append_right _ (uY hb e)))).1,fun b hb=>?_,w7⟩
   obtain⟨o,e,d⟩:=T.obj _ _ st5 b hb
   exact (I7.pin (b,o) (List.mem_append_right _ (List.mem_append_right _ (uY hb e)))).2.1
  cases f with
  | next=>obtain⟨σ7,H7,I7,n7⟩:=q7; exact again I7 n7
  | cont=>obtain⟨σ7,H7,I7,n7⟩:=q7; exact again I7 n7
  | brk=>obtain⟨σ7,H7,I7,q7⟩:=q7; exact⟨σ7,H7,I7.unpinned,q7⟩
  | ret v=>obtain⟨x7,σ7,H7,I7,r7,q7⟩:=q7; exact⟨x7,σ7,H7,I7.unpinned,r7,q7⟩
end
theorem Fx {K:PySem.W.Frag} {a:Addr} {xs:List V} {g:TG} {tb:TS} {D:Ends} {σ:St} {H:Hp} (Pv:Nat→St→Hp→Prop) (h0:Pv 0 σ H) (hl:∀ i σ H,i≤xs.length→Pv i σ H→SqL K H a xs)
  (hs:∀ i x σ H,xs[i]?=some x→Pv i σ H→g x σ H fun σ2 H2=>tb { D with nx:=Pv (i+1),ct:=Pv (i+1),bk:=D.nx } σ2 H2) (hd:∀ σ H,Pv xs.length σ H→D.nx σ H) :
  ∃ W:Nat→Nat→St→Hp→Prop,(∃ m,W 0 m σ H)∧∀ i m σ H,W i m σ H →
   ((Itl K a).stop i H∧D.nx σ H)∨((Itl K a).go i H∧∃ N:St→Hp→Prop,(∀ σ' H',N σ' H'→∃ m',m'<m∧W (i+1) m' σ' H')∧∀ x H',(Itl K a).yld i H x H'→g x σ H' fun σ2 H2=>tb { D with nx:=N,ct:=N,bk:=D.nx } σ2 H2):=by
 refine⟨fun i m σ H=>m=xs.length-i∧i≤xs.length∧Pv i σ H,⟨xs.length,by simp,Nat.zero_le _,h0⟩,?_⟩
 rintro i m σ H ⟨rfl,hi,p⟩
 have q:=hl i σ H hi p
 by_cases hlt:i<xs.length
 ·refine .inr ⟨⟨xs,xs[i],q,by simp [hlt]⟩,Pv (i+1),fun σ' H' p'=>⟨xs.length-(i+1),by omega,rfl,hlt,p'⟩,fun x H' y=>?_⟩
  obtain⟨e,y⟩:=y
  subst e
  exact hs i x σ _ (y xs q) p
 ·have e:i=xs.length:=by omega
  subst e
  exact .inl ⟨⟨xs,q,Nat.le_refl _⟩,hd σ H p⟩
theorem EE {lo:Int} {n:Nat} {g:TG} {tb:TS} {D:Ends} {σ:St} {H:Hp} (Pv:Nat→St→Hp→Prop) (h0:Pv 0 σ H)
  (hs:∀ i σ H,i<n→Pv i σ H→g (.int (lo+i)) σ H fun σ2 H2=>tb { D with nx:=Pv (i+1),ct:=Pv (i+1),bk:=D.nx } σ2 H2) (hd:∀ σ H,Pv n σ H→D.nx σ H) :
  ∃ W:Nat→Nat→St→Hp→Prop,(∃ m,W 0 m σ H)∧∀ i m σ H,W i m σ H →
   ((Itr lo n).stop i H∧D.nx σ H)∨((Itr lo n).go i H∧∃ N:St→Hp→Prop,(∀ σ' H',N σ' H'→∃ m',m'<m∧W (i+1) m' σ' H')∧∀ x H',(Itr lo n).yld i H x H'→g x σ H' fun σ2 H2=>tb { D with nx:=N,ct:=N,bk:=D.nx } σ2 H2):=by
 refine⟨fun i m σ H=>m=n-i∧i≤n∧Pv i σ H,⟨n,by simp,Nat.zero_le _,h0⟩,?_⟩
 rintro i m σ H ⟨rfl,hi,p⟩
 by_cases hlt:i<n
 ·refine .inr ⟨hlt,Pv (i+1),fun σ' H' p'=>⟨n-(i+1),by omega,rfl,hlt,p'⟩,fun x H' y=>?_⟩
  obtain⟨e,y⟩:=y
  subst e y
  exact hs i σ _ hlt p
 ·have e:i=n:=by omega
  subst e
  exact .inl ⟨Nat.le_refl _,hd σ H p⟩
abbrev R2:=V→V→Hp→VK→Prop
def OpR (X:Cx) (f:Value→Value→Sem Value) (r:R2):Prop :=
 ∀ (pins:List (Addr×Obj)) (s:Shared) (σ:St) (H:Hp) (x y:V) (v u:Value) (Q:VK),Inv X pins σ H s→RelV x v→RelV y u→r x y H Q →
  wpAny (model X.prog X.w) X.A (f v u) (EP X pins σ Q) X.xe s
def UnR (X:Cx) (f:Value→Sem Value) (r:V→Hp→VK→Prop):Prop :=
 ∀ (pins:List (Addr×Obj)) (s:Shared) (σ:St) (H:Hp) (x:V) (v:Value) (Q:VK),Inv X pins σ H s→RelV x v→r x H Q →
  wpAny (model X.prog X.w) X.A (f v) (EP X pins σ Q) X.xe s
def rQ (X:Cx) (f:Value) (r:List V→Hp→VK→Prop):Prop :=
 ∀ (pins:List (Addr×Obj)) (s:Shared) (σ:St) (H:Hp) (xs:List V) (us:List Value) (Q:VK),Inv X pins σ H s→Vals xs us→r xs H Q →
  wpAny (model X.prog X.w) X.A (call f us) (EP X pins σ Q) X.xe s
def tOp (r:R2) (ta tb:TE):TE:=fun σ H Q=>ta σ H fun x H1=>tb σ H1 fun y H2=>r x y H2 Q
def tUn (r:V→Hp→VK→Prop) (ta:TE):TE:=fun σ H Q=>ta σ H fun x H1=>r x H1 Q
def rI (C:Int→Int→Prop) (g:Int→Int→V):R2:=fun x y H Q=>∃ i j,x=.int i∧y=.int j∧C i j∧Q (g i j) H
def rI0 (g:Int→Int→V):R2:=fun x y H Q=>∃ i j,x=.int i∧y=.int j∧Q (g i j) H
def rU (g:Int→V):V→Hp→VK→Prop:=fun x H Q=>∃ i,x=.int i∧Q (g i) H
section
variable {X:Cx} {a b c:Expr} {ta tb tc:TE} {pos:Pos}
theorem Fj (ha:PE X a ta) (hb:PE X b tb) {pins:List (Addr×Obj)} {s:Shared} {σ:St} {H:Hp} {R:V→V→Hp→Prop} (I:Inv X pins σ H s)
  (h:ta σ H fun x H1=>tb σ H1 fun y H2=>R x y H2) {Q:Value→Shared→Prop} {f:Value→Value→Sem Value}
  (hf:∀ v u s2 x y H2,Inv X pins σ H2 s2→RelV x v→RelV y u→R x y H2→wpAny (model X.prog X.w) X.A (f v u) Q X.xe s2) :
  wpAny (model X.prog X.w) X.A (eval a X.env) (fun v s₁=>wpAny (model X.prog X.w) X.A (eval b X.env) (fun u s₂=>wpAny (model X.prog X.w) X.A (f v u) Q X.xe s₂) X.xe s₁) X.xe s:=by
 refine thn (ha pins s σ H _ I h) fun v s1 ⟨x,H1,I1,r1,q1⟩=>?_
 refine thn (hb pins s1 σ H1 _ I1 q1) fun u s2 ⟨y,H2,I2,r2,q2⟩=>?_
 exact hf v u s2 x y H2 I2 r1 r2 q2
theorem iI {op:Operator} {r:R2} (ho:OpR X (binaryOp op) r) (ha:PE X a ta) (hb:PE X b tb):PE X (.BinOp a op b pos) (tOp r ta tb):=by
 intro pins s σ H Q I h
 exact wpAny_BinOp (Fj ha hb I h fun v u s2 x y H2 I2 rx ry q=>ho pins s2 σ H2 x y v u Q I2 rx ry q)
theorem vz {op:UnaryOp} {r:V→Hp→VK→Prop} (ho:UnR X (unaryOp op) r) (ha:PE X a ta):PE X (.UnaryOp op a pos) (tUn r ta):=by
 intro pins s σ H Q I h
 exact UnaryOp_ (thn (ha pins s σ H _ I h) fun v s1 ⟨x,H1,I1,r1,q1⟩=>ho pins s1 σ H1 x v Q I1 r1 q1)
theorem opI {f:Value→Value→Sem Value} {C:Int→Int→Prop} {g:Int→Int→Int}
  (rule:∀ (i j:Int) (t u:Tok) (s:Shared) (Q:Value→Shared→Prop) (E:Value→Shared→Prop),C i j→Q (.int (g i j) s.toks) { s with toks:=s.toks+1 }→wpAny (model X.prog X.w) X.A (f (.int i t) (.int j u)) Q E s) :
  OpR X f (rI C fun i j=>.int (g i j)):=by
 intro pins s σ H x y v u Q I rx ry h
 obtain⟨i,j,rfl,rfl,hc,q⟩:=h
 obtain⟨t,rfl⟩:=rx
 obtain⟨t',rfl⟩:=ry
 exact rule i j t t' s _ _ hc ⟨.int (g i j),H,I.tok _,⟨_,rfl⟩,q⟩
theorem Gi {f:Value→Value→Sem Value} {g:Int→Int→Int}
  (rule:∀ (i j:Int) (t u:Tok) (s:Shared) (Q:Value→Shared→Prop) (E:Value→Shared→Prop),Q (.int (g i j) s.toks) { s with toks:=s.toks+1 }→wpAny (model X.prog X.w) X.A (f (.int i t) (.int j u)) Q E s) :
  OpR X f (rI0 fun i j=>.int (g i j)):=by
 intro pins s σ H x y v u Q I rx ry h
 obtain⟨i,j,rfl,rfl,q⟩:=h
 obtain⟨t,rfl⟩:=rx
 obtain⟨t',rfl⟩:=ry
 exact rule i j t t' s _ _ ⟨.int (g i j),H,I.tok _,⟨_,rfl⟩,q⟩
theorem DA {f:Value→Value→Sem Value} {g:Int→Int→Bool}
  (rule:∀ (i j:Int) (t u:Tok) (s:Shared) (Q:Value→Shared→Prop) (E:Value→Shared→Prop),Q (.bool (g i j)) s→wpAny (model X.prog X.w) X.A (f (.int i t) (.int j u)) Q E s) :
  OpR X f (rI0 fun i j=>.bl (g i j)):=by
 intro pins s σ H x y v u Q I rx ry h
 obtain⟨i,j,rfl,rfl,q⟩:=h
 obtain⟨t,rfl⟩:=rx
 obtain⟨t',rfl⟩:=ry
 exact rule i j t t' s _ _ ⟨.bl (g i j),H,I,rfl,q⟩
def IY (i j:Int):Prop:=0≤j∧j≤1000000∧i.natAbs<2 ^ 64
def CMul (i j:Int):Prop:=(-(2 ^ 64)<i∧i<2 ^ 64)∨(-(2 ^ 64)<j∧j<2 ^ 64)
theorem CMul.ok {i j:Int} (h:CMul i j):IntMulOk i j:=by
 rcases h with ⟨h1,h2⟩ | ⟨h1,h2⟩
 ·exact .of_left (intBits_le_64 h1 h2)
 ·exact .of_right (intBits_le_64 h1 h2)
theorem two_pow_nn (k:Nat):(0:Int)≤2 ^ k:=by
 rw[two_pow_cast]
 exact Int.natCast_nonneg _
theorem qU:OpR X (binaryOp .Add) (rI0 fun i j=>.int (i+j)):=Gi fun _ _ _ _ _ _ _ q=>add_int q
theorem IQ:OpR X (binaryOp .Sub) (rI0 fun i j=>.int (i-j)):=Gi fun _ _ _ _ _ _ _ q=>sub_int q
theorem IL:OpR X (binaryOp .Mult) (rI CMul fun i j=>.int (i * j)):=opI fun _ _ _ _ _ _ _ hc q=>mul_int q hc.ok
theorem tO:OpR X (binaryOp .Mod) (rI (fun _ j=>0<j) fun i j=>.int (i % j)):=opI fun i j _ _ _ _ _ hc q=>by
 have h1:(0:Int)<j:=hc
 exact mod_int' (by omega) (by rw[Int.fmod_eq_emod_of_nonneg i (by omega)]; exact q)
theorem DZ:OpR X (binaryOp .Pow) (rI IY fun i j=>.int (i ^ j.toNat)):=opI fun _ _ _ _ _ _ _ hc q=>pow_int_small hc.1 hc.2.1 hc.2.2 q
theorem ER:OpR X (binaryOp .RShift) (rI (fun _ j=>0≤j) fun i j=>.int (i / 2 ^ j.toNat)):=opI fun i j _ _ _ _ _ hc q =>
 rshift_int hc (by rw[Int.fdiv_eq_ediv_of_nonneg i (two_pow_nn _)]; exact q)
theorem yj:OpR X (binaryOp .BitAnd) (rI0 fun i j=>.int (Builtin.bitAnd i j)):=Gi fun _ _ _ _ _ _ _ q=>and_int q
theorem unI {f:Value→Sem Value} {g:Int→Int}
  (rule:∀ (i:Int) (t:Tok) (s:Shared) (Q:Value→Shared→Prop) (E:Value→Shared→Prop),Q (.int (g i) s.toks) { s with toks:=s.toks+1 }→wpAny (model X.prog X.w) X.A (f (.int i t)) Q E s) :
  UnR X f (rU fun i=>.int (g i)):=by
 intro pins s σ H x v Q I rx h
 obtain⟨i,rfl,q⟩:=h
 obtain⟨t,rfl⟩:=rx
 exact rule i t s _ _ ⟨.int (g i),H,I.tok _,⟨_,rfl⟩,q⟩
theorem uT:UnR X (unaryOp .USub) (rU fun i=>.int (-i)):=unI fun _ _ _ _ _ q=>neg_int q
end
def uf:V→V→Bool
 | .non,.non=>true | .non,.int _=>true | .int _,.non=>true | .non,.bl _=>true | .bl _,.non=>true | .non,.str _=>true | .str _,.non=>true
 | .int _,.int _=>true | .bl _,.bl _=>true | .str _,.str _=>true | .byt _,.byt _=>true
 | .int _,.str _=>true | .str _,.int _=>true | .bl _,.str _=>true | .str _,.bl _=>true
 | _,_=>false
def rEq:R2:=fun x y H Q=>uf x y=true∧Q (.bl (decide (x=y))) H
def rNe:R2:=fun x y H Q=>uf x y=true∧Q (.bl (!decide (x=y))) H
theorem BW {i j:Int}:decide (V.int i=V.int j)=(i == j):=by
 rw[Bool.eq_iff_iff]
 simp
theorem Ew {i j:Bool}:decide (V.bl i=V.bl j)=(i == j):=by
 rw[Bool.eq_iff_iff]
 simp
theorem Cs {i j:Str}:decide (V.str i=V.str j)=(i == j):=by
 rw[Bool.eq_iff_iff]
 simp
theorem Cy {i j:Array UInt8}:decide (V.byt i=V.byt j)=(i.toList == j.toList):=by
 rw[Bool.eq_iff_iff]
 cases i
 cases j
 simp
section
variable {X:Cx} {a b c:Expr} {ta tb tc:TE} {pos:Pos}
theorem ja {pins:List (Addr×Obj)} {σ:St} {H:Hp} {s:Shared} {Q:VK} {k k':Bool} (I:Inv X pins σ H s) (q:Q (.bl k) H) (e:k=k'):EP X pins σ Q (.bool k') s:=by
 subst e
 exact⟨.bl k,H,I,rfl,q⟩
theorem um:OpR X (compareOp .Eq) rEq:=by
 intro pins s σ H x y v u Q I rx ry h
 obtain⟨hs,q⟩:=h
 cases x with
 | non =>
  cases rx
  cases y with
  | non=>cases ry; exact PySem.EqNone.eq_none_none (ja I q (by simp))
  | bl j=>cases ry; exact PySem.EqNone.eq_none_bool (ja I q (by simp))
  | int j=>obtain⟨t',rfl⟩:=ry; exact PySem.EqNone.eq_none_int (ja I q (by simp))
  | str j=>obtain⟨t',rfl⟩:=ry; exact PySem.EqNone.eq_none_str (ja I q (by simp))
  | _=>exact absurd (show false=true from hs) Bool.false_ne_true
 | bl i =>
  cases rx
  cases y with
  | non=>cases ry; exact PySem.EqNone.eq_bool_none (ja I q (by simp))
  | bl j=>cases ry; exact eq_bool (ja I q Ew)
  | str j=>obtain⟨t',rfl⟩:=ry; exact PySem.EqMixed.eq_bool_str (ja I q (by simp))
  | _=>exact absurd (show false=true from hs) Bool.false_ne_true
 | int i =>
  obtain⟨t,rfl⟩:=rx
  cases y with
  | non=>cases ry; exact PySem.EqNone.eq_int_none (ja I q (by simp))
  | int j=>obtain⟨t',rfl⟩:=ry; exact eq_int (ja I q BW)
  | str j=>obtain⟨t',rfl⟩:=ry; exact PySem.EqMixed.eq_int_str (ja I q (by simp))
  | _=>exact absurd (show false=true from hs) Bool.false_ne_true
 | str i =>
  obtain⟨t,rfl⟩:=rx
  cases y with
  | non=>cases ry; exact PySem.EqNone.eq_str_none (ja I q (by simp))
  | bl j=>cases ry; exact PySem.EqMixed.eq_str_bool (ja I q (by simp))
  | int j=>obtain⟨t',rfl⟩:=ry; exact PySem.EqMixed.eq_str_int (ja I q (by simp))
  | str j=>obtain⟨t',rfl⟩:=ry; exact eq_str (ja I q Cs)
  | _=>exact absurd (show false=true from hs) Bool.false_ne_true
 | byt i =>
  obtain⟨t,rfl⟩:=rx
  cases y with
  | byt j=>obtain⟨t',rfl⟩:=ry; exact PySem.W.eq_bytes (ja I q Cy)
  | _=>exact absurd (show false=true from hs) Bool.false_ne_true
 | _=>cases y <;> exact absurd (show false=true from hs) Bool.false_ne_true
theorem JN:OpR X (compareOp .NotEq) rNe:=by
 intro pins s σ H x y v u Q I rx ry h
 obtain⟨hs,q⟩:=h
 cases x with
 | non =>
  cases rx
  cases y with
  | non=>cases ry; exact PySem.EqNone.ne_none_none (ja I q (by simp))
  | bl j=>cases ry; exact PySem.EqNone.ne_none_bool (ja I q (by simp))
  | int j=>obtain⟨t',rfl⟩:=ry; exact PySem.EqNone.ne_none_int (ja I q (by simp))
  | str j=>obtain⟨t',rfl⟩:=ry; exact PySem.EqNone.ne_none_str (ja I q (by simp))
  | _=>exact absurd (show false=true from hs) Bool.false_ne_true
 | bl i =>
  cases rx
  cases y with
  | non=>cases ry; exact PySem.EqNone.ne_bool_none (ja I q (by simp))
  | bl j=>cases ry; exact ne_bool (ja I q (congrArg not Ew))
  | str j=>obtain⟨t',rfl⟩:=ry; exact PySem.EqMixed.ne_bool_str (ja I q (by simp))
  | _=>exact absurd (show false=true from hs) Bool.false_ne_true
 | int i =>
  obtain⟨t,rfl⟩:=rx
  cases y with
  | non=>cases ry; exact PySem.EqNone.ne_int_none (ja I q (by simp))
  | int j=>obtain⟨t',rfl⟩:=ry; exact ne_int (ja I q (congrArg not BW))
  | str j=>obtain⟨t',rfl⟩:=ry; exact PySem.EqMixed.ne_int_str (ja I q (by simp))
  | _=>exact absurd (show false=true from hs) Bool.false_ne_true
 | str i =>
  obtain⟨t,rfl⟩:=rx
  cases y with
  | non=>cases ry; exact PySem.EqNone.ne_str_none (ja I q (by simp))
  | bl j=>cases ry; exact PySem.EqMixed.ne_str_bool (ja I q (by simp))
  | int j=>obtain⟨t',rfl⟩:=ry; exact PySem.EqMixed.ne_str_int (ja I q (by simp))
  | str j=>obtain⟨t',rfl⟩:=ry; exact ne_str (ja I q (congrArg not Cs))
  | _=>exact absurd (show false=true from hs) Bool.false_ne_true
 | byt i =>
  obtain⟨t,rfl⟩:=rx
  cases y with
  | byt j=>obtain⟨t',rfl⟩:=ry; exact PySem.W.ne_bytes (ja I q (congrArg not Cy))
  | _=>exact absurd (show false=true from hs) Bool.false_ne_true
 | _=>cases y <;> exact absurd (show false=true from hs) Bool.false_ne_true
theorem Gx:OpR X (compareOp .Lt) (rI0 fun i j=>.bl (decide (i<j))):=DA fun _ _ _ _ _ _ _ q=>lt_int q
theorem zP:OpR X (compareOp .LtE) (rI0 fun i j=>.bl (decide (i≤j))):=DA fun _ _ _ _ _ _ _ q=>le_int q
theorem vK:OpR X (compareOp .Gt) (rI0 fun i j=>.bl (decide (j<i))):=DA fun _ _ _ _ _ _ _ q=>gt_int q
theorem JQ:OpR X (compareOp .GtE) (rI0 fun i j=>.bl (decide (j≤i))):=DA fun _ _ _ _ _ _ _ q=>ge_int q
theorem DL:OpR X (compareOp .Is) (fun x y H Q=>y=.non∧Q (.bl (decide (x=.non))) H):=by
 intro pins s σ H x y v u Q I rx ry h
 obtain⟨rfl,q⟩:=h
 cases ry
 refine is_none_gen (ja I q ?_)
 cases x <;> first
  | (cases rx; rfl)
  | (obtain⟨t,rfl⟩:=rx; rfl)
theorem wL:OpR X (compareOp .IsNot) (fun x y H Q=>y=.non∧Q (.bl (!decide (x=.non))) H):=by
 intro pins s σ H x y v u Q I rx ry h
 obtain⟨rfl,q⟩:=h
 cases ry
 refine isnot_none_gen (ja I q ?_)
 cases x <;> first
  | (cases rx; rfl)
  | (obtain⟨t,rfl⟩:=rx; rfl)
theorem i8 (b:Expr) {op:CmpOp} (h:op≠.In:=by decide) (h2:op≠.NotIn:=by decide):behindInMarks op b=false:=by
 have e1:(op == CmpOp.In)=false:=by cases op <;> first | rfl | exact absurd rfl h
 have e2:(op == CmpOp.NotIn)=false:=by cases op <;> first | rfl | exact absurd rfl h2
 cases b <;> simp [behindInMarks,e1,e2]
theorem rZ {op:CmpOp} {r:R2} (ho:OpR X (compareOp op) r) (ha:PE X a ta) (hb:PE X b tb) (hm:behindInMarks op b=false):PE X (.Compare a [op] [b] pos) (tOp r ta tb):=by
 intro pins s σ H Q I h
 exact wpAny_Compare1 (Fj ha hb I h fun v u s2 x y H2 I2 rx ry q=>ho pins s2 σ H2 x y v u Q I2 rx ry q) hm
def Gu (t:TE):TT:=fun σ H Q=>t σ H fun x H'=>∃ k,x=.bl k∧Q k H'
theorem kB {op:CmpOp} {r:R2} (ho:OpR X (compareOp op) r) (ha:PE X a ta) (hb:PE X b tb) (hm:behindInMarks op b=false):PT X (.Compare a [op] [b] pos) (Gu (tOp r ta tb)):=by
 intro pins s σ H Q I h
 refine wpAny_isTrue_Compare1 (thn (ha pins s σ H _ I h) fun v s1 ⟨x,H1,I1,r1,q1⟩=>thn (hb pins s1 σ H1 _ I1 q1) fun u s2 ⟨y,H2,I2,r2,q2⟩ =>
  thn (ho pins s2 σ H2 x y v u _ I2 r1 r2 q2) fun c s3 ⟨z,H3,I3,r3,k,e,q3⟩=>?_) hm
 subst e
 cases r3
 exact wpAny_truthy_bool ⟨H3,I3,q3⟩
def EK (r r':R2) (ta tb tc:TE):TE:=fun σ H Q=>ta σ H fun x H1=>tb σ H1 fun y H2=>r x y H2 fun z H3=>∃ k,z=.bl k ∧
 (if k=true then tc σ H3 fun w' H4=>r' y w' H4 Q else Q (.bl false) H3)
theorem Gq {op op':CmpOp} {r r':R2} (ho:OpR X (compareOp op) r) (ho':OpR X (compareOp op') r') (ha:PE X a ta) (hb:PE X b tb) (hc:PE X c tc)
  (hm:lastMarks [op,op'] [b,c]=false:=by with_unfolding_all rfl):PE X (.Compare a [op,op'] [b,c] pos) (EK r r' ta tb tc):=by
 intro pins s σ H Q I h
 refine Compare_chain (thn (ha pins s σ H _ I h) fun v s1 ⟨x,H1,I1,r1,q1⟩=>chain_link (thn (hb pins s1 σ H1 _ I1 q1) fun u s2 ⟨y,H2,I2,r2,q2⟩ =>
  thn (ho pins s2 σ H2 x y v u _ I2 r1 r2 q2) fun d s3 ⟨z,H3,I3,r3,k,e,q3⟩=>?_)) hm
 subst e
 cases r3
 refine wpAny_truthy_bool ?_
 cases k with
 | false=>exact ite_ff ⟨.bl false,H3,I3,rfl,q3⟩
 | true=>exact ite_tt (chain_last (thn (hc pins s3 σ H3 _ I3 q3) fun w' s4 ⟨z',H4,I4,r4,q4⟩=>ho' pins s4 σ H4 y z' u w' Q I4 r2 r4 q4))
theorem vF:(sizeLine:Nat)<2 ^ 63:=by rw[sizeLine_eq]; decide
theorem vals1 {x:V} {us:List Value} (r:Vals [x] us):∃ u,us=[u]∧RelV x u:=by
 cases r with
 | cons r1 r2=>cases r2; exact⟨_,rfl,r1⟩
theorem vals2 {x y:V} {us:List Value} (r:Vals [x,y] us):∃ u w',us=[u,w']∧RelV x u∧RelV y w':=by
 cases r with
 | cons r1 r2 =>
  cases r2 with
  | cons r3 r4=>cases r4; exact⟨_,_,rfl,r1,r3⟩
theorem ET (hc:X.calm=true):rQ X (.builtin "min") (fun xs H Q=>∃ i j,xs=[.int i,.int j]∧Q (.int (if j<i then j else i)) H):=by
 intro pins s σ H xs us Q I r h
 obtain⟨i,j,rfl,q⟩:=h
 obtain⟨u,w',rfl,⟨t,rfl⟩,⟨t',rfl⟩⟩:=vals2 r
 refine min_two_ints (I.ok.hd hc) fun h' tk k=>⟨_,H,I.kept k,?_,q⟩
 by_cases hj:j<i
 ·rw[if_pos hj,if_pos hj]; exact⟨_,rfl⟩
 ·rw[if_neg hj,if_neg hj]; exact⟨_,rfl⟩
end
structure ObjM (h:Heap) (x dx C:Addr) (mA:Str→Option Value):Prop where
 obj:h.get? x=some (PySem.W.instObj C dx)
 ns:h.Ns1 dx mA
 ne:dx≠x
theorem RelO.some_of {v:V} {o:Option Value} (r:RelO (some v) o):∃ u,o=some u∧RelV v u:=by
 cases o with
 | none=>exact (show False from r).elim
 | some u=>exact⟨u,rfl,r⟩
theorem RelO.none_of {o:Option Value} (r:RelO none o):o=none:=by
 cases o with
 | none=>rfl
 | some u=>exact (show False from r).elim
structure Cls (K:PySem.W.Frag) (C:Addr):Prop where
 pg:PySem.W.plainGet K C Str.empty=true
 hd:PySem.W.hasDictIn K C=true
 po:PySem.W.plainOver K C=true
 sa:PySem.W.findIn K (.ref C) "__setattr__"=some (some (.builtin "object.__setattr__"))
structure Con (K:PySem.W.Frag) (C:Addr) (f:Str) (v:V) (u:Value):Prop where
 at_:PySem.W.findIn K (.ref C) f=some (some u)
 rel:RelV v u
 get:PySem.W.specialIn K u "__get__"=some none
 cp:PySem.W.copiedNames.contains f=false
structure Meth (K:PySem.W.Frag) (C:Addr) (m:Str) (f:Addr):Prop where
 at_:PySem.W.findIn K (.ref C) m=some (some (.ref f))
 fn:PySem.W.isFn K (.ref f)=true
 kp:PySem.W.keepIn K (.ref f)=true
section
variable {X:Cx} {pins:List (Addr×Obj)} {σ:St} {H:Hp} {s:Shared} {A:Around} {E:Value→Shared→Prop} {Q:Value→Shared→Prop} {c:Value} {b:Bool}
inductive TyOf (K:PySem.W.Frag) (H:Hp):V→Value→Prop where
 | non:TyOf K H .non (.type "NoneType")
 | bl (x:Bool):TyOf K H (.bl x) (.type "bool")
 | int (i:Int):TyOf K H (.int i) (.type "int")
 | str (x:Str):TyOf K H (.str x) (.type "str")
 | flt (x:UInt64):TyOf K H (.flt x) (.type "float")
 | lst {a:Addr} {xs:List V} (e:H a=some (.lst xs)):TyOf K H (.ref a) (.type "list")
 | frz {a:Addr} {o:Obj} {xs:List V} (e:H a=some (.frz o (.lst xs))):TyOf K H (.ref a) (.type "list")
 | tup {a:Addr} {xs:List V} (e:H a=some (.tup xs)):TyOf K H (.ref a) (.type "tuple")
 | dK {a:Addr} {kvs:List (Key×V)} (e:H a=some (.dK kvs)):TyOf K H (.ref a) (.type "dict")
 | dT {a:Addr} {kvs:List (List Key×V)} (e:H a=some (.dT kvs)):TyOf K H (.ref a) (.type "dict")
 | ins {a C dx:Addr} {fs:List (Str×V)} (e:H a=some (.ins C dx fs)) (cl:Cls K C) (ha:PySem.W.findIn K (.ref C) "__class__"=some (some (.builtin "object.__class__")))
   (hn:PySem.W.specialIn K (.builtin "object.__class__") "__get__"=some (some (.builtin "getset_descriptor.__get__"))) (htk:PySem.W.takesIn K (.builtin "object.__class__")=some true)
   (hm:PySem.W.mroIn K C (.type "object")=some true):TyOf K H (.ref a) (.ref C)
end
structure Room (k:Nat) (A:Around):Prop where
 hd:A.handled=none
 dp:A.depth+3 * k+5<recursionLimit
 un:A.units+16 * k+200<cLine
theorem Room.mono {j k:Nat} {A:Around} (r:Room k A) (h:j≤k):Room j A:=⟨r.hd,by have:=r.dp; omega,by have:=r.un; omega⟩
theorem Room.deeper {k:Nat} {A:Around} (r:Room (k+1) A) (env:Env):Room k (A.deeper env) :=
 ⟨r.hd,by have:=r.dp; show A.depth+1+3 * k+5<_; omega,by have:=r.un; show A.units+3+16 * k+200<_; omega⟩
theorem Room.depth {k:Nat} {A:Around} (r:Room k A):A.depth<recursionLimit:=by have:=r.dp; omega
theorem Room.units {k:Nat} {A:Around} (r:Room k A):A.units+64<cLine:=by have:=r.un; omega
def IG:TA:=fun _ H Q=>Q [] H
def GG (ta:TE) (tr:TA):TA:=fun σ H Q=>ta σ H fun x H1=>tr σ H1 fun xs H2=>Q (x::xs) H2
section
variable {X:Cx} {e:Expr} {es:List Expr} {te:TE} {t:TA} {pos:Pos}
theorem cT:PA X [] IG:=fun _ _ _ _ H Q I h=>Calls.spliced_nil ⟨[],H,I,.nil,h⟩
theorem bO (ha:PE X e te) (hr:PA X es t) (hs:starEach (e::es) X.env=(false,eval e X.env)::starEach es X.env:=by rfl):PA X (e::es) (GG te t):=by
 intro pos pins s σ H Q I h
 rw[hs]
 show wpAny _ _ (spliced ((false,eval e X.env)::backTo pos (starEach es X.env))) _ _ s
 refine Calls.spliced_cons (thn (ha pins s σ H _ I h) fun u s1 ⟨x,H1,I1,r1,q1⟩=>?_)
 exact thn (hr pos pins s1 σ H1 _ I1 q1) fun us s2 ⟨xs,H2,I2,r2,q2⟩=>⟨x::xs,H2,I2,.cons r1 r2,q2⟩
def Iw (t:TA):TE:=fun σ H Q=>t σ H fun xs H1=>xs.length≤sizeLine∧∀ p,H1 p=none→Q (.ref p) (upd H1 p (.tup xs))
def IA (t:TA):TE:=fun σ H Q=>t σ H fun xs H1=>xs.length≤sizeLine∧∀ p,H1 p=none→Q (.ref p) (upd H1 p (.lst xs))
theorem tP {x1} (h:PA X es t):PE X (.Tuple es x1 pos) (Iw t):=by
 intro pins s σ H Q I hq
 refine wpAny_Tuple_spliced (thn (h pos pins s σ H _ I hq) fun us s1 ⟨xs,H1,I1,r,z,q⟩=>⟨by rw[← r.length]; exact z,?_⟩)
 have hf:H1 s1.heap.objs.size=none:=I1.hok.fresh (Nat.le_refl _)
 refine⟨.ref s1.heap.objs.size,upd H1 s1.heap.objs.size (.tup xs),I1.laid (t':=s1.toks) (fun b u e=>Heap.get?_push_of_some _ e) (Nat.le_refl _) ?_,rfl,q _ hf⟩
 exact⟨z,us,r,⟨_,Heap.get?_push_size _ rfl,rfl,_,rfl⟩,_,Heap.get?_push_size _ rfl,rfl⟩
theorem rE (h:PA X es t):PE X (.List es pos) (IA t):=by
 intro pins s σ H Q I hq
 refine wpAny_List_spliced (thn (h pos pins s σ H _ I hq) fun us s1 ⟨xs,H1,I1,r,z,q⟩=>⟨by rw[← r.length]; exact z,?_⟩)
 have hf:H1 s1.heap.objs.size=none:=I1.hok.fresh (Nat.le_refl _)
 refine⟨.ref s1.heap.objs.size,upd H1 s1.heap.objs.size (.lst xs),I1.laid (t':=s1.toks) (fun b u e=>Heap.get?_push_of_some _ e) (Nat.le_refl _) ?_,rfl,q _ hf⟩
 exact⟨z,us,0,r,Heap.get?_push_size _ rfl⟩
end
abbrev Sp:=List V→Hp→VK→XK→Prop
abbrev CXT:=List Env→Hp→Shared→XK→Value→Shared→Prop
structure Env0 (P:Program) (w:World) (K:PySem.W.Frag) (mg:Str→Option Value) (base:Heap) (A:Around) (outer:List Env) (s:Shared) (H:Hp):Prop where
 frames:A.frames=some outer
 mod:Mod K mg base
 bs:∀ b o,base.get? b=some o→s.heap.get? b=some o∧H b=none
 bsz:base.objs.size≤s.heap.objs.size
 funs:s.heap.FunFrames base outer
 frf:∀ b∈frs outer,H b=none
 hok:HOk P w H s.heap
 bare:AllBare s.gens
def CE (outer:List Env) (P:Program) (w:World) (H:Hp) (s:Shared) (Q:VK) (u:Value) (s':Shared):Prop :=
 ∃ v H',s'.os=s.os∧AllBare s'.gens∧Un (frs outer) [] H H' s.heap s'.heap∧HOk P w H' s'.heap∧RelV v u∧Q v H'
def CR (CX:CXT) (outer:List Env) (P:Program) (w:World) (H:Hp) (s:Shared) (Q:VK) (E:XK) (r:Result) (s':Shared):Prop :=
 match r with
 | .ok (.ret u)=>CE outer P w H s Q u s'
 | .ok _=>False
 | .error e=>CX outer H s E e s'
structure FnOk (P:Program) (w:World) (K:PySem.W.Frag) (mg:Str→Option Value) (base:Heap) (CX:CXT) (k:Nat) (f:Addr) (fd:FuncData) (ps:List Str) (sp:Sp):Prop where
 len:∀ vs H Q E,sp vs H Q E→vs.length=ps.length
 run:∀ (A:Around) (outer:List Env) (s:Shared) (H:Hp) (args:Args) (us:List Value) (vs:List V) (Q:VK) (E:XK),Room k A→Env0 P w K mg base A outer s H→BindsTo s fd args (ps.zip us)→Vals vs us→sp vs H Q E →
  codeAny (model P w) A (.call (.ref f) args) (CR CX outer P w H s Q E) s
section
variable {X:Cx} {pins:List (Addr×Obj)} {σ:St} {H:Hp} {s s':Shared}
theorem Inv.env0 (I:Inv X pins σ H s):Env0 X.prog X.w X.K X.mg X.base X.A X.stack s H :=
 ⟨I.ok.frames,I.ok.mod,I.bs,Nat.le_trans I.ok.bsz I.sz,I.stack,I.stkFree,I.hok,I.bare⟩
theorem Inv.after {Q:VK} {u:Value} (I:Inv X pins σ H s) (h:CE X.stack X.prog X.w H s Q u s'):EP X pins σ Q u s':=by
 obtain⟨v,H',os,bare,un,hok,r,q⟩:=h
 obtain⟨hh,g,d,t,os'⟩:=s'
 obtain rfl:os'=s.os:=os
 exact⟨v,H',I.call (h':=hh) (g':=g) (d':=d) (t':=t) (ch:=[]) un hok bare (fun b z=>absurd z (by simp)),r,q⟩
end
def zM (sp:Sp) (dvs:List V) (E:XK) (t:TA):TE:=fun σ H Q=>t σ H fun vs H1=>sp (vs++dvs) H1 Q E
def Binds (K:PySem.W.Frag) (fd:FuncData) (ps:List Str) (ds:List Value):Prop :=
 ∀ (s:Shared) (us:List Value),K.In s.heap→(us++ds).length=ps.length→BindsTo s fd ⟨us,[]⟩ (ps.zip (us++ds))
theorem Binds.all {K:PySem.W.Frag} {fd:FuncData} {ps:List Str} (h:∀ us:List Value,us.length=ps.length→bindArgs fd ⟨us,[]⟩=pure (ps.zip us)):Binds K fd ps []:=fun s us _ hl=>by
 rw[List.append_nil] at hl ⊢
 exact .of_eq (h us hl)
def yb (CX:CXT) (X:Cx) (E:XK):Prop:=∀ (pins:List (Addr×Obj)) (σ:St) (H:Hp) (s:Shared) (e:Value) (s':Shared),Inv X pins σ H s→CX X.stack H s E e s'→X.xe e s'
section
variable {X:Cx} {CX:CXT} {k:Nat} {f C:Addr} {fd:FuncData} {ps:List Str} {sp:Sp} {dvs:List V} {ds:List Value} {E:XK} {x m:Str} {p pos apos:Pos} {e o:Expr} {es:List Expr} {ta:TE} {t:TA}
theorem Jr {pins:List (Addr×Obj)} {σ:St} {H:Hp} {s:Shared} {Q:VK} {us:List Value} {vs:List V} (F:FnOk X.prog X.w X.K X.mg X.base CX k f fd ps sp) (hr:Room k X.A) (hb:Binds X.K fd ps ds) (hd:Vals dvs ds) (hx:yb CX X E)
  (I:Inv X pins σ H s) (r:Vals vs us) (h:sp (vs++dvs) H Q E):wpAny (model X.prog X.w) X.A (call (.ref f) us) (EP X pins σ Q) X.xe s:=by
 have r2:Vals (vs++dvs) (us++ds):=r.append hd
 have hl:(us++ds).length=ps.length:=by rw[← r2.length]; exact F.len _ _ _ _ h
 refine wpAny_call (codeAny_mono (F.run X.A X.stack s H ⟨us,[]⟩ (us++ds) (vs++dvs) Q E hr I.env0 (hb s us I.kIn hl) r2 h) fun r s' hq=>?_)
 cases r with
 | error e=>exact hx pins σ H s e s' I hq
 | ok fl =>
  cases fl with
  | ret u=>exact I.after hq
  | next=>exact False.elim hq
  | brk=>exact False.elim hq
  | cont=>exact False.elim hq
theorem HY (F:FnOk X.prog X.w X.K X.mg X.base CX k f fd ps sp) (hr:Room k X.A) (hg:Gl X x) (hm:X.mg x=some (.ref f)) (hk:PySem.W.keepIn X.K (.ref f)=true) (hb:Binds X.K fd ps ds) (hd:Vals dvs ds) (hx:yb CX X E)
  (ha:PA X (e::es) t) (hdb:(x == ("__debug__":Str))=false:=by decide) (he:starEach (e::es) X.env=(false,eval e X.env)::starEach es X.env:=by rfl) (hpl:(backTo pos (starEach es X.env)).any (·.1)=false:=by rfl) :
  PE X (.Call (.Name x p) (e::es) [] pos) (zM sp dvs E t):=by
 intro pins s σ H Q I h
 refine wpAny_Call_Name_kw (Ht I hg hm ?_ hdb)
 refine PySem.W.callWith_K (h₀:=X.base) I.ok.mod.kin hk (thn (ha pos pins s σ H _ I h) fun us s1 ⟨vs,H1,I1,r,q⟩=>⟨I1.kIn,?_⟩) he hpl
 exact Jr F hr hb hd hx I1 r q
structure Mk (K:PySem.W.Frag) (C f:Addr):Prop where
 makes:PySem.W.makesIn K C=true
 init:PySem.W.findIn K (.ref C) "__init__"=some (some (.ref f))
 fn:PySem.W.isFn K (.ref f)=true
 kp:PySem.W.keepIn K (.ref C)=true
end
section
variable {X:Cx} {CX:CXT} {k:Nat} {f C:Addr} {fd:FuncData} {ps ks:List Str} {sp:Sp} {E:XK} {x m:Str} {p pos apos kpos:Pos} {e o:Expr} {es:List Expr} {kws:List Keyword} {te ta:TE} {t tk:TA} {nm:Option Str}
structure KBinds (K:PySem.W.Frag) (fd:FuncData) (ps ks:List Str) (g:List Value→List Value→List Value) (gV:List V→List V→List V):Prop where
 to:∀ (s:Shared) (us ws:List Value),K.In s.heap→(g us ws).length=ps.length→BindsTo s fd ⟨us,ks.zip ws⟩ (ps.zip (g us ws))
 rel:∀ {vs:List V} {us:List Value} {zs:List V} {ws:List Value},Vals vs us→Vals zs ws→Vals (gV vs zs) (g us ws)
variable {g:List Value→List Value→List Value} {gV:List V→List V→List V}
end
structure FnScope (N P:List Str) (sc:Scope):Prop where
 kind:sc.kind=.function
 co:sc.isCoroutine=false
 gen:sc.isGenerator=false
 nd:N.Nodup
 pre:N.take P.length=P
 par:∀ x∈P,sc.names.lookup x=some .local∨sc.names.lookup x=some .cell
 nofree:∀ y∈sc.names,y.2≠.free
theorem y9 {kindOf:Str→Option NameKind} {x:Str}:∀ {binds:List (Str×Value)} {m:Str→Option Value},(∀ v,(x,v) ∉ binds)→bindL kindOf binds m x=m x
 | [],_,_=>rfl
 | (n,v)::r,m,h=>by
  unfold bindL
  rw[y9 fun w hw=>h w (List.mem_cons_of_mem _ hw)]
  split
  ·have:x≠n:=by rintro rfl; exact h v List.mem_cons_self
   simp [this]
  ·rfl
theorem ze {kindOf:Str→Option NameKind} {x:Str}:∀ {binds:List (Str×Value)} {m:Str→Option Value},(∀ v,(x,v) ∉ binds)→bindC kindOf binds m x=m x
 | [],_,_=>rfl
 | (n,v)::r,m,h=>by
  unfold bindC
  rw[ze fun w hw=>h w (List.mem_cons_of_mem _ hw)]
  split
  ·rfl
  ·have:x≠n:=by rintro rfl; exact h v List.mem_cons_self
   simp [this]
theorem zm {kindOf:Str→Option NameKind} {x:Str} {v:Value}:∀ {P:List Str} {vs:List Value} {i:Nat} {m:Str→Option Value},P.Nodup→P[i]?=some x→vs[i]?=some v→kindOf x=some .local →
  bindL kindOf (P.zip vs) m x=some v
 | [],_,_,_,_,h,_,_=>by simp at h
 | _::_,[],_,_,_,_,h,_=>by simp at h
 | p::P,w::vs,0,m,nd,h1,h2,hk=>by
  simp at h1 h2; subst h1; subst h2
  show bindL kindOf ((p,w)::P.zip vs) m p=_
  unfold bindL
  rw[y9 fun v hv=>(List.nodup_cons.mp nd).1 (List.of_mem_zip hv).1,if_pos hk]
  simp
 | p::P,w::vs,i+1,m,nd,h1,h2,hk=>by
  show bindL kindOf ((p,w)::P.zip vs) m x=_
  unfold bindL
  exact zm (i:=i) (List.nodup_cons.mp nd).2 (by simpa using h1) (by simpa using h2) hk
theorem zh {kindOf:Str→Option NameKind} {x:Str} {v:Value}:∀ {P:List Str} {vs:List Value} {i:Nat} {m:Str→Option Value},P.Nodup→P[i]?=some x→vs[i]?=some v→kindOf x≠some .local →
  bindC kindOf (P.zip vs) m x=some v
 | [],_,_,_,_,h,_,_=>by simp at h
 | _::_,[],_,_,_,_,h,_=>by simp at h
 | p::P,w::vs,0,m,nd,h1,h2,hk=>by
  simp at h1 h2; subst h1; subst h2
  show bindC kindOf ((p,w)::P.zip vs) m p=_
  unfold bindC
  rw[ze fun v hv=>(List.nodup_cons.mp nd).1 (List.of_mem_zip hv).1,if_neg hk]
  simp
 | p::P,w::vs,i+1,m,nd,h1,h2,hk=>by
  show bindC kindOf ((p,w)::P.zip vs) m x=_
  unfold bindC
  exact zh (i:=i) (List.nodup_cons.mp nd).2 (by simpa using h1) (by simpa using h2) hk
def start (N:List Str) (vs:List V):St:=vs.map some++List.replicate (N.length-vs.length) none
def xK (CX:CXT) (P:Program) (w:World) (K:PySem.W.Frag) (mg:Str→Option Value) (base:Heap) (N:List Str) (qual:Str) (scope:Scope) (f:Addr) (cd:Value) (A:Around) (outer:List Env) (s:Shared) (H:Hp) (E:XK):Cx where
 prog:=P
 w:=w
 K:=K
 mg:=mg
 base:=base
 A:=A.deeper (envOfC qual scope s.heap.objs.size f cd)
 N:=N
 s₀:=s
 H₀:=H
 env:=envOfC qual scope s.heap.objs.size f cd
 outer:=outer
 stack:=envOfC qual scope s.heap.objs.size f cd::outer
 ex:=[]
 calm:=true
 fn:=fun _=>true
 pn:=[]
 xe:=fun e s'=>wpAny (model P w) (A.deeper (envOfC qual scope s.heap.objs.size f cd)) (leaving (envOfC qual scope s.heap.objs.size f cd) e) (fun _ s''=>CX outer H s E e s'') (fun e' s''=>CX outer H s E e' s'') s'
theorem Ad {sc:Scope} {n:Nat} {x:Str} (h:sc.names.lookup x=some .cell):∃ c,(cellsFrom n sc.names []).lookup x=some c:=by
 have q:=PySem.W.cellsFrom_some sc.names n [] (.inl h)
 exact Option.isSome_iff_exists.mp q
theorem ED {CX:CXT} {P:Program} {w:World} {K:PySem.W.Frag} {mg:Str→Option Value} {base:Heap} {N ps:List Str} {qual:Str} {scope:Scope} {f:Addr} {cd:Value} {A:Around} {outer:List Env} {s s1:Shared} {H:Hp} {E:XK} {us:List Value} {vs:List V}
  (S:FnScope N ps scope) (hd:A.handled=none) (e0:Env0 P w K mg base A outer s H) (hl:vs.length=ps.length) (r:Vals vs us)
  (x:InCallC s s.heap.objs.size (bindL (envOfC qual scope s.heap.objs.size f cd).kindOf (ps.zip us) fun _=>none) (cellsFrom (s.heap.objs.size+1) scope.names []) (bindC (envOfC qual scope s.heap.objs.size f cd).kindOf (ps.zip us) fun _=>none) s1) :
  Inv (xK CX P w K mg base N qual scope f cd A outer s H E) [] (start N vs) H s1:=by
 have hpl:ps.length≤N.length:=by have:=congrArg List.length S.pre; rw[List.length_take] at this; omega
 obtain⟨h1,tk,rfl,hk⟩:=x.done
 have noA:∀ b:Addr,b ∉ (xK CX P w K mg base N qual scope f cd A outer s H E).ex:=fun b z=>absurd (show b∈([]:List Addr) from z) (by simp)
 refine⟨⟨e0.mod,S.kind,rfl,rfl,Nat.le_refl _,fun y z c h1 h2=>?_,fun y hy=>?_,fun y c _ h=>?_,fun _=>hd,Around.frames_deeper e0.frames,.inr ⟨rfl,rfl⟩,fun b z=>absurd z (noA b),e0.bs,e0.bsz,fun b _ _=>noA b,fun b z=>absurd z (noA b),e0.funs,e0.frf⟩,
  rfl,e0.bare,Un.kept hk,⟨_,x.toInCall.ns,fun i y v h1 h2 h3=>?_⟩,fun y c h=>⟨_,x.cell y c h⟩,e0.hok.fresh (Nat.le_refl _),fun y c h=>?_,fun p hp=>absurd (show p∈([]:List (Addr×Obj)) from hp) (by simp),e0.hok.kept hk,?_⟩
 ·exact name_of_addr x.apart (PySem.mem_of_lookup h1) (PySem.mem_of_lookup h2)
 ·have hy:scope.names.lookup y=some .cell∨scope.names.lookup y=some .free:=hy
  rcases hy with hy | hy
  ·exact Ad hy
  ·exact absurd rfl (S.nofree _ (PySem.mem_of_lookup hy))
 ·exact Nat.le_of_lt (x.above y c (PySem.mem_of_lookup h))
 ·have hi:i<vs.length:=by
   unfold start at h2
   by_cases hi:i<vs.length
   ·exact hi
   ·rw[List.getElem?_append_right (by simpa using hi)] at h2
    rw[List.getElem?_replicate] at h2
    split at h2 <;> cases h2
  have ha:vs[i]?=some v:=by
   unfold start at h2
   rw[List.getElem?_append_left (by simpa using hi),List.getElem?_map] at h2
   cases e:vs[i]? with
   | none=>rw[e] at h2; cases h2
   | some a=>rw[e] at h2; cases h2; rfl
  obtain⟨u,hu,rv⟩:=r.get ha
  have hp:ps[i]?=some y:=by
   rw[← S.pre,List.getElem?_take_of_lt (by omega)]; exact h1
  have ndP:ps.Nodup:=by rw[← S.pre]; exact S.nd.sublist (List.take_sublist _ _)
  refine⟨u,rv,?_⟩
  rcases S.par y (List.mem_of_getElem? hp) with k | k
  ·exact .inl ⟨k,zm ndP hp hu k⟩
  ·obtain⟨c,e⟩:=Ad (n:=s.heap.objs.size+1) k
   refine .inr ⟨.inl k,c,e,?_⟩
   have q:=x.cell y c e
   rw[zh ndP hp hu (by show scope.names.lookup y≠_; rw[k]; decide)] at q
   exact q
 ·exact e0.hok.fresh (Nat.le_of_lt (x.above y c (PySem.mem_of_lookup h)))
 ·unfold start
  show _=N.length
  rw[List.length_append,List.length_map,List.length_replicate]
  omega
theorem JR {CX:CXT} {P:Program} {w:World} {K:PySem.W.Frag} {mg:Str→Option Value} {base:Heap} {k:Nat} {f:Addr} {name qual:Str} {params:Arguments} {body:List Stmt} {scope:Scope} {dV kV doc pm cdv ct oc:Value} {an od:Option Addr}
  {osl:Array (Option Value)} {N ps:List Str} {sp:Sp} (lk:K.lookup f=some ⟨oc,od,.func (PySem.W.fnOf name qual params body scope dV kV doc pm an cdv ct),osl⟩) (hcd:PySem.W.codeIn K cdv qual=true) (S:FnScope N ps scope)
  (len:∀ vs H Q E,sp vs H Q E→vs.length=ps.length)
  (hbody:∀ (A:Around) (outer:List Env) (s:Shared) (H:Hp) (vs:List V) (Q:VK) (E:XK),Room k (A.deeper (envOfC qual scope s.heap.objs.size f cdv))→sp vs H Q E →
   ∃ t,PSs (xK CX P w K mg base N qual scope f cdv A outer s H E) body t∧t { nx:=fun _ H'=>Q .non H',rt:=Q } (start N vs) H) :
  FnOk P w K mg base CX (k+1) f (PySem.W.fnOf name qual params body scope dV kV doc pm an cdv ct) ps sp:=by
 refine⟨len,fun A outer s H args us vs Q E hr e0 hb r hsp=>?_⟩
 have hl:=len _ _ _ _ hsp
 have KX:K.In s.heap:=e0.mod.kin.keeps fun b o e=>(e0.bs b o e).1
 have lim:s.heap.NoLimit:=e0.mod.nolimit.keeps fun b o e=>(e0.bs b o e).1
 have hkind:∀ y∈ps.zip us,scope.names.lookup y.1=some .local∨(scope.names.lookup y.1=some .cell∧((cellsFrom (s.heap.objs.size+1) scope.names []).lookup y.1).isSome=true):=fun ⟨n,v⟩ hy=>by
  rcases S.par n (List.of_mem_zip hy).1 with q | q
  ·exact .inl q
  ·exact .inr ⟨q,PySem.W.cellsFrom_some _ _ _ (.inl q)⟩
 refine codeAny_call_function hr.depth (KX _ _ lk) rfl S.co S.gen rfl (PySem.W.codeRec_of KX hcd) (hb _ _ _ _ ?_)
 refine wpAny_newFunctionEnv_cells S.kind hkind fun env he s1 x=>?_
 subst he
 refine⟨lim.keeps x.toInCall.keep,codeAny_func ?_⟩
 obtain⟨t,ht,hq⟩:=hbody A outer s H vs Q E (hr.deeper _) hsp
 have I:Inv (xK CX P w K mg base N qual scope f cdv A outer s H E) [] (start N vs) H s1:=ED S hr.hd e0 hl r x
 refine wpAny_mono (ht [] s1 (start N vs) H _ I hq) (fun fl s' hs=>?_) fun e s' hs=>hs
 have fin:∀ {σ':St} {H':Hp} {v:V} {u:Value},Inv (xK CX P w K mg base N qual scope f cdv A outer s H E) [] σ' H' s'→RelV v u→Q v H'→CE outer P w H s Q u s' :=
  fun {σ' H' v u} J rv q=>⟨v,H',J.os,J.bare,J.base,J.hok,rv,q⟩
 cases fl with
 | ret u =>
  obtain⟨v,σ',H',J,rv,q⟩:=hs
  exact fin J rv q
 | next =>
  obtain⟨σ',H',J,q⟩:=hs
  exact fin (v:=V.non) (u:=Value.none) J rfl q
 | brk =>
  obtain⟨_,_,_,q⟩:=hs
  exact False.elim q
 | cont =>
  obtain⟨_,_,_,q⟩:=hs
  exact False.elim q
section
variable {X:Cx} {x:Str} {p pos:Pos} {e:Expr} {es:List Expr} {t:TA} {id T:String} {r:List V→Hp→VK→Prop}
def tCB (r:List V→Hp→VK→Prop) (t:TA):TE:=fun σ H Q=>t σ H fun vs H1=>r vs H1 Q
theorem fY (hc:rQ X (.builtin id) r) (hg:Gl X x) (hm:X.mg x=none) (hv:bootBuiltins x=some (.builtin id)) (ha:PA X (e::es) t) (hn:x≠"__name__":=by decide) (hdb:(x == ("__debug__":Str))=false:=by decide)
  (he:starEach (e::es) X.env=(false,eval e X.env)::starEach es X.env:=by rfl) (hpl:(backTo pos (starEach es X.env)).any (·.1)=false:=by rfl):PE X (.Call (.Name x p) (e::es) [] pos) (tCB r t):=by
 intro pins s σ H Q I h
 refine wpAny_Call_Name_kw (tX I hg hm hv ?_ hn hdb)
 exact PyProof.Rows.callWith_builtin1 (thn (ha pos pins s σ H _ I h) fun us s1 ⟨vs,H1,I1,r1,q1⟩=>hc pins s1 σ H1 vs us Q I1 r1 q1) he hpl
theorem nS (hc:rQ X (.type T) r) (hg:Gl X x) (hm:X.mg x=none) (hv:bootBuiltins x=some (.type T)) (ha:PA X (e::es) t) (hn:x≠"__name__":=by decide) (hdb:(x == ("__debug__":Str))=false:=by decide)
  (he:starEach (e::es) X.env=(false,eval e X.env)::starEach es X.env:=by rfl) (hpl:(backTo pos (starEach es X.env)).any (·.1)=false:=by rfl):PE X (.Call (.Name x p) (e::es) [] pos) (tCB r t):=by
 intro pins s σ H Q I h
 refine wpAny_Call_Name_kw (tX I hg hm hv ?_ hn hdb)
 exact PyProof.Rows.callWith_type1 (thn (ha pos pins s σ H _ I h) fun us s1 ⟨vs,H1,I1,r1,q1⟩=>hc pins s1 σ H1 vs us Q I1 r1 q1) he hpl
end
end L2
namespace HT
open PySem PyProof.Rows
section
variable {prog:Program} {w:World} {A:Around} {E:Value→Shared→Prop} {s:Shared}
def sIx (n d:Nat):Option Int→Nat
 | none=>d
 | some v=>if v<0 then (v+(n:Int)).toNat else min v.toNat n
theorem sIx_none (n d:Nat):sIx n d none=d:=rfl
theorem sIx_nat (n d k:Nat):sIx n d (some (k:Int))=min k n:=by
 show (if (k:Int)<0 then ((k:Int)+(n:Int)).toNat else min (k:Int).toNat n)=min k n
 rw[if_neg (by omega),Int.toNat_natCast]
end
end HT
namespace L2
open PySem PySem.Spec PyProof.Rows
abbrev TO:=St→Hp→(Option Int→Hp→Prop)→Prop
def PO (X:Cx) (e:Option Expr) (t:TO):Prop :=
 ∀ (pins:List (Addr×Obj)) (s:Shared) (σ:St) (H:Hp) (Q:Option Int→Hp→Prop),Inv X pins σ H s→t σ H Q →
  wpAny (model X.prog X.w) X.A (evalPart e X.env) (fun u s'=>∃ o H',Inv X pins σ H' s'∧IsPart u o∧Q o H') X.xe s
def B0:TO:=fun _ H Q=>Q none H
def GQ (t:TE):TO:=fun σ H Q=>t σ H fun x H1=>∃ i,x=.int i∧Q (some i) H1
theorem intsAre_of {ns:List Int}:∀ {us:List Value},Vals (ns.map V.int) us→IntsAre us ns:=by
 induction ns with
 | nil=>intro us r; rw[List.map_nil] at r; cases r; exact .nil
 | cons n ns ih =>
  intro us r
  rw[List.map_cons] at r
  cases r with
  | cons r1 r2 =>
   obtain⟨t,e⟩:=r1
   subst e
   exact .cons n t (ih r2)
section
variable {X:Cx} {e:Expr} {te:TE} {lo hi:Option Expr} {tl th:TO} {pos p2:Pos}
theorem Ck:PO X none B0:=by
 intro pins s σ H Q I h
 rw[evalPart_none]
 exact wpAny_pure ⟨none,H,I,.none,h⟩
theorem wN (h:PE X e te):PO X (some e) (GQ te):=by
 intro pins s σ H Q I hw
 rw[evalPart_some]
 refine thn (h pins s σ H _ I hw) fun u s1 ⟨x,H1,I1,r1,q1⟩=>?_
 obtain⟨i,rfl,q⟩:=q1
 obtain⟨t,rfl⟩:=r1
 exact⟨some i,H1,I1,.int i t,q⟩
def SlR (X:Cx) (r:V→Option Int→Option Int→Hp→VK→Prop):Prop :=
 ∀ (pins:List (Addr×Obj)) (s:Shared) (σ:St) (H:Hp) (x:V) (v vl vu:Value) (lo hi:Option Int) (sl:Addr) (Q:VK),Inv X pins σ H s→RelV x v→s.heap.IsSliceOf sl vl vu .none→IsPart vl lo→IsPart vu hi→r x lo hi H Q →
  ∃ T id,typeLookup (.type T) "__getitem__"=pure (some (.builtin id))∧s.TypeIs v T∧wpAny (model X.prog X.w) X.A (getItem v (.ref sl)) (EP X pins σ Q) X.xe s
def tSl (r:V→Option Int→Option Int→Hp→VK→Prop) (te:TE) (tl th:TO):TE:=fun σ H Q=>te σ H fun x H1=>tl σ H1 fun l H2=>th σ H2 fun u H3=>r x l u H3 Q
theorem Ak {r:V→Option Int→Option Int→Hp→VK→Prop} (hr:SlR X r) (he:PE X e te) (hl:PO X lo tl) (hu:PO X hi th):PE X (.Subscript e (.Slice lo hi none p2) pos) (tSl r te tl th):=by
 intro pins s σ H Q I h
 refine Subscript_ (thn (he pins s σ H _ I h) fun v s1 ⟨x,H1,I1,r1,q1⟩=>?_)
 refine wpAny_Slice (thn (hl pins s1 σ H1 _ I1 q1) fun vl s2 ⟨l,H2,I2,pl,q2⟩=>thn (hu pins s2 σ H2 _ I2 q2) fun vu s3 ⟨u,H3,I3,pu,q3⟩=>?_)
 rw[evalPart_none]
 refine wpAny_pure ?_
 have I4:Inv X pins σ H3 { s3 with heap:=s3.heap.push { cls:=.type "slice",data:=.fields #[vl,vu,.none] } }:=I3.kept (t':=s3.toks) fun b ob q=>Heap.get?_push_of_some _ q
 obtain⟨T,id,hT,ht,hg⟩:=hr pins { s3 with heap:=s3.heap.push { cls:=.type "slice",data:=.fields #[vl,vu,.none] } } σ H3 x v vl vu l u s3.heap.objs.size Q I4 r1 (Heap.IsSliceOf.new ..) pl pu q3
 show wpAny (model X.prog X.w) X.A (subscriptTail e (.Slice lo hi none p2) v (.ref s3.heap.objs.size)) (EP X pins σ Q) X.xe { s3 with heap:=s3.heap.push { cls:=.type "slice",data:=.fields #[vl,vu,.none] } }
 exact tail_any (ops:=[.ref s3.heap.objs.size,v]) ht hT hg (by with_unfolding_all rfl)
def xT (xs:List V) (lo hi:Option Int):List V:=(xs.drop (HT.sIx xs.length 0 lo)).take (HT.sIx xs.length xs.length hi-HT.sIx xs.length 0 lo)
theorem Bg (xs:List V) (lo hi:Option Int):(xT xs lo hi).length≤xs.length:=by
 unfold xT
 rw[List.length_take,List.length_drop]
 omega
end
def ixN (n:Nat) (i:Int):Option Nat:=if 0≤i then (if i<n then some i.toNat else none) else if -(n:Int)≤i then some (i+n).toNat else none
def atI {α:Type} (xs:List α) (i:Int):Option α:=(ixN xs.length i).bind fun j=>xs[j]?
theorem Cb {n:Nat} {i:Int} {j:Nat} (h:ixN n i=some j):seqIndex? i n=some j∧j<n∧-(n:Int)≤i∧i<n:=by
 unfold ixN at h
 by_cases h0:0≤i
 ·rw[if_pos h0] at h
  by_cases h1:i<n
  ·rw[if_pos h1] at h
   have e:i.toNat=j:=Option.some.inj h
   exact⟨by rw[seqIndex_of h0 h1,e],by omega,by omega,h1⟩
  ·rw[if_neg h1] at h; cases h
 ·rw[if_neg h0] at h
  by_cases h1:-(n:Int)≤i
  ·rw[if_pos h1] at h
   have e:(i+n).toNat=j:=Option.some.inj h
   exact⟨by rw[seqIndex_neg (by omega) h1,e],by omega,h1,by omega⟩
  ·rw[if_neg h1] at h; cases h
theorem Cn {α:Type} {xs:List α} {i:Int} {v:α} (h:atI xs i=some v):∃ j,seqIndex? i xs.length=some j∧xs[j]?=some v∧j<xs.length∧-(xs.length:Int)≤i∧i<xs.length:=by
 unfold atI at h
 cases e:ixN xs.length i with
 | none=>rw[e] at h; cases h
 | some j =>
  rw[e] at h
  obtain⟨h1,h2,h3,h4⟩:=Cb e
  exact⟨j,h1,h,h2,h3,h4⟩
theorem oh {α:Type} {xs:List α} {j:Nat} {v:α} (h:xs[j]?=some v):atI xs (j:Int)=some v:=by
 have hj:j<xs.length:=(List.getElem?_eq_some_iff.mp h).1
 have e:ixN xs.length (j:Int)=some j:=by
  unfold ixN
  rw[if_pos (by omega),if_pos (by omega)]; simp
 unfold atI; rw[e]; exact h
theorem vV {α:Type} (xs:List α) (v:α):atI (xs++[v]) (-1)=some v:=by
 have hl:(xs++[v]).length=xs.length+1:=by simp
 have e:ixN (xs++[v]).length (-1)=some xs.length:=by
  unfold ixN
  rw[hl,if_neg (by decide),if_pos (by omega)]
  congr 1
  omega
 unfold atI
 rw[e]
 show (xs++[v])[xs.length]?=some v
 simp
def Cm (b:Expr):Prop:=∀ o i,subscripted b false o i=operate [o,i] (getItem o i)
def IxR (X:Cx) (r:R2):Prop :=
 ∀ (value slice:Expr) (pins:List (Addr×Obj)) (s:Shared) (σ:St) (H:Hp) (x y:V) (v u:Value) (Q:VK),Inv X pins σ H s→RelV x v→RelV y u→r x y H Q →
  subscripted slice false v u=operate [v,u] (getItem v u)→wpAny (model X.prog X.w) X.A (subscriptTail value slice v u) (EP X pins σ Q) X.xe s
def MtR (X:Cx) (id:String) (r:V→List V→Hp→VK→Prop):Prop :=
 ∀ (pins:List (Addr×Obj)) (s:Shared) (σ:St) (H:Hp) (x:V) (xs:List V) (v:Value) (us:List Value) (Q:VK),Inv X pins σ H s→RelV x v→Vals xs us→r x xs H Q →
  wpAny (model X.prog X.w) X.A (call (.builtin id) (v::us)) (EP X pins σ Q) X.xe s
section
variable {X:Cx} {a b:Expr} {ta tb:TE} {pos:Pos}
theorem gu {r:R2} (hr:IxR X r) (ha:PE X a ta) (hb:PE X b tb) (hs:Cm b):PE X (.Subscript a b pos) (tOp r ta tb):=by
 intro pins s σ H Q I h
 exact Subscript_ (Fj ha hb I h fun v u s2 x y H2 I2 rx ry q=>hr a b pins s2 σ H2 x y v u Q I2 rx ry q (hs _ _))
def FS (K:PySem.W.Frag):R2:=fun x y H Q=>∃ p xs i v,x=.ref p∧y=.int i∧SqL K H p xs∧atI xs i=some v∧Q v H
def Fw (K:PySem.W.Frag):R2:=fun x y H Q=>∃ p xs i v,x=.ref p∧y=.int i∧SqT K H p xs∧atI xs i=some v∧Q v H
theorem iV:IxR X (FS X.K):=by
 intro value slice pins s σ H x y v u Q I rx ry h hs
 obtain⟨p,xs,i,z,rfl,rfl,hq,he,q⟩:=h
 cases rx
 obtain⟨t,rfl⟩:=ry
 obtain⟨its,r,pl,hz⟩:=I.list hq
 obtain⟨j,h1,h2,h3,h4,h5⟩:=Cn he
 obtain⟨w,ew,rw'⟩:=r.get h2
 have hl:=r.length
 have hn:=vF
 have fin:EP X pins σ Q w s:=⟨z,H,I,rw',q⟩
 by_cases h0:0≤i
 ·have hj:i.toNat=j:=by
   rw[seqIndex_of h0 h5] at h1
   exact Option.some.inj h1
  exact item_listR pl.isList h0 (by omega) (by rw[hj]; simpa using ew) fin hs
 ·have hj:(i+(its.toArray.size:Int)).toNat=j:=by
   rw[seqIndex_neg (by omega) h4] at h1
   rw[List.size_toArray,← hl]
   exact Option.some.inj h1
  exact subscriptTail_builtinR (x:=w) pl.isList.typeIs slot_list_getitem.lookup
   (wpAny_getItem_list_neg (Q:=fun r s'=>r=w∧EP X pins σ Q r s') pl.isList (by omega) (by rw[List.size_toArray] <;> omega) (by omega) (by rw[hj]; simpa using ew) ⟨rfl,fin⟩) hs
theorem ni:IxR X (Fw X.K):=by
 intro value slice pins s σ H x y v u Q I rx ry h hs
 obtain⟨p,xs,i,z,rfl,rfl,hq,he,q⟩:=h
 cases rx
 obtain⟨t,rfl⟩:=ry
 obtain⟨its,r,pl,hz⟩:=I.tuple hq
 obtain⟨j,h1,h2,h3,h4,h5⟩:=Cn he
 obtain⟨w,ew,rw'⟩:=r.get h2
 have hl:=r.length
 have hn:=vF
 have fin:EP X pins σ Q w s:=⟨z,H,I,rw',q⟩
 exact subscriptTail_builtinR (x:=w) pl.typeIs slot_tuple_getitem.lookup
  (getItem_tuple (j:=j) (Q:=fun r s'=>r=w∧EP X pins σ Q r s') pl (by omega) (by omega) (by rw[List.size_toArray,← hl]; exact h1) (by simpa using ew) ⟨rfl,fin⟩) hs
theorem CQ (its:List Value) (n j:Nat) (u:Value):Obj.mapSeq (·.setIfInBounds j u) { cls:=.type "list",data:=.seq its.toArray n }={ cls:=.type "list",data:=.seq (its.set j u).toArray n }:=by
 simp [Obj.mapSeq]
theorem Inv.lst {pins:List (Addr×Obj)} {σ:St} {H:Hp} {s:Shared} {p:Addr} {xs:List V} (I:Inv X pins σ H s) (h:H p=some (.lst xs)) :
  ∃ (its:List Value) (n:Nat),Vals xs its∧s.heap.get? p=some { cls:=.type "list",data:=.seq its.toArray n }∧xs.length≤sizeLine:=by
 obtain⟨z,its,n,r,e⟩:=I.hok p _ h
 exact⟨its,n,r,e,z⟩
theorem Inv.lstUpd {pins:List (Addr×Obj)} {σ:St} {H:Hp} {s:Shared} {p:Addr} {xs ys:List V} {its its':List Value} {n n':Nat} {f:Obj→Obj} (I:Inv X pins σ H s) (h:H p=some (.lst xs))
  (ho:s.heap.get? p=some { cls:=.type "list",data:=.seq its.toArray n }) (hf:f { cls:=.type "list",data:=.seq its.toArray n }={ cls:=.type "list",data:=.seq its'.toArray n' }) (r:Vals ys its') (hz:ys.length≤sizeLine) (t:Nat) :
  Inv X pins σ (upd H p (.lst ys)) { s with heap:=s.heap.update p f,toks:=t }:=by
 have e:(s.heap.update p f).get? p=some { cls:=.type "list",data:=.seq its'.toArray n' }:=by
  rw[Heap.get?_update_self f ho (by rw[hf] <;> rfl),hf]
 refine I.write (x:=p) (e:=p) (by rw[h]; trivial) (.inl rfl) (fun b u hb q=>(Heap.get?_update_other _ _ (Ne.symm hb)).trans q) ⟨_,e⟩ ?_
 exact⟨hz,its',n',r,e⟩
def GL:V→V→V→Hp→(Hp→Prop)→Prop:=fun o i v H Q=>∃ p xs k j,o=.ref p∧i=.int k∧H p=some (.lst xs)∧ixN xs.length k=some j∧Q (upd H p (.lst (xs.set j v)))
theorem set_list:Fq X GL:=by
 intro pins s σ H o i v ov iv u Q I ro ri rv h
 obtain⟨p,xs,k,j,rfl,rfl,hp,hj,q⟩:=h
 cases ro
 obtain⟨t,rfl⟩:=ri
 obtain⟨its,n,r,ho,hz⟩:=I.lst hp
 obtain⟨h1,h2,h3,h4⟩:=Cb hj
 have hl:=r.length
 have hn:=vF
 have I':Inv X pins σ (upd H p (.lst (xs.set j v))) { s with heap:=s.heap.update p (Obj.mapSeq (·.setIfInBounds j u)) } :=
  I.lstUpd hp ho (CQ its n j u) (r.set rv j) (by rw[List.length_set]; exact hz) s.toks
 by_cases h0:0≤k
 ·have hk:k.toNat=j:=by
   rw[seqIndex_of h0 h4] at h1
   exact Option.some.inj h1
  exact PySem.W.ki_setAt ho h0 (by omega) (by rw[List.size_toArray,← hl]; exact h4) (by rw[hk]; exact⟨_,I',q⟩)
 ·have hk:(k+(its.toArray.size:Int)).toNat=j:=by
   rw[seqIndex_neg (by omega) h3] at h1
   rw[List.size_toArray,← hl]
   exact Option.some.inj h1
  exact PySem.W.ki_setBack ho (by omega) (by rw[List.size_toArray,← hl]; exact h3) (by omega) (by rw[hk]; exact⟨_,I',q⟩)
theorem AH (lo hi:Option Int) (n:Nat):(sliceBounds lo hi none n).1=((HT.sIx n 0 lo:Nat):Int)∧(sliceBounds lo hi none n).2.1=((HT.sIx n n hi:Nat):Int)∧(sliceBounds lo hi none n).2.2=1:=by
 refine⟨?_,?_,rfl⟩
 ·cases lo with
  | none=>simp [sliceBounds,HT.sIx]
  | some i =>
   simp only [sliceBounds,HT.sIx,Option.getD_none,show (1:Int) > 0 by decide,if_true]
   by_cases h:i<0
   ·simp only [h,if_true] <;> omega
   ·simp only [h,if_false] <;> omega
 ·cases hi with
  | none=>simp [sliceBounds,HT.sIx]
  | some i =>
   simp only [sliceBounds,HT.sIx,Option.getD_none,show (1:Int) > 0 by decide,if_true]
   by_cases h:i<0
   ·simp only [h,if_true] <;> omega
   ·simp only [h,if_false] <;> omega
theorem zE (its:List Value) (lo hi:Option Int):slicePick its.toArray lo hi none=((its.drop (HT.sIx its.length 0 lo)).take (HT.sIx its.length its.length hi-HT.sIx its.length 0 lo)).toArray:=by
 obtain⟨h1,h2,h3⟩:=AH lo hi its.toArray.size
 unfold slicePick
 rw[h1,h2,h3]
 simp only [sliceRange_one,pick_run,List.size_toArray] <;> rfl
def E5 (K:PySem.W.Frag):V→Option Int→Option Int→Hp→VK→Prop:=fun x lo hi H Q=>∃ a xs,x=.ref a∧SqL K H a xs∧∀ p,H p=none→Q (.ref p) (upd H p (.lst (xT xs lo hi)))
theorem Hf:SlR X (E5 X.K):=by
 intro pins s σ H x v vl vu lo hi sl Q I rx hs pl pu h
 obtain⟨a,xs,rfl,hx,q⟩:=h
 cases rx
 obtain⟨its,r,ht,hz⟩:=I.list hx
 have hlen:=r.length
 refine⟨"list",_,slot_list_getitem.lookup,ht.isList.typeIs,?_⟩
 refine wpAny_getItem_list_slice ht.isList hs pl pu .none (by simp) ?_ (by rw[List.size_toArray] <;> omega)
 rw[zE,← hlen]
 refine⟨.ref s.heap.objs.size,_,I.laid (t':=s.toks) (o:=.lst (xT xs lo hi)) (fun b ob q=>Heap.get?_push_of_some _ q) (Nat.le_refl _) ?_,rfl,q _ (I.hok.fresh (Nat.le_refl _))⟩
 exact⟨Nat.le_trans (Bg xs lo hi) hz,_,0,(r.drop (HT.sIx xs.length 0 lo)).take (HT.sIx xs.length xs.length hi-HT.sIx xs.length 0 lo),Heap.get?_push_size _ rfl⟩
def uD:V→Bool
 | .non=>true
 | .bl _=>true
 | .int _=>true
 | .str _=>true
 | _=>false
def eqV:V→V→Bool
 | .non,.non=>true
 | .bl a,.bl b=>a == b
 | .bl a,.int b=>(if a then 1 else 0) == b
 | .int a,.bl b=>a == (if b then 1 else 0)
 | .int a,.int b=>a == b
 | .str a,.str b=>a == b
 | _,_=>false
theorem vH {A:Around} {s:Shared} {y x:V} {u v:Value} (ry:RelV y u) (rx:RelV x v) (fy:uD y=true) (fx:uD x=true):SeqAt.EqAt A s u v (eqV y x):=by
 cases y with
 | non =>
  cases ry
  cases x with
  | non=>cases rx; exact SeqAt.EqAt.same _
  | bl b=>cases rx; exact SeqAt.EqAt.none_bool b
  | int b=>obtain⟨t,rfl⟩:=rx; exact SeqAt.EqAt.none_int b t
  | str b=>obtain⟨t,rfl⟩:=rx; exact SeqAt.EqAt.none_str b t
  | _=>exact absurd (show false=true from fx) Bool.false_ne_true
 | bl a =>
  cases ry
  cases x with
  | non=>cases rx; exact SeqAt.EqAt.bool_none a
  | bl b=>cases rx; exact SeqAt.EqAt.bool_bool a b
  | int b=>obtain⟨t,rfl⟩:=rx; exact SeqAt.EqAt.bool_int a b t
  | str b=>obtain⟨t,rfl⟩:=rx; exact SeqAt.EqAt.bool_str a b t
  | _=>exact absurd (show false=true from fx) Bool.false_ne_true
 | int a =>
  obtain⟨t',rfl⟩:=ry
  cases x with
  | non=>cases rx; exact SeqAt.EqAt.int_none a t'
  | bl b=>cases rx; exact SeqAt.EqAt.int_bool a t' b
  | int b=>obtain⟨t,rfl⟩:=rx; exact SeqAt.EqAt.int_int a t' b t
  | str b=>obtain⟨t,rfl⟩:=rx; exact SeqAt.EqAt.int_str a t' b t
  | _=>exact absurd (show false=true from fx) Bool.false_ne_true
 | str a =>
  obtain⟨t',rfl⟩:=ry
  cases x with
  | non=>cases rx; exact SeqAt.EqAt.str_none a t'
  | bl b=>cases rx; exact SeqAt.EqAt.str_bool a t' b
  | int b=>obtain⟨t,rfl⟩:=rx; exact SeqAt.EqAt.str_int a t' b t
  | str b=>obtain⟨t,rfl⟩:=rx; exact SeqAt.EqAt.str_str a t' b t
  | _=>exact absurd (show false=true from fx) Bool.false_ne_true
 | _=>exact absurd (show false=true from fy) Bool.false_ne_true
def eqU (x:V) (u:Value):Bool:=match u with
 | .none=>eqV .non x
 | .bool b=>eqV (.bl b) x
 | .int i _=>eqV (.int i) x
 | .str z _=>eqV (.str z) x
 | _=>false
theorem DB {x y:V} {u:Value} (r:RelV y u) (f:uD y=true):eqU x u=eqV y x:=by
 cases y with
 | non=>cases r; rfl
 | bl b=>cases r; rfl
 | int i=>obtain⟨t,rfl⟩:=r; rfl
 | str z=>obtain⟨t,rfl⟩:=r; rfl
 | _=>exact absurd (show false=true from f) Bool.false_ne_true
theorem yO {x:V}:∀ {xs:List V} {us:List Value},Vals xs us→xs.all uD=true→us.any (eqU x)=xs.any fun y=>eqV y x
 | _,_,.nil,_=>rfl
 | y::xs,u::us,.cons r t,f=>by
  rw[List.all_cons,Bool.and_eq_true] at f
  rw[List.any_cons,List.any_cons,DB r f.1,yO t f.2]
theorem xU {A:Around} {s:Shared} {x:V} {v:Value} (rx:RelV x v) (fx:uD x=true):∀ {xs:List V} {us:List Value},Vals xs us→xs.all uD=true→∀ u∈us,SeqAt.EqAt A s u v (eqU x u)
 | _,_,.nil,_=>fun u hu=>by cases hu
 | y::xs,u::us,.cons r t,f=>fun u' hu=>by
  rw[List.all_cons,Bool.and_eq_true] at f
  rcases List.mem_cons.mp hu with rfl | hu
  ·rw[DB r f.1]; exact vH r rx f.1 fx
  ·exact xU rx fx t f.2 u' hu
def inV (x:V) (xs:List V):Bool:=xs.any fun y=>eqV y x
def rIn (K:PySem.W.Frag) (neg:Bool):R2:=fun x y H Q=>∃ p xs,y=.ref p∧(SqL K H p xs∨SqT K H p xs)∧uD x=true∧xs.all uD=true∧Q (.bl (if neg then !inV x xs else inV x xs)) H
theorem EG:OpR X (compareOp .In) (rIn X.K false):=by
 intro pins s σ H x y v u Q I rx ry h
 obtain⟨p,xs,rfl,hq,fx,fs,q⟩:=h
 cases ry
 rcases hq with hq | hq
 ·obtain⟨its,r,pl,hz⟩:=I.list hq
  refine SeqAt.in_listAt (eqU x) pl.isList (fun w hw=>xU rx fx r fs w (by simpa using hw)) ⟨.bl _,H,I,rfl,?_⟩
  rw[show its.toArray.any (eqU x)=its.any (eqU x) by simp,yO r fs]
  exact q
 ·obtain⟨its,r,pl,hz⟩:=I.tuple hq
  refine SeqAt.in_tupleAt (eqU x) pl (fun w hw=>xU rx fx r fs w (by simpa using hw)) ⟨.bl _,H,I,rfl,?_⟩
  rw[show its.toArray.any (eqU x)=its.any (eqU x) by simp,yO r fs]
  exact q
theorem iU:rQ X (.builtin "len") (fun xs H Q=>∃ p ys,xs=[.ref p]∧(SqL X.K H p ys∨SqT X.K H p ys)∧Q (.int ys.length) H):=by
 intro pins s σ H xs us Q I r h
 obtain⟨p,ys,rfl,hq,q⟩:=h
 obtain⟨u,rfl,rx⟩:=vals1 r
 cases rx
 have hn:=vF
 rcases hq with hq | hq
 ·obtain⟨its,r',pl,hz⟩:=I.list hq
  have hlen:=r'.length
  exact Calls.call_len_list pl.isList (by simp only [List.size_toArray] <;> omega) ⟨.int ys.length,H,I.tok _,⟨s.toks+1,by rw[List.size_toArray,hlen]⟩,q⟩
 ·obtain⟨its,r',pl,hz⟩:=I.tuple hq
  have hlen:=r'.length
  exact len_tuple pl (by simp only [List.size_toArray] <;> omega) ⟨.int ys.length,H,I.tok _,⟨s.toks+1,by rw[List.size_toArray,hlen]⟩,q⟩
theorem Aq:rQ X (.type "list") (fun xs H Q=>∃ p ys,xs=[.ref p]∧(SqL X.K H p ys∨SqT X.K H p ys)∧∀ l,H l=none→Q (.ref l) (upd H l (.lst ys))):=by
 intro pins s σ H xs us Q I r h
 obtain⟨p,ys,rfl,hq,q⟩:=h
 obtain⟨u,rfl,rx⟩:=vals1 r
 cases rx
 have fin:∀ (its:List Value),Vals ys its→ys.length≤sizeLine→∀ (h':Heap) (c':Nat),(∀ b o',s.heap.get? b=some o'→h'.get? b=some o') →
   h'.get? s.heap.objs.size=some { cls:=.type "list",dict:=none,data:=.seq its.toArray c',slots:=#[] }→EP X pins σ Q (.ref s.heap.objs.size) { s with heap:=h' }:=fun its r' hz h' c' kp e =>
  ⟨.ref s.heap.objs.size,_,I.laid (t':=s.toks) kp (Nat.le_refl _) (show ObjOk X.prog X.w _ h' _ (.lst ys) from ⟨hz,its,c',r',e⟩),rfl,q _ (I.hok.fresh (Nat.le_refl _))⟩
 rcases hq with hq | hq
 ·obtain⟨its,r',pl,hz⟩:=I.list hq
  have hlen:=r'.length
  obtain⟨o,ho,hc,n,hd⟩:=pl.isList
  exact call_list_seq p (.inl rfl) ho hc hd (fun h' c' kp e=>fin its r' hz h' c' kp e) (by simp only [List.size_toArray] <;> omega)
 ·obtain⟨its,r',pl,hz⟩:=I.tuple hq
  have hlen:=r'.length
  obtain⟨o,ho,hc,n,hd⟩:=pl
  exact call_list_seq p (.inr rfl) ho hc hd (fun h' c' kp e=>fin its r' hz h' c' kp e) (by simp only [List.size_toArray] <;> omega)
def tyV (K:PySem.W.Frag) (T:String) (x:V) (H:Hp):Prop:=match x with
 | .str _=>T = "str"
 | .int _=>T = "int"
 | .ref p=>(T = "list"∧∃ xs,SqL K H p xs)∨(T = "tuple"∧∃ o,K.lookup p=some o∧o.cls=.type "tuple"∧o.dict=none) ∨
   (T = "dict"∧((∃ kvs,H p=some (.dK kvs))∨∃ kvs,H p=some (.dT kvs)))∨(T = "set"∧∃ S n,H p=some (.set S n))
 | _=>False
theorem Je {pins:List (Addr×Obj)} {σ:St} {H:Hp} {s:Shared} {T:String} {x:V} {v:Value} (I:Inv X pins σ H s) (r:RelV x v) (ty:tyV X.K T x H) :
  s.TypeIs v T∧∀ a,v=.ref a→∃ ob,s.heap.get? a=some ob∧ob.dict=none:=by
 cases x with
 | str z =>
  obtain⟨t,rfl⟩:=r
  cases (show T = "str" from ty)
  exact⟨typeIs_str s z t,fun _ e=>nomatch e⟩
 | int i =>
  obtain⟨t,rfl⟩:=r
  cases (show T = "int" from ty)
  exact⟨typeIs_int s i t,fun _ e=>nomatch e⟩
 | ref p =>
  cases r
  rcases ty with ⟨rfl,xs,hq⟩ | ⟨rfl,o,hk,hc,hd⟩ | ⟨rfl,hk⟩ | ⟨rfl,S,n,hk⟩
  ·obtain⟨its,_,pl,_⟩:=I.list hq
   refine⟨pl.isList.typeIs,fun a e=>?_⟩
   cases e
   obtain⟨o,n,e,c,hd,_⟩:=pl
   exact⟨o,e,hd⟩
  ·refine⟨⟨o,I.kIn p o hk,hc⟩,fun a e=>?_⟩
   cases e
   exact⟨o,I.kIn _ o hk,hd⟩
  ·have z:∃ o,s.heap.get? p=some o∧o.ExactDict:=by
    rcases hk with ⟨kvs,hk⟩ | ⟨kvs,hk⟩
    ·obtain⟨_,_,_,_,o,_,_,e,ex,_⟩:=I.hok p _ hk
     exact⟨o,e,ex⟩
    ·obtain⟨_,_,_,_,o,_,_,e,ex,_⟩:=I.hok p _ hk
     exact⟨o,e,ex⟩
   obtain⟨o,e,ex⟩:=z
   refine⟨⟨o,e,ex.1⟩,fun a e2=>?_⟩
   cases e2
   exact⟨o,e,ex.2.1⟩
  ·obtain⟨o,_,_,_,e,ex,_⟩:=I.hok p _ hk
   refine⟨⟨o,e,ex.1⟩,fun a e2=>?_⟩
   cases e2
   exact⟨o,e,ex.2.1⟩
 | _=>exact False.elim ty
def tBM (K:PySem.W.Frag) (T:String) (r:V→List V→Hp→VK→Prop) (to:TE) (t:TA):TE:=fun σ H Q=>to σ H fun x H1=>tyV K T x H1∧t σ H1 fun xs H2=>r x xs H2 Q
variable {o e:Expr} {es:List Expr} {to:TE} {t:TA} {name:Str} {apos cpos:Pos} {T id:String} {r:V→List V→Hp→VK→Prop}
theorem uo (pa:PlainAttrs T) (slot:Slot T name id) (hty:typeOf (.builtin id)=pure (.type "method_descriptor")) (hm:MtR X id r) (ho:PE X o to) (ha:PA X (e::es) t)
  (hbase:attributeBase o name X.env (eval o X.env)=eval o X.env:=by rfl)
  (hfew:((backTo cpos (starEach (e::es) X.env)).all (fun x=>!x.1) && (backToKw cpos (keywordEach [] X.env)).all (fun x=>x.1.isSome)
   && decide ((e::es).length+([]:List Keyword).length+(if ([]:List Keyword).isEmpty then 0 else 1)<30))=true:=by rfl)
  (hline:(apos.endLine == cpos.line)=true:=by rfl) (hs:starEach (e::es) X.env=(false,eval e X.env)::starEach es X.env:=by rfl) (hplain:(backTo cpos (starEach es X.env)).any (·.1)=false:=by rfl) :
  PE X (.Call (.Attribute o name apos) (e::es) [] cpos) (tBM X.K T r to t):=by
 intro pins s σ H Q I h
 refine wpAny_Call_method_late hbase hfew hline rfl (thn (ho pins s σ H _ I h) fun v s1 ⟨x,H1,I1,r1,ty,q1⟩=>?_)
 obtain⟨h1,h2⟩:=Je I1 r1 ty
 refine⟨T,id,pa,slot,hty,h1,h2,?_⟩
 have hA:=ha cpos pins s1 σ H1 _ I1 q1
 rw[hs] at hA ⊢
 refine Calls.callWith_builtin (by show (false || (backTo cpos (starEach es X.env)).any (·.1))=false; rw[hplain] <;> rfl) (Calls.evalArgs_plain ?_)
 exact thn hA fun us s2 ⟨vs,H2,I2,r2,q2⟩=>hm pins s2 σ H2 x vs v us Q I2 r1 r2 q2
end
def MtM (X:Cx) (id:String) (r:V→List V→Hp→VK→Prop):Prop :=
 ∀ (pins:List (Addr×Obj)) (s:Shared) (σ:St) (H:Hp) (x:V) (xs:List V) (v:Value) (us:List Value) (Q:VK),Inv X pins σ H s→RelV x v→Vals xs us→r x xs H Q →
  wpAny (model X.prog X.w) X.A (call (.builtin id) (v::us)) (EP X pins σ Q) X.xe s
theorem Vals.one:∀ {x:V} {us:List Value},Vals [x] us→∃ u,us=[u]∧RelV x u
 | _,_,.cons r .nil=>⟨_,rfl,r⟩
theorem Vals.zero:∀ {us:List Value},Vals [] us→us=[]
 | _,.nil=>rfl
theorem Vals.eraseIdx:∀ {xs:List V} {us:List Value} (i:Nat),Vals xs us→Vals (xs.eraseIdx i) (us.eraseIdx i)
 | _,_,_,.nil=>.nil
 | _,_,0,.cons _ t=>t
 | _,_,i+1,.cons r t=>.cons r (Vals.eraseIdx i t)
theorem Vals.reverse {xs:List V} {us:List Value} (h:Vals xs us):Vals xs.reverse us.reverse:=by
 induction h with
 | nil=>exact .nil
 | cons r t ih=>rw[List.reverse_cons,List.reverse_cons]; exact Vals.append ih (.cons r .nil)
theorem Vals.rep {xs:List V} {us:List Value} (h:Vals xs us):∀ k:Nat,Vals (List.replicate k xs).flatten (List.replicate k us).flatten
 | 0=>.nil
 | k+1=>by
  rw[List.replicate_succ,List.replicate_succ,List.flatten_cons,List.flatten_cons]
  exact Vals.append h (Vals.rep h k)
theorem zb {α:Type}:∀ (l:List α) (i:Nat),(l.eraseIdx i).length≤l.length
 | [],_=>Nat.le_refl _
 | _::_,0=>Nat.le_succ _
 | _::r,i+1=>Nat.succ_le_succ (zb r i)
theorem foldl_rep (its:List Value):∀ (k:Nat) (acc:List Value),
  List.foldl (fun x1 x2=>x1++x2) acc.toArray (List.replicate k its.toArray)=(acc++(List.replicate k its).flatten).toArray
 | 0,acc=>by simp
 | k+1,acc=>by
  have e:acc.toArray++its.toArray=(acc++its).toArray:=by simp
  have e2:(acc++its)++(List.replicate k its).flatten=acc++(List.replicate (k+1) its).flatten:=by
   rw[List.replicate_succ,List.flatten_cons,List.append_assoc]
  rw[← e2,← foldl_rep its k (acc++its),← e,List.replicate_succ,List.foldl_cons]
section
variable {X:Cx} {pins:List (Addr×Obj)} {σ:St} {H:Hp} {s:Shared} {l b:Addr} {xs ys zs:List V}
theorem Inv.lset {its its':List Value} {n:Nat} {f:Array Value→Array Value} {t':Nat} (I:Inv X pins σ H s) (hH:H l=some (.lst xs))
  (e:s.heap.get? l=some { cls:=.type "list",data:=.seq its.toArray n }) (hf:f its.toArray=its'.toArray) (hv:Vals ys its') (hz:ys.length≤sizeLine) :
  Inv X pins σ (upd H l (.lst ys)) { s with heap:=s.heap.update l (Obj.mapSeq f),toks:=t' }:=by
 have q:=PySem.IsL.update e f
 rw[hf] at q
 refine I.write (x:=l) (e:=l) (by rw[hH]; exact trivial) (.inl rfl) (fun b' u hb hu=>(Heap.get?_update_other s.heap (Obj.mapSeq f) (Ne.symm hb)).trans hu) ⟨_,q⟩ ?_
 exact⟨hz,its',_,hv,q⟩
theorem Inv.lnew {its:List Value} {t':Nat} (I:Inv X pins σ H s) (hv:Vals ys its) (hz:ys.length≤sizeLine) :
  Inv X pins σ (upd H s.heap.objs.size (.lst ys)) { s with heap:=s.heap.push { cls:=.type "list",data:=.seq its.toArray },toks:=t' } :=
 I.laid (fun _ _ q=>Heap.get?_push_of_some _ q) (Nat.le_refl _) ⟨hz,its,0,hv,Heap.get?_push_size _ rfl⟩
theorem Inv.fresh (I:Inv X pins σ H s):H s.heap.objs.size=none:=I.hok.fresh (Nat.le_refl _)
theorem Inv.lstM (I:Inv X pins σ H s) (hH:H l=some (.lst xs)):xs.length≤sizeLine∧∃ (its:List Value) (n:Nat),Vals xs its∧xs.length=its.length∧s.heap.get? l=some { cls:=.type "list",data:=.seq its.toArray n }:=by
 obtain⟨z,its,n,r,e⟩:=I.hok l _ hH
 exact⟨z,its,n,r,r.length,e⟩
theorem zW {n:Nat} (h:n≤sizeLine):Builtin.List.listTooLong n=false:=by
 unfold Builtin.List.listTooLong
 exact decide_eq_false (by omega)
end
section
variable {X:Cx}
def BY:V→List V→Hp→VK→Prop:=fun x vs H Q=>∃ l xs y,x=.ref l∧vs=[y]∧H l=some (.lst xs)∧xs.length<sizeLine∧Q .non (upd H l (.lst (xs++[y])))
theorem nR:MtM X "list.append" BY:=by
 intro pins s σ H x vs v us Q I rx rv h
 obtain⟨l,xs,y,rfl,rfl,hH,hz,q⟩:=h
 cases rx
 obtain⟨u,rfl,ru⟩:=rv.one
 obtain⟨z,its,n,r,hl,e⟩:=I.lstM hH
 refine call_meets F.slot_list_append ⟨_,e,rfl⟩ F.entry_list_append (F.args_list_append_2 _ _) (PySem.list_append l its.toArray n u (by rw[List.size_toArray]; omega)) ⟨e,?_⟩
 refine⟨.non,_,I.lset (its':=its++[u]) hH e (by simp) (r.append (.cons ru .nil)) ?_,rfl,q⟩
 rw[List.length_append,List.length_singleton]
 omega
def HM:V→List V→Hp→VK→Prop:=fun x vs H Q=>∃ l b xs zs,x=.ref l∧vs=[.ref b]∧H l=some (.lst xs)∧H b=some (.lst zs)∧xs.length+zs.length≤sizeLine∧Q .non (upd H l (.lst (xs++zs)))
theorem J3:MtM X "list.extend" HM:=by
 intro pins s σ H x vs v us Q I rx rv h
 obtain⟨l,b,xs,zs,rfl,rfl,hH,hB,hz,q⟩:=h
 cases rx
 obtain⟨u,rfl,ru⟩:=rv.one
 cases ru
 obtain⟨z,its,n,r,hl,e⟩:=I.lstM hH
 obtain⟨z2,its2,n2,r2,hl2,e2⟩:=I.lstM hB
 have hsz:its.toArray.size+its2.toArray.size≤sizeLine:=by rw[List.size_toArray,List.size_toArray]; omega
 have hlong:¬ (!its.toArray.isEmpty && Builtin.List.listTooLong (its.toArray.size+its2.toArray.size))=true:=by
  rw[zW hsz,Bool.and_false]
  exact Bool.false_ne_true
 refine call_meets F.slot_list_extend ⟨_,e,rfl⟩ F.entry_list_extend (F.args_list_extend_2 _ _)
  (AutoSeq1.list_extend_list_list_0 l its.toArray n b its2.toArray n2 hlong (by rw[List.size_toArray]; omega) (by omega)) ⟨e,e2,?_⟩
 refine⟨.non,_,I.lset (its':=its++its2) hH e (by simp) (r.append r2) ?_,rfl,q⟩
 rw[List.length_append]
 omega
def Ez:V→List V→Hp→VK→Prop:=fun x vs H Q=>∃ l xs i k y,x=.ref l∧vs=[.int i]∧H l=some (.lst xs)∧-(2 ^ 63)≤i∧i<2 ^ 63∧seqIndex? i xs.length=some k∧xs[k]?=some y∧Q y (upd H l (.lst (xs.eraseIdx k)))
theorem Gn:MtM X "list.pop" Ez:=by
 intro pins s σ H x vs v us Q I rx rv h
 obtain⟨l,xs,i,k,y,rfl,rfl,hH,h1,h2,hk,hy,q⟩:=h
 cases rx
 obtain⟨u,rfl,ru⟩:=rv.one
 obtain⟨t,rfl⟩:=ru
 obtain⟨z,its,n,r,hl,e⟩:=I.lstM hH
 obtain⟨w,hw,rw'⟩:=r.get hy
 refine call_meets F.slot_list_pop ⟨_,e,rfl⟩ F.entry_list_pop (F.args_list_pop_2 _ _)
  (MeetsSeq.list_pop_at l its.toArray n i t k w (fitsIndex_both h1 h2) (by rw[List.size_toArray,← hl]; exact hk) (by rw[← Array.getElem?_toList]; exact hw) (by rw[List.size_toArray]; omega)) ⟨e,?_⟩
 refine⟨y,_,I.lset (its':=its.eraseIdx k) hH e ?_ (r.eraseIdx k) ?_,rw',q⟩
 ·show its.toArray.eraseIdxIfInBounds k=(its.eraseIdx k).toArray
  rw[List.eraseIdxIfInBounds_toArray]
 ·have:=zb xs k
  omega
def Ie:R2:=fun x y H Q=>∃ l b xs zs,x=.ref l∧y=.ref b∧H l=some (.lst xs)∧H b=some (.lst zs)∧xs.length+zs.length≤sizeLine∧∀ p,H p=none→Q (.ref p) (upd H p (.lst (xs++zs)))
theorem AZ:OpR X (binaryOp .Add) Ie:=by
 intro pins s σ H x y v u Q I rx ry h
 obtain⟨l,b,xs,zs,rfl,rfl,hH,hB,hz,q⟩:=h
 cases rx
 cases ry
 obtain⟨z,its,n,r,hl,e⟩:=I.lstM hH
 obtain⟨z2,its2,n2,r2,hl2,e2⟩:=I.lstM hB
 refine PySem.P.add_list e e2 ?_ (by rw[List.size_toArray,List.size_toArray]; omega)
 have ea:its.toArray++its2.toArray=(its++its2).toArray:=by simp
 rw[ea]
 exact⟨.ref _,_,I.lnew (t':=s.toks) (r.append r2) (by rw[List.length_append]; omega),rfl,q _ I.fresh⟩
def JG:R2:=fun x y H Q=>∃ l k xs,x=.ref l∧y=.int k∧H l=some (.lst xs)∧-(2 ^ 63)≤k∧k<2 ^ 63∧xs.length * k.toNat≤sizeLine ∧
 ∀ p,H p=none→Q (.ref p) (upd H p (.lst (List.replicate k.toNat xs).flatten))
theorem len_rep {α:Type} (xs:List α) (k:Nat):(List.replicate k xs).flatten.length=k * xs.length:=by
 induction k with
 | zero=>simp
 | succ k ih=>rw[List.replicate_succ,List.flatten_cons,List.length_append,ih,Nat.succ_mul,Nat.add_comm]
theorem IB:OpR X (binaryOp .Mult) JG:=by
 intro pins s σ H x y v u Q I rx ry h
 obtain⟨l,k,xs,rfl,rfl,hH,h1,h2,hz,q⟩:=h
 cases rx
 obtain⟨t,rfl⟩:=ry
 obtain⟨z,its,n,r,hl,e⟩:=I.lstM hH
 have hlen:its.toArray.size * k.toNat≤sizeLine:=by rw[List.size_toArray,← hl]; exact hz
 have hcap:¬ its.toArray.size * k.toNat > (2 ^ 63-1) / 8:=by
  have:(sizeLine:Nat)≤(2 ^ 63-1) / 8:=by decide
  omega
 have hfit:¬ (!Builtin.List.listFitsIndex k)=true:=by
  rw[fitsIndex_both h1 h2]
  exact Bool.false_ne_true
 have hlong:¬ Builtin.List.listTooLong (its.toArray.size * k.toNat)=true:=by
  rw[zW hlen]
  exact Bool.false_ne_true
 have hnew:List.foldl (fun x1 x2=>x1++x2) #[] (List.replicate (if its.toArray.isEmpty=true then 0 else k.toNat) its.toArray)=(List.replicate k.toNat its).flatten.toArray:=by
  have f0:∀ m:Nat,List.foldl (fun x1 x2=>x1++x2) #[] (List.replicate m its.toArray)=(List.replicate m its).flatten.toArray:=fun m=>by
   have:=foldl_rep its m []
   rw[List.nil_append] at this
   exact this
  rw[f0]
  cases its with
  | nil=>simp
  | cons a r'=>rw[if_neg (by simp)]
 refine wpAny_binaryOp_repeat_ref (T:="list") (U:="int") (by decide) ⟨_,e,rfl⟩ (fun s'=>typeIs_int s' k t) noFill_list_mul F.fills_int_mul F.slot_int_rmul repeat_list F.slot_int_index.lookup
  (call_meets F.slot_int_rmul (typeIs_int s k t) F.entry_int_rmul (F.args_int_rmul_2 _ _) (int___rmul___int_list k t l its.toArray n)
   ⟨e,rfl,⟨_,e,rfl⟩,call_meets F.slot_list_mul ⟨_,e,rfl⟩ F.entry_list_mul (F.args_list_mul_2 _ _) (AutoListH.list___mul___list_int_3 l its.toArray n k t hfit hcap hlong) ⟨e,?_⟩⟩)
 rw[hnew]
 exact⟨.ref _,_,I.lnew (t':=s.toks) (r.rep k.toNat) (by rw[len_rep,Nat.mul_comm]; exact hz),rfl,q _ I.fresh⟩
end
end L2
namespace Att
open PySem PySem.W PySem.Calls PyProof.Rows
theorem ya {P:Params} {h:Heap}:∀ (ns:List Int) (vs:List Value),WellAll P h vs (ns.map WData.int)→IntsAre vs ns:=by
 intro ns
 induction ns with
 | nil =>
  intro vs w
  rw[List.map_nil] at w
  cases w
  exact .nil
 | cons n ns ih =>
  intro vs w
  rw[List.map_cons] at w
  cases w with
  | cons a b =>
   cases a
   exact .cons _ _ (ih _ b)
theorem Ef {l:OpenLaw} {n:Nat} (hn:l.most=some n) {P:Params} {h:Heap} {args:List WData} {vals:List Value}
  (hpre:l.row.toRowW.claim.pre args=true) (hwl:WellAll P h vals args) :
  ∃ a vs ns,vals=[Value.ref a]∧args=[WData.list (ns.map WData.int)]∧h.get? a=some { cls:=.type "list",data:=.seq vs.toArray }∧IntsAre vs ns∧ns.length≤n:=by
 have hsh:WShape.hasAll [] args [.list .int]=true:=(pre_splitW hpre).1
 have hc:l.pre.holds [] { args:=args }=true:=(pre_splitW hpre).2
 obtain⟨d,r,rfl,h1,h2⟩:=hasAllW_cons hsh
 obtain rfl:=hasAllW_nil h2
 obtain⟨xs,rfl,h3⟩:=hasW_list h1
 obtain⟨ns,rfl⟩:=items_int h3
 have hlen:ns.length≤n:=by
  unfold OpenLaw.pre at hc
  have h4:(WTm.not (.lt (.lit (.int (n:Int))) (.len (.arg 0)))).holds [] { args:=[.list (ns.map .int)] }=true:=by
   have h4:=(holds_andW hc).1
   rw[hn] at h4
   exact h4
  have h5:=condW_of h4 (w_not (w_lt w_lit (w_len_list (w_arg rfl))))
  rw[List.length_map] at h5
  refine Nat.le_of_not_lt fun q=>?_
  have q':(n:Int)<((ns.length:Nat):Int):=by omega
  first
   | (rw[decide_eq_true q'] at h5; exact absurd h5 (by decide))
   | (simp at h5; omega)
 cases hwl with
 | cons w1 w2 =>
  cases w2
  cases w1 with
  | list ho hall=>exact⟨_,_,ns,rfl,rfl,ho,ya ns _ hall,hlen⟩
theorem Ek (l:OpenLaw) (args:List WData):l.row.toRowW.claim.post args (.bool true) args=true :=
 postW_of (r:=l.row.toRowW) (X:=(true == true))
  (show WShape.has [] (.bool true) .bool=true by first | rfl | decide | simp [WShape.has,WShape.arms,WShape.armsAll])
  (show (WTm.eq .res (.lit (.bool true))).value [] { args:=args,res:=some (.bool true),after:=args }=some (.bool (true == true)) from w_eq_bool (w_res rfl) w_lit) rfl
theorem attach_call {l:OpenLaw} {n:Nat} {q:Program} {loose:List Str} {XP:(Str→Option Value)→Heap→Prop} {YP:World→Heap→Prop} {d:DefRec}
  (hn:l.most=some n) (hdf:d.params.defaults=[])
  (call:∀ (w:World) (s₀ s₁:Shared) (mg mb:Str→Option Value) (fa:Addr) (o:Obj) (pm cd doc:Value) (a:Addr) (vs:List Value) (ns:List Int),
   Ground q loose [] XP w s₀ mg mb s₁.heap→YP w s₁.heap →
   s₁.heap.get? fa=some o→o.data=.func (docDef d.name d.params d.body d.scope pm cd doc)→s₁.heap.CodeRec cd d.name→mg d.name=some (.ref fa) →
   s₁.heap.get? a=some { cls:=.type "list",data:=.seq vs.toArray }→IntsAre vs ns→ns.length≤n→s₁.gens = #[] →
   codeAny (model l.prog w) callerA (.call (.ref fa) ⟨[.ref a],[]⟩) (fun r s'=>r=.ok (.ret (.bool true))∧OldK s₁.heap s'.heap∧s'.os=s₁.os∧AllBare s'.gens) s₁) :
  WalkO q loose XP YP l.row.toRowW d [] (fun f vs=>PySem.call f vs):=by
 intro w s₀ s₁ mg mb G Y fa o pm cd doc dV kV ho hd hcd hD hmg hg args vals as hpre hlay hrd hwl hlo
 obtain rfl:dV=.none:=Dflts.none hD hdf
 obtain rfl:kV=.none:=Dflts.noKw hD
 obtain⟨a,vs,ns,rfl,rfl,hobj,hints,hlen⟩:=Ef hn hpre hwl
 refine enter_call (codeAny_mono (call w s₀ s₁ mg mb fa o pm cd doc a vs ns G Y ho (fd_plain hd) hcd hmg hobj hints hlen hg) fun r s' hq=>?_)
 obtain⟨rfl,h2,h3,h4⟩:=hq
 exact⟨.inl ⟨.bool true,.bool true,[],rfl,fun _=>rfl,.bool true,Ek l _,fun _=>⟨List.Pairwise.nil,fun _ hm=>(nomatch hm)⟩⟩,h2,h3,h4⟩
end Att
namespace L2
open PySem PySem.Spec PyProof.Rows
theorem wz:∀ {vs:List Value} {ns:List Int},IntsAre vs ns→Vals (ns.map V.int) vs
 | _,_,.nil=>.nil
 | _,_,.cons n t h=>.cons ⟨t,rfl⟩ (wz h)
def Fk (H:Hp):Prop:=∀ b,H b=none∨∃ o xs,H b=some (.frz o (.lst xs))
theorem FQ {P:Program} {w:World} {K:PySem.W.Frag} {mg mb:Str→Option Value} {CX:CXT} {k:Nat} {fa a:Addr} {fd:FuncData} {x:Str} {sp:Sp} {s₁:Shared} {vs:List Value} {ns:List Int}
  (KX:K.In s₁.heap) (hns:s₁.heap.Ns mainGlobals mg) (hb:s₁.heap.Ns builtinsNs mb) (hbb:∀ x:Str,x≠"__name__"→mb x=bootBuiltins x) (hlim:s₁.heap.NoLimit) (hg:s₁.gens = #[])
  (ha:s₁.heap.get? a=some { cls:=.type "list",data:=.seq vs.toArray }) (hi:IntsAre vs ns) (hl:ns.length≤sizeLine) (hr:Room k callerA)
  (F:∀ base:Heap,K.In base→base.Ns mainGlobals mg→FnOk P w K mg base CX k fa fd [x] sp) (hbind:∀ (s:Shared) (u:Value),BindsTo s fd ⟨[u],[]⟩ [(x,u)])
  (hsp:∀ H:Hp,Fk H→SqL K H a (ns.map V.int)→sp [.ref a] H (fun v _=>v=.bl true) fun _ _ _=>False)
  (hCX:∀ H e s',CX [] H s₁ (fun _ _ _=>False) e s'→False) :
  codeAny (model P w) callerA (.call (.ref fa) ⟨[.ref a],[]⟩) (fun r s'=>r=.ok (.ret (.bool true))∧OldK s₁.heap s'.heap∧s'.os=s₁.os∧AllBare s'.gens) s₁:=by
 have rv:=wz hi
 have lenV:=hi.length
 -- from an abstract heap in which nothing but the script may be tracked
 have core:∀ H:Hp,Fk H→SqL K H a (ns.map V.int)→HOk P w H s₁.heap→(∀ b,H b≠none→b=a)→(H a≠none→K.lookup a=none) →
   codeAny (model P w) callerA (.call (.ref fa) ⟨[.ref a],[]⟩) (fun r s'=>r=.ok (.ret (.bool true))∧OldK s₁.heap s'.heap∧s'.os=s₁.os∧AllBare s'.gens) s₁:=by
  intro H hO hS hok hA hK
  have base_of:∀ {b:Addr} {o:Obj},s₁.heap.get? b=some o→H b=none→(vX s₁.heap H).get? b=some o:=fun e n=>FY e n
  have noA:∀ {b:Addr} {o:Obj} {es:Array DictEntry} {ep:Nat},s₁.heap.get? b=some o→o.data=.dict es ep→H b=none:=fun {b o es ep} e d=>by
   cases q:H b with
   | none=>rfl
   | some u =>
    have e':b=a:=hA b (by rw[q]; simp)
    subst e'
    rw[ha] at e; cases e
    have d':Data.seq vs.toArray _=Data.dict es ep:=d
    cases d'
  have nsK:∀ {b:Addr} {m:Str→Option Value},s₁.heap.Ns b m→(vX s₁.heap H).Ns b m:=fun {b m} ⟨o,es,ep,e,d,r⟩=>⟨o,es,ep,base_of e (noA e d),d,r⟩
  have hKb:K.In (vX s₁.heap H):=fun b o e=>base_of (KX b o e) (by
   cases q:H b with
   | none=>rfl
   | some u =>
    have e':b=a:=hA b (by rw[q]; simp)
    subst e'
    rw[hK (by rw[q]; simp)] at e; cases e)
  have hM:Mod K mg (vX s₁.heap H):=⟨hKb,nsK hns,⟨mb,nsK hb,hbb⟩,let ⟨mc,h1,h2⟩:=hlim; ⟨mc,nsK h1,h2⟩⟩
  have e0:Env0 P w K mg (vX s₁.heap H) callerA [] s₁ H:=⟨rfl,hM,fun b o e=>Hi e,Nat.le_of_eq (E1 _ _),trivial,fun b hb=>absurd (show b∈([]:List Addr) from hb) (by simp),hok,.of_eq hg⟩
  refine codeAny_mono ((F _ hKb (nsK hns)).run callerA [] s₁ H ⟨[.ref a],[]⟩ [.ref a] [.ref a] _ _ hr e0 (hbind s₁ (.ref a)) (.cons rfl .nil) (hsp H hO hS)) fun r s' h=>?_
  cases r with
  | error e=>exact (hCX H e s' h).elim
  | ok fl =>
   cases fl with
   | next=>exact False.elim h
   | brk=>exact False.elim h
   | cont=>exact False.elim h
   | ret u =>
    obtain⟨v,H',os,bare,un,hok',r',q⟩:=h
    have q':v=.bl true:=q
    subst q'
    obtain rfl:u=Value.bool true:=r'
    refine⟨rfl,OldK.of_keep fun b o e=>?_,os,bare⟩
    cases q:H b with
    | none=>exact un.keep b o e q (by intro z; exact absurd (show b∈([]:List Addr) from z) (by simp)) (by simp)
    | some u =>
     rcases hO b with z | ⟨ob,xs,z⟩
     ·rw[q] at z; cases z
     ·have z2:=un.frzs b ob _ z
      obtain⟨e1,_⟩:=hok b _ z
      obtain⟨e2,_⟩:=hok' b _ z2
      rw[e] at e1; cases e1
      exact e2
 cases hk:K.lookup a with
 | some o =>
  -- the script is one of the module's own objects
  have e:=KX a o hk
  rw[ha] at e
  cases e
  refine core (fun _=>none) (fun _=>.inl rfl) (.inr ⟨_,vs.toArray,_,hk,rfl,rfl,rfl,by rw[List.size_toArray,lenV]; exact hl,by simpa using rv⟩) (fun b u z=>by have z':(none:Option HO)=some u:=z; cases z') (fun b z=>absurd rfl z) fun z=>absurd rfl z
 | none =>
  refine core (fun b=>if b=a then some (.frz { cls:=.type "list",data:=.seq vs.toArray } (.lst (ns.map V.int))) else none) (fun b=>?_) (.inl (.inr ⟨{ cls:=.type "list",data:=.seq vs.toArray },if_pos rfl⟩)) (fun b u z=>?_) (fun b z=>?_) fun _=>hk
  ·by_cases hb:b=a
   ·exact .inr ⟨_,_,if_pos hb⟩
   ·exact .inl (if_neg hb)
  ·by_cases hb:b=a
   ·have z':=(if_pos hb).symm.trans z
    cases z'
    subst hb
    exact⟨ha,by rw[List.length_map]; exact hl,vs,_,rv,ha⟩
   ·have z':=(if_neg hb).symm.trans z
    cases z'
  ·by_cases hb:b=a
   ·exact hb
   ·exact absurd (if_neg hb) z
theorem walk_of {l:PySem.W.OpenLaw} {n k:Nat} {q:Program} {loose:List Str} {XP:(Str→Option Value)→Heap→Prop} {YP:World→Heap→Prop} {d:DefRec} {K:Params→PySem.W.Frag} {CX:World→CXT} {sp:World→Sp} {x:Str}
  (hn:l.most=some n) (hn2:n≤sizeLine) (hdf:d.params.defaults=[]) (hr:Room k callerA)
  (hY:∀ (w:World) (h:Heap),YP w h→(K w.params).In h)
  (F:∀ (w:World) (mg:Str→Option Value) (fa:Addr) (h:Heap),(K w.params).In h→h.Ns mainGlobals mg→mg d.name=some (.ref fa) →
   ∃ fd:FuncData,(∀ (s:Shared) (u:Value),BindsTo s fd ⟨[u],[]⟩ [(x,u)]) ∧
    ∀ base:Heap,(K w.params).In base→base.Ns mainGlobals mg→FnOk l.prog w (K w.params) mg base (CX w) k fa fd [x] (sp w))
  (hsp:∀ (w:World) (H:Hp) (a:Addr) (ns:List Int),ns.length≤n→Fk H→SqL (K w.params) H a (ns.map V.int)→sp w [.ref a] H (fun v _=>v=.bl true) fun _ _ _=>False)
  (hCX:∀ (w:World) (H:Hp) (s:Shared) (e:Value) (s':Shared),CX w [] H s (fun _ _ _=>False) e s'→False) :
  PySem.W.WalkO q loose XP YP l.row.toRowW d [] (fun f vs=>PySem.call f vs):=by
 refine Att.attach_call hn hdf fun w s₀ s₁ mg mb fa o pm cd doc a vs ns G Y ho hd hcd hmg hobj hints hlen hg=>?_
 have KX:=hY w _ Y
 obtain⟨fd,hb,hF⟩:=F w mg fa _ KX G.T.g hmg
 exact FQ KX G.T.g G.T.b G.T.builtins G.T.nolimit hg hobj hints (Nat.le_trans hlen hn2) hr hF hb (fun H hO hS=>hsp w H a ns hlen hO hS) fun H e s'=>hCX w H s₁ e s'
def defArgs (s:Stmt):Arguments:=match s with
 | .FunctionDef _ a _ _ _ _ _ _ _ _=>a
 | _=>{ posonlyargs:=[],args:=[],vararg:=none,kwonlyargs:=[],kw_defaults:=[],kwarg:=none,defaults:=[] }
def defBody (s:Stmt):List Stmt:=match s with
 | .FunctionDef _ _ b _ _ _ _ _ _ _=>b
 | _=>[]
def defScope (s:Stmt):Scope:=match s with
 | .FunctionDef _ _ _ _ _ _ sc _ _ _=>sc
 | _=>{ kind:=.function,names:=[],isGenerator:=false,isCoroutine:=false }
abbrev CX0:CXT:=fun _ _ _ _ _ _=>False
abbrev E0:XK:=fun _ _ _=>False
theorem JT {X:Cx}:yb CX0 X E0:=fun _ _ _ _ _ _ _ h=>h.elim
structure Fun (K:PySem.W.Frag) (x qual:Str) (st:Stmt) (f:Addr) (fd:FuncData):Prop where
 ex:∃ (oc:Value) (od:Option Addr) (kV doc pm:Value) (an:Option Addr) (cdv ct:Value) (osl:Array (Option Value)),
  fd=PySem.W.fnOf x qual (defArgs st) (defBody st) (defScope st) .none kV doc pm an cdv ct∧K.lookup f=some ⟨oc,od,.func fd,osl⟩∧PySem.W.codeIn K cdv qual=true
 kp:PySem.W.keepIn K (.ref f)=true
section
variable {P:Program} {w:World} {K:PySem.W.Frag} {mg:Str→Option Value} {base:Heap}
theorem Fun.ok {x qual:Str} {st:Stmt} {f:Addr} {fd:FuncData} {N ps:List Str} {k:Nat} {sp:Sp} (F:Fun K x qual st f fd) (S:FnScope N ps (defScope st)) (len:∀ vs H Q E,sp vs H Q E→vs.length=ps.length)
  (hbody:∀ (cdv:Value) (A:Around) (outer:List Env) (s:Shared) (H:Hp) (vs:List V) (Q:VK) (E:XK),Room k (A.deeper (envOfC qual (defScope st) s.heap.objs.size f cdv))→sp vs H Q E →
   ∃ t,PSs (xK CX0 P w K mg base N qual (defScope st) f cdv A outer s H E).nox (defBody st) t∧t { nx:=fun _ H'=>Q .non H',rt:=Q } (start N vs) H):FnOk P w K mg base CX0 (k+1) f fd ps sp:=by
 obtain⟨oc,od,kV,doc,pm,an,cdv,ct,osl,rfl,lk,hcd⟩:=F.ex
 refine JR lk hcd S len fun A outer s H vs Q E hr hsp=>?_
 obtain⟨t,h,q⟩:=hbody cdv A outer s H vs Q E hr hsp
 exact⟨t,h.nox,q⟩
theorem Fun.binds {x qual:Str} {st:Stmt} {f:Addr} {fd:FuncData} {ps:List Str} (F:Fun K x qual st f fd)
  (h:∀ (kV doc pm:Value) (an:Option Addr) (cdv ct:Value) (us:List Value),us.length=ps.length→bindArgs (PySem.W.fnOf x qual (defArgs st) (defBody st) (defScope st) .none kV doc pm an cdv ct) ⟨us,[]⟩=pure (ps.zip us)):Binds K fd ps []:=by
 obtain⟨oc,od,kV,doc,pm,an,cdv,ct,osl,rfl,lk,hcd⟩:=F.ex
 exact .all (h kV doc pm an cdv ct)
theorem jf {x qual:Str} {st:Stmt} {f:Addr} {oc:Value} {od an:Option Addr} {osl:Array (Option Value)} {kV doc pm cdv ct:Value} (l:K.lookup f=some ⟨oc,od,.func (PySem.W.fnOf x qual (defArgs st) (defBody st) (defScope st) .none kV doc pm an cdv ct),osl⟩)
  (c:PySem.W.codeIn K cdv qual=true) (k:PySem.W.keepIn K (.ref f)=true):Fun K x qual st f (PySem.W.fnOf x qual (defArgs st) (defBody st) (defScope st) .none kV doc pm an cdv ct):=⟨⟨oc,od,kV,doc,pm,an,cdv,ct,osl,rfl,l,c⟩,k⟩
end
theorem uX {A:Around} {k:Nat} (hr:Room k A):A.units+1<cLine:=Nat.lt_of_le_of_lt (Nat.add_le_add_left (by decide:1≤64) _) hr.units
section
variable {X:Cx}
theorem pv (i:Nat) {x:Str} {pos:Pos} (hN:X.N[i]?=some x:=by rfl) (hv:Vis X.env.scope x:=by first | exact Or.inl rfl | exact Or.inr (Or.inl rfl) | exact Or.inr (Or.inr rfl)) (hd:(x == ("__debug__":Str))=false:=by decide)
  (hcd:(x == ("__classdict__":Str))=false:=by decide):PE X (.Name x pos) (Fg i):=cO hN hv hd hcd
end
def Same (H H':Hp):Prop:=∀ b o,H b=some o→H' b=some o
theorem Same.trans {H H1 H2:Hp} (a:Same H H1) (b:Same H1 H2):Same H H2:=fun c o h=>b c o (a c o h)
theorem Same.free {H H':Hp} (e:Same H H') {l:Addr} (h:H' l=Option.none):H l=Option.none:=by
 cases q:H l with
 | none=>rfl
 | some o =>
  rw[e l o q] at h
  cases h
theorem Same.seq {K:PySem.W.Frag} {H H':Hp} {a:Addr} {xs:List V} (e:Same H H') (h:SqL K H a xs):SqL K H' a xs:=by
 rcases h with (h | ⟨o,h⟩) | h
 ·exact .inl (.inl (e _ _ h))
 ·exact .inl (.inr ⟨o,e _ _ h⟩)
 ·exact .inr h
structure Cal (P:Program) (w:World) (K:PySem.W.Frag) (mg:Str→Option Value) (base:Heap) (CX:CXT) (x:Str) (k:Nat) (ps:List Str) (sp:Sp):Prop where
 ex:∃ f fd,FnOk P w K mg base CX k f fd ps sp∧Binds K fd ps []∧PySem.W.keepIn K (.ref f)=true∧mg x=some (.ref f)
section
variable {X:Cx} {CX:CXT} {x:Str} {j k:Nat} {ps:List Str} {sp:Sp} {E:XK} {p pos:Pos} {e:Expr} {es:List Expr} {t:TA}
theorem FH (C:Cal X.prog X.w X.K X.mg X.base CX x j ps sp) (hr:Room k X.A) (hg:Gl X x) (hx:yb CX X E) (ha:PA X (e::es) t) (hj:j≤k:=by decide) (hdb:(x == ("__debug__":Str))=false:=by decide)
  (he:starEach (e::es) X.env=(false,eval e X.env)::starEach es X.env:=by rfl) (hpl:(backTo pos (starEach es X.env)).any (·.1)=false:=by rfl) :
  PE X (.Call (.Name x p) (e::es) [] pos) (zM sp [] E t):=by
 obtain⟨f,fd,F,b,kp,m⟩:=C.ex
 exact HY F (hr.mono hj) hg m kp b .nil hx ha hdb he hpl
theorem fX (C:Cal X.prog X.w X.K X.mg X.base CX0 x j ps sp) (hr:Room k X.A) (hg:Gl X x) (ha:PA X (e::es) t) (hj:j≤k:=by decide) (hdb:(x == ("__debug__":Str))=false:=by decide)
  (he:starEach (e::es) X.env=(false,eval e X.env)::starEach es X.env:=by rfl) (hpl:(backTo pos (starEach es X.env)).any (·.1)=false:=by rfl) :
  PE X (.Call (.Name x p) (e::es) [] pos) (zM sp [] E0 t):=FH C hr hg JT ha hj hdb he hpl
end
inductive Kn where
 | non | bl | int | str | lst | tup | dct
def tyK (T:String):Option Kn :=
 if T = "int" then some .int else if T = "bool" then some .bl else if T = "str" then some .str else if T = "list" then some .lst else if T = "tuple" then some .tup else none
theorem HU:tyK "int"=some .int:=rfl
theorem Fy:tyK "bool"=some .bl:=rfl
theorem HQ:tyK "str"=some .str:=rfl
theorem Fo:tyK "list"=some .lst:=rfl
theorem DC:tyK "tuple"=some .tup:=rfl
def m9:Kn→Kn→Bool
 | .int,.int=>true
 | .bl,.int=>true
 | .bl,.bl=>true
 | .str,.str=>true
 | .lst,.lst=>true
 | .tup,.tup=>true
 | _,_=>false
def dctO (a:Addr):HO:=.ext fun h=>∃ o,h.get? a=some o∧o.cls=.type "dict"
def Kd (K:PySem.W.Frag) (H:Hp):V→Kn→Prop
 | .non,k=>k=.non
 | .bl _,k=>k=.bl
 | .int _,k=>k=.int
 | .str _,k=>k=.str
 | .ref a,k=>(k=.lst∧∃ xs,SqL K H a xs)∨(k=.tup∧∃ xs,SqT K H a xs)∨(k=.dct∧H a=some (dctO a))
 | _,_=>False
def Il (K:PySem.W.Frag):List V→Hp→VK→Prop:=fun xs H Q=>∃ x T kt k,xs=[x,.ty T]∧tyK T=some kt∧Kd K H x k∧Q (.bl (m9 k kt)) H
theorem FG {T:String} {kt:Kn} (h:tyK T=some kt):(T = "int"∧kt=.int)∨(T = "bool"∧kt=.bl)∨(T = "str"∧kt=.str)∨(T = "list"∧kt=.lst)∨(T = "tuple"∧kt=.tup):=by
 unfold tyK at h
 split at h
 ·next e=>exact .inl ⟨e,(Option.some.inj h).symm⟩
 split at h
 ·next e=>exact .inr (.inl ⟨e,(Option.some.inj h).symm⟩)
 split at h
 ·next e=>exact .inr (.inr (.inl ⟨e,(Option.some.inj h).symm⟩))
 split at h
 ·next e=>exact .inr (.inr (.inr (.inl ⟨e,(Option.some.inj h).symm⟩)))
 split at h
 ·next e=>exact .inr (.inr (.inr (.inr ⟨e,(Option.some.inj h).symm⟩)))
 ·cases h
section
variable {X:Cx}
theorem uI:rQ X (.builtin "isinstance") (Il X.K):=by
 intro pins s σ H xs us Q I r h
 obtain⟨x,T,kt,k,rfl,ht,hk,q⟩:=h
 obtain⟨u,w',rfl,rx,rt⟩:=vals2 r
 obtain rfl:w'=Value.type T:=rt
 have f1:EP X pins σ Q (.bool (m9 k kt)) s:=⟨.bl _,H,I,rfl,q⟩
 have f2:EP X pins σ Q (.bool (m9 k kt)) { s with toks:=s.toks+1 }:=⟨.bl _,H,I.tok _,rfl,q⟩
 have hT:=FG ht
 clear ht q
 cases x with
 | non =>
  obtain rfl:u=Value.none:=rx
  obtain rfl:k=.non:=hk
  rcases hT with ⟨rfl,rfl⟩ | ⟨rfl,rfl⟩ | ⟨rfl,rfl⟩ | ⟨rfl,rfl⟩ | ⟨rfl,rfl⟩
  ·exact IsiPair.NoneType_int f2
  ·exact IsiPair.NoneType_bool f2
  ·exact IsiPair.NoneType_str f2
  ·exact IsiPair.NoneType_list f2
  ·exact IsiPair.NoneType_tuple f2
 | bl b =>
  obtain rfl:u=Value.bool b:=rx
  obtain rfl:k=.bl:=hk
  rcases hT with ⟨rfl,rfl⟩ | ⟨rfl,rfl⟩ | ⟨rfl,rfl⟩ | ⟨rfl,rfl⟩ | ⟨rfl,rfl⟩
  ·first | exact IsiPair.bool_int f1 | exact IsiPair.bool_int f2
  ·exact IsiPair.bool_bool f1
  ·exact IsiPair.bool_str f2
  ·exact IsiPair.bool_list f2
  ·exact IsiPair.bool_tuple f2
 | int i =>
  obtain⟨t,rfl⟩:=rx
  obtain rfl:k=.int:=hk
  rcases hT with ⟨rfl,rfl⟩ | ⟨rfl,rfl⟩ | ⟨rfl,rfl⟩ | ⟨rfl,rfl⟩ | ⟨rfl,rfl⟩
  ·exact IsiPair.int_int f1
  ·exact IsiPair.int_bool f2
  ·exact IsiPair.int_str f2
  ·exact IsiPair.int_list f2
  ·exact IsiPair.int_tuple f2
 | str z =>
  obtain⟨t,rfl⟩:=rx
  obtain rfl:k=.str:=hk
  rcases hT with ⟨rfl,rfl⟩ | ⟨rfl,rfl⟩ | ⟨rfl,rfl⟩ | ⟨rfl,rfl⟩ | ⟨rfl,rfl⟩
  ·exact IsiPair.str_int f2
  ·exact IsiPair.str_bool f2
  ·exact IsiPair.str_str f1
  ·exact IsiPair.str_list f2
  ·exact IsiPair.str_tuple f2
 | ref a =>
  obtain rfl:u=Value.ref a:=rx
  rcases hk with ⟨rfl,xs,hq⟩ | ⟨rfl,xs,hq⟩ | ⟨rfl,hq⟩
  ·obtain⟨its,_,⟨o,n,e,c,_,_⟩,_⟩:=I.list hq
   rcases hT with ⟨rfl,rfl⟩ | ⟨rfl,rfl⟩ | ⟨rfl,rfl⟩ | ⟨rfl,rfl⟩ | ⟨rfl,rfl⟩
   ·exact IsiPair.list_int e c f2
   ·exact IsiPair.list_bool e c f2
   ·exact IsiPair.list_str e c f2
   ·exact IsiPair.list_list e c f1
   ·exact IsiPair.list_tuple e c f2
  ·obtain⟨its,_,⟨o,e,c,_⟩,_⟩:=I.tuple hq
   rcases hT with ⟨rfl,rfl⟩ | ⟨rfl,rfl⟩ | ⟨rfl,rfl⟩ | ⟨rfl,rfl⟩ | ⟨rfl,rfl⟩
   ·exact IsiPair.tuple_int e c f2
   ·exact IsiPair.tuple_bool e c f2
   ·exact IsiPair.tuple_str e c f2
   ·exact IsiPair.tuple_list e c f2
   ·exact IsiPair.tuple_tuple e c f1
  ·obtain⟨⟨o,e,c⟩,_⟩:=I.hok a _ hq
   rcases hT with ⟨rfl,rfl⟩ | ⟨rfl,rfl⟩ | ⟨rfl,rfl⟩ | ⟨rfl,rfl⟩ | ⟨rfl,rfl⟩
   ·exact IsiPair.dict_int e c f2
   ·exact IsiPair.dict_bool e c f2
   ·exact IsiPair.dict_str e c f2
   ·exact IsiPair.dict_list e c f2
   ·exact IsiPair.dict_tuple e c f2
 | _=>exact False.elim hk
end
def AQ (J:It) (g:TG) (tb:TS) (D:Ends) (σ:St) (H:Hp):Prop:=∃ W:Nat→Nat→St→Hp→Prop,(∃ m,W 0 m σ H)∧∀ i m σ H,W i m σ H →
 (J.stop i H∧D.nx σ H)∨(J.go i H∧∃ N:St→Hp→Prop,(∀ σ' H',N σ' H'→∃ m',m'<m∧W (i+1) m' σ' H')∧∀ x H',J.yld i H x H'→g x σ H' fun σ2 H2=>tb { D with nx:=N,ct:=N,bk:=D.nx } σ2 H2)
theorem HH {wi:TI} {g:TG} {tb:TS} {D:Ends} {σ:St} {H:Hp}:IW wi g tb D σ H=wi σ H fun J H1=>AQ J g tb D σ H1:=rfl
section
variable {K:PySem.W.Frag} {a:Addr} {xs:List V} {g:TG} {tb:TS} {D:Ends} {σ:St} {H:Hp} {lo:Int} {n:Nat}
theorem sy (xs:List V) (Pv:Nat→St→Hp→Prop) (h0:Pv 0 σ H) (hl:∀ i σ H,i≤xs.length→Pv i σ H→SqL K H a xs)
  (hs:∀ i x σ H,xs[i]?=some x→Pv i σ H→g x σ H fun σ2 H2=>tb { D with nx:=Pv (i+1),ct:=Pv (i+1),bk:=D.nx } σ2 H2) (hd:∀ σ H,Pv xs.length σ H→D.nx σ H):AQ (Itl K a) g tb D σ H:=Fx Pv h0 hl hs hd
theorem ue (Pv:Nat→St→Hp→Prop) (h0:Pv 0 σ H)
  (hs:∀ i σ H,i<n→Pv i σ H→g (.int (lo+i)) σ H fun σ2 H2=>tb { D with nx:=Pv (i+1),ct:=Pv (i+1),bk:=D.nx } σ2 H2) (hd:∀ σ H,Pv n σ H→D.nx σ H):AQ (Itr lo n) g tb D σ H:=EE Pv h0 hs hd
end
structure Bits (n:Nat) (i:Int):Prop where
 lt:i.natAbs<2 ^ n
theorem Bits.mono {m n:Nat} {i:Int} (h:Bits m i) (le:m≤n):Bits n i:=⟨Nat.lt_of_lt_of_le h.lt (Nat.pow_le_pow_right (by decide) le)⟩
theorem Bits.of {n:Nat} {i b:Int} (lo:-b≤i) (hi:i≤b) (hb:b<((2 ^ n:Nat):Int)):Bits n i:=⟨by omega⟩
theorem Bits.bits {n:Nat} {i:Int} (h:Bits n i):Builtin.Int.intBits i≤n:=by
 unfold Builtin.Int.intBits
 split
 ·exact Nat.zero_le _
 ·have q:=h.lt
  rcases Nat.eq_zero_or_pos i.natAbs with h0 | hp
  ·rw[h0] at q ⊢
   have:(0:Nat).log2=0:=by decide
   rename_i hz
   exact absurd (by simp; omega) hz
  ·have:=(Nat.log2_lt (Nat.ne_of_gt hp)).mpr q
   omega
def CMulB (i j:Int):Prop:=Bits 100000 i∧Bits 100000 j
theorem CMulB.ok {i j:Int} (h:CMulB i j):IntMulOk i j:=IntMulOk.of_bits (Nat.le_trans h.1.bits (by decide)) (Nat.le_trans h.2.bits (by decide))
def CDivB (_ j:Int):Prop:=0<j∧Bits 8999 j
theorem CDivB.ok {i j:Int} (h:CDivB i j):Builtin.divisionGoesByPylong i j=false:=by
 refine PyProof.noPylong_of_log2 ?_
 have q:=h.2.lt
 have:=(Nat.log2_lt (n:=j.natAbs) (k:=8999) (by have:=h.1; omega)).mpr q
 omega
section
variable {X:Cx}
theorem vD:OpR X (binaryOp .Mult) (rI CMulB fun i j=>.int (i * j)):=opI fun _ _ _ _ _ _ _ hc q=>mul_int q hc.ok
theorem vj:OpR X (binaryOp .FloorDiv) (rI CDivB fun i j=>.int (i / j)):=opI fun i j _ _ _ _ _ hc q=>by
 have h1:(0:Int)<j:=hc.1
 exact floordiv_int (by omega) (by rw[Int.fdiv_eq_ediv_of_nonneg i (by omega)]; exact q) (.inl hc.ok)
theorem Jd:OpR X (compareOp .Is) (fun x y H Q=>∃ b c,x=.bl b∧y=.bl c∧Q (.bl (b == c)) H):=by
 intro pins s σ H x y v u Q I rx ry h
 obtain⟨b,c,rfl,rfl,q⟩:=h
 cases rx
 cases ry
 exact is_bool ⟨.bl _,H,I,rfl,q⟩
def GD (t:TA) (ti:TE):TE:=fun σ H Q=>t σ H fun xs H1=>xs.length≤sizeLine∧ti σ H1 fun y H2=>∃ i v,y=.int i∧0≤i∧xs[i.toNat]?=some v∧Q v H2
end
section
variable {X:Cx} {es:List Expr} {b:Expr} {t:TA} {ti:TE} {pos p2:Pos}
theorem uG (h:PA X es t) (hb:PE X b ti) (hs:Cm b):PE X (.Subscript (.List es p2) b pos) (GD t ti):=by
 intro pins s σ H Q I hq
 refine Subscript_ (wpAny_List_spliced (thn (h p2 pins s σ H _ I hq) fun us s1 ⟨xs,H1,I1,r,z,q⟩=>⟨by rw[← r.length]; exact z,?_⟩))
 have hf:H1 s1.heap.objs.size=none:=I1.hok.fresh (Nat.le_refl _)
 have I2:Inv X (pins++[(s1.heap.objs.size,{ cls:=.type "list",data:=.seq us.toArray })]) σ H1 { s1 with heap:=s1.heap.push { cls:=.type "list",data:=.seq us.toArray } }:=by
  have J:Inv X pins σ H1 { s1 with heap:=s1.heap.push { cls:=.type "list",data:=.seq us.toArray } }:=I1.kept (t':=s1.toks) fun b u e=>Heap.get?_push_of_some _ e
  refine J.pins_of fun p hp=>?_
  rcases List.mem_append.mp hp with hp | hp
  ·exact J.pin p (List.mem_append_right _ hp)
  ·have e:=List.mem_singleton.mp hp
   subst e
   exact⟨Heap.get?_push_size _ rfl,hf,Nat.ne_of_gt I1.lt,I1.nofs (Nat.le_refl _),fun v z=>by cases z⟩
 refine thn (hb _ _ σ H1 _ I2 q) fun u s2 ⟨y,H2,I3,ry,i,v,e,h0,ha,q2⟩=>?_
 subst e
 obtain⟨t',rfl⟩:=ry
 obtain⟨hp,_⟩:=I3.pin (s1.heap.objs.size,{ cls:=.type "list",data:=.seq us.toArray }) (List.mem_append_right _ (List.mem_append_right _ (List.mem_singleton.mpr rfl)))
 obtain⟨w,ew,rw'⟩:=r.get ha
 have I4:Inv X pins σ H2 s2:=I3.pins_of fun p hp=>I3.pin p (List.mem_append_right _ (List.mem_append_left _ hp))
 have hl:=r.length
 have hn:=vF
 have hi:i.toNat<us.length:=(List.getElem?_eq_some_iff.mp ew).1
 have fin:EP X pins σ Q w s2:=⟨v,H2,I4,rw',q2⟩
 exact item_listR (l:=s1.heap.objs.size) ⟨_,hp,rfl,_,rfl⟩ h0 (by omega) (by simpa using ew) fin (hs _ _)
end
theorem De:m9 .non .bl=false:=rfl
theorem Bl:m9 .non .int=false:=rfl
theorem Bk:m9 .non .str=false:=rfl
theorem Bt:m9 .non .lst=false:=rfl
theorem A5:m9 .non .tup=false:=rfl
theorem DE:m9 .bl .bl=true:=rfl
theorem Dm:m9 .bl .int=true:=rfl
theorem C0:m9 .bl .str=false:=rfl
theorem CP:m9 .bl .lst=false:=rfl
theorem CB:m9 .bl .tup=false:=rfl
theorem CK:m9 .int .bl=false:=rfl
theorem Bq:m9 .int .int=true:=rfl
theorem Bx:m9 .int .str=false:=rfl
theorem BL:m9 .int .lst=false:=rfl
theorem Bc:m9 .int .tup=false:=rfl
theorem CH:m9 .str .bl=false:=rfl
theorem Bv:m9 .str .int=false:=rfl
theorem BA:m9 .str .str=true:=rfl
theorem Bj:m9 .str .lst=false:=rfl
theorem Bf:m9 .str .tup=false:=rfl
theorem CJ:m9 .lst .bl=false:=rfl
theorem Bp:m9 .lst .int=false:=rfl
theorem Bd:m9 .lst .str=false:=rfl
theorem By:m9 .lst .lst=true:=rfl
theorem BE:m9 .lst .tup=false:=rfl
theorem CN:m9 .tup .bl=false:=rfl
theorem Bm:m9 .tup .int=false:=rfl
theorem BD:m9 .tup .str=false:=rfl
theorem BK:m9 .tup .lst=false:=rfl
theorem BP:m9 .tup .tup=true:=rfl
theorem CG:m9 .dct .bl=false:=rfl
theorem Bh:m9 .dct .int=false:=rfl
theorem Bs:m9 .dct .str=false:=rfl
theorem Bw:m9 .dct .lst=false:=rfl
theorem Bb:m9 .dct .tup=false:=rfl
theorem Iu {K:PySem.W.Frag} {H:Hp} {k:Kn}:Kd K H .non k=(k=.non):=rfl
theorem JS {K:PySem.W.Frag} {H:Hp} {k:Kn} {b:Bool}:Kd K H (.bl b) k=(k=.bl):=rfl
theorem Jz {K:PySem.W.Frag} {H:Hp} {k:Kn} {i:Int}:Kd K H (.int i) k=(k=.int):=rfl
theorem Jq {K:PySem.W.Frag} {H:Hp} {k:Kn} {z:Str}:Kd K H (.str z) k=(k=.str):=rfl
theorem Kd.tup {K:PySem.W.Frag} {H:Hp} {a:Addr} {xs:List V} (h:SqT K H a xs):Kd K H (.ref a) .tup:=.inr (.inl ⟨rfl,xs,h⟩)
theorem Kd.lst {K:PySem.W.Frag} {H:Hp} {a:Addr} {xs:List V} (h:SqL K H a xs):Kd K H (.ref a) .lst:=.inl ⟨rfl,xs,h⟩
theorem Kd.dct {K:PySem.W.Frag} {H:Hp} {a:Addr} (h:H a=some (dctO a)):Kd K H (.ref a) .dct:=.inr (.inr ⟨rfl,h⟩)
theorem Kd.ref {K:PySem.W.Frag} {H:Hp} {a:Addr} {k:Kn} (h:Kd K H (.ref a) k):k≠.int∧k≠.bl∧k≠.str∧k≠.non:=by
 rcases h with ⟨rfl,_⟩ | ⟨rfl,_⟩ | ⟨rfl,_⟩ <;> exact⟨(by intro z; cases z),(by intro z; cases z),(by intro z; cases z),(by intro z; cases z)⟩
theorem CS:uf .non .non=true:=rfl
theorem C7 {x2:Int}:uf .non (.int x2)=true:=rfl
theorem CW {x1:Int}:uf (.int x1) .non=true:=rfl
theorem EU {x2:Bool}:uf .non (.bl x2)=true:=rfl
theorem EA {x1:Bool}:uf (.bl x1) .non=true:=rfl
theorem Dl {x2:Str}:uf .non (.str x2)=true:=rfl
theorem Dg {x1:Str}:uf (.str x1) .non=true:=rfl
theorem C6 {x1:Int} {x2:Int}:uf (.int x1) (.int x2)=true:=rfl
theorem Fv {x1:Bool} {x2:Bool}:uf (.bl x1) (.bl x2)=true:=rfl
theorem Dj {x1:Str} {x2:Str}:uf (.str x1) (.str x2)=true:=rfl
theorem CO {x1:Int} {x2:Str}:uf (.int x1) (.str x2)=true:=rfl
theorem CU {x1:Str} {x2:Int}:uf (.str x1) (.int x2)=true:=rfl
theorem EC {x1:Bool} {x2:Str}:uf (.bl x1) (.str x2)=true:=rfl
theorem Et {x1:Str} {x2:Bool}:uf (.str x1) (.bl x2)=true:=rfl
theorem cxK {CX:CXT} {P:Program} {w:World} {K:PySem.W.Frag} {mg:Str→Option Value} {base:Heap} {N:List Str} {qual:Str} {scope:Scope} {f:Addr} {cd:Value} {A:Around} {outer:List Env} {s:Shared} {H:Hp} {E:XK} :
  (xK CX P w K mg base N qual scope f cd A outer s H E).K=K:=rfl
theorem pW:bootBuiltins "len"=some (.builtin "len"):=by decide +kernel
theorem Gy:bootBuiltins "min"=some (.builtin "min"):=by decide +kernel
theorem tD:bootBuiltins "isinstance"=some (.builtin "isinstance"):=by decide +kernel
theorem JK:bootBuiltins "int"=some (.type "int"):=by decide +kernel
theorem IT:bootBuiltins "bool"=some (.type "bool"):=by decide +kernel
theorem tM:bootBuiltins "list"=some (.type "list"):=by decide +kernel
theorem GW:bootBuiltins "tuple"=some (.type "tuple"):=by decide +kernel
theorem wO:bootBuiltins "sum"=some (.builtin "sum"):=by decide +kernel
theorem vo:bootBuiltins "all"=some (.builtin "all"):=by decide +kernel
theorem GI:bootBuiltins "zip"=some (.type "zip"):=by decide +kernel
theorem JM:bootBuiltins "set"=some (.type "set"):=by decide +kernel
theorem zV:bootBuiltins "sorted"=some (.builtin "sorted"):=by decide +kernel
structure Mg (mg:Str→Option Value):Prop where
 m_len:mg "len"=none
 m_range:mg "range"=none
 m_abs:mg "abs"=none
 m_max:mg "max"=none
 m_min:mg "min"=none
 m_isinstance:mg "isinstance"=none
 m_int:mg "int"=none
 m_bool:mg "bool"=none
 m_str:mg "str"=none
 m_list:mg "list"=none
 m_tuple:mg "tuple"=none
 m_sum:mg "sum"=none
 m_all:mg "all"=none
 m_enumerate:mg "enumerate"=none
 m_zip:mg "zip"=none
 m_ValueError:mg "ValueError"=none
 m_any:mg "any"=none
 m_set:mg "set"=none
 m_sorted:mg "sorted"=none
end L2
set_option maxHeartbeats 1000000
namespace L2
open PySem PySem.Spec PyProof.Rows
section
variable {prog:Program} {w:World} {A:Around} {R:Result→Shared→Prop} {s:Shared}
theorem Ba {elt target iter:Expr} {ifs:List Expr} {scope:Scope} {pos:Pos} {it acc:Value} {env:Env} (I:Nat→Shared→Prop)
  (turn:∀ n s,I n s→wpAny (model prog w) A (pyNext it) (fun r s₁=>match r with
   | none=>R (.ok .next) s₁
   | some v=>wpAny (model prog w) A (letOwnedTupleGo target it v) (fun _ s₁'=>wpAny (model prog w) A (assign target env v) (fun _ s₂ =>
     wpAny (model prog w) A (forIn ifs true fun c r=>if r=true then do let ok ← isTrue c env (eval c env); pure (ForInStep.yield ok) else pure (ForInStep.yield r)) (fun ok s₃ =>
      if ok=true then wpAny (model prog w) A (eval elt env) (fun x s₄ =>
       wpAny (model prog w) A (call (.builtin "list.append") [acc,x]) (fun _ s₅=>∃ m,m<n∧I m s₅) (fun _ _=>False) s₄) (fun _ _=>False) s₃
      else ∃ m,m<n∧I m s₃) (fun _ _=>False) s₂) (fun _ _=>False) s₁') (fun _ _=>False) s₁) (fun _ _=>False) s)
  (n:Nat) (h:I n s) :
  codeAny (model prog w) A (.compLoop (.ListComp elt [⟨target,iter,ifs,0⟩] scope pos) 0 it acc env) R s:=by
 refine codeAny_loop rfl I (fun n s hI=>?_) n h
 show wpAny _ A ((compTurn (.ListComp elt [⟨target,iter,ifs,0⟩] scope pos) 0 it acc env).onRaise (fun x=>do noteFrame x env; theTreesLotGoes x)) _ _ s
 refine wpAny_noted ?_
 rw[compTurn_list]
 refine wpAny_bind (wpAny_standAt (wpAny_bind (wpAny_mono (turn n s hI) (fun r s₁ h₁=>?_) fun _ _ h'=>h'.elim)))
 cases r with
 | none=>exact wpAny_pure h₁
 | some v =>
  refine wpAny_bind (wpAny_mono h₁ (fun _ s₁' h₁'=>wpAny_bind (wpAny_mono h₁' (fun _ s₂ h₂=>wpAny_bind (wpAny_mono h₂ (fun ok s₃ h₃=>?_) fun _ _ h'=>h'.elim)) fun _ _ h'=>h'.elim)) fun _ _ h'=>h'.elim)
  cases ok with
  | false=>exact wpAny_pure ⟨rfl,h₃⟩
  | true =>
   exact wpAny_bind (wpAny_bind (wpAny_mono h₃ (fun x s₄ h₄=>wpAny_bind (wpAny_mono h₄ (fun _ s₅ h₅=>wpAny_pure (wpAny_pure ⟨rfl,h₅⟩)) fun _ _ h'=>h'.elim)) fun _ _ h'=>h'.elim))
end
def blk (X:Cx) (scope:Scope) (cl:List (Str×Addr)) (N':List Str) (s₀:Shared) (H₀:Hp) (C:Addr) (pn:List (Addr×Obj)) (ex:List Addr):Cx where
 prog:=X.prog
 w:=X.w
 K:=X.K
 mg:=X.mg
 base:=X.base
 A:=X.A
 N:=N'
 s₀:=s₀
 H₀:=H₀
 env:=compEnvC scope cl C X.env
 outer:=X.stack
 stack:=X.stack
 ex:=ex
 fn:=fun _=>false
 calm:=X.calm
 pn:=pn
 xe:=fun _ _=>False
def yq (X:Cx) (ifs:List Expr) (t:TT):Prop :=
 ∀ (pins:List (Addr×Obj)) (s:Shared) (σ:St) (H:Hp) (Q:Bool→Hp→Prop),Inv X pins σ H s→t σ H Q →
  wpAny (model X.prog X.w) X.A (forIn ifs true fun c r=>if r=true then do let ok ← isTrue c X.env (eval c X.env); pure (ForInStep.yield ok) else pure (ForInStep.yield r)) (TP X pins σ Q) X.xe s
def Jp:TT:=fun _ H Q=>Q true H
theorem nk {X:Cx}:yq X [] Jp:=fun _ _ _ H _ I h=>wpAny_tests_nil ⟨H,I,h⟩
theorem ux {X:Cx} {c:Expr} {t:TT} (h:PT X c t):yq X [c] t:=fun pins s σ H Q I q=>wpAny_tests_one (h pins s σ H Q I q)
def slots (ix:List Nat) (σ:St):St:=ix.map fun j=>(σ[j]?).getD none
def zO (D:Addr) (J:It) (g:TG) (tt:TT) (te:TE) (Q:VK) (W:Nat→Nat→St→Hp→Prop):Prop :=
 ∀ i m τ H2,W i m τ H2→(J.stop i H2∧Q (.ref D) H2)∨(J.go i H2∧∀ x H3,J.yld i H2 x H3→g x τ H3 fun τ' H3'=>tt τ' H3' fun b H4 =>
  if b=true then te τ' H4 fun v H5=>∃ ys,H5 D=some (.lst ys)∧ys.length<sizeLine∧∃ m',m'<m∧W (i+1) m' τ' (upd H5 D (.lst (ys++[v]))) else ∃ m',m'<m∧W (i+1) m' τ' H4)
def CV (ix:List Nat) (nl:Nat) (wi:TI) (g:TG) (tt:TT) (te:TE):TE:=fun σ H Q=>wi σ H fun J H1=>∀ D,H1 D=none →
 ∃ W:Nat→Nat→St→Hp→Prop,(∃ m,W 0 m (slots ix σ++List.replicate nl none) (upd H1 D (.lst [])))∧zO D J g tt te Q W
structure CompOk (X:Cx) (scope:Scope) (cl:List (Str×Addr)) (N':List Str) (ix:List Nat) (nl:Nat):Prop where
 clos:closureFor scope X.env=pure cl
 sub:∀ y c,cl.lookup y=some c→X.env.cells.lookup y=some c
 has:∀ p∈(relabel scope X.env).names,(p.2=.cell∨p.2=.free)→(cl.lookup p.1).isSome=true
 cell:∀ y∈scope.names,y.2≠.cell
 kind:scope.kind=.function
 names:∀ y∈scope.names,y.2=.local→scope.names.lookup y.1=some .local
 len:N'.length=ix.length+nl
 out:∀ (i j:Nat) (y:Str),ix[i]?=some j→N'[i]?=some y→X.N[j]?=some y∧(X.env.kindOf y=some .cell∨X.env.kindOf y=some .free)∧((relabel scope X.env).names.lookup y=some .cell∨(relabel scope X.env).names.lookup y=some .free)
theorem fm0 {α:Type} {P:α→Prop}:∀ p∈([]:List α),P p:=fun _ h=>nomatch h
theorem fm1 {α:Type} {P:α→Prop} {a:α} {l:List α} (h:P a) (r:∀ p∈l,P p):∀ p∈a::l,P p:=List.forall_mem_cons.mpr ⟨h,r⟩
def OutsOk (X:Cx) (scope:Scope):List Nat→List Str→Prop
 | [],_=>True
 | j::r,y::t=>(X.N[j]?=some y∧(X.env.kindOf y=some .cell∨X.env.kindOf y=some .free)∧((relabel scope X.env).names.lookup y=some .cell∨(relabel scope X.env).names.lookup y=some .free))∧OutsOk X scope r t
 | _::_,[]=>False
theorem OutsOk.at {X:Cx} {scope:Scope}:∀ {ix:List Nat} {N:List Str},OutsOk X scope ix N→∀ (i j:Nat) (y:Str),ix[i]?=some j→N[i]?=some y→X.N[j]?=some y∧(X.env.kindOf y=some .cell∨X.env.kindOf y=some .free)∧((relabel scope X.env).names.lookup y=some .cell∨(relabel scope X.env).names.lookup y=some .free)
 | [],_,_,i,j,y,h1,_=>by simp at h1
 | _::_,[],h,_,_,_,_,_=>h.elim
 | _::_,_::_,h,0,j,y,h1,h2=>by
  simp at h1 h2
  subst h1 h2
  exact h.1
 | _::_,_::_,h,i+1,j,y,h1,h2=>OutsOk.at h.2 i j y (by simpa using h1) (by simpa using h2)
theorem CompOk.make {X:Cx} {scope:Scope} {cl:List (Str×Addr)} {N':List Str} {ix:List Nat} {nl:Nat} (clos:closureFor scope X.env=pure cl) (sub:∀ p∈cl,X.env.cells.lookup p.1=some p.2)
  (has:((relabel scope X.env).names.all fun p=>!(p.2 == .cell || p.2 == .free) || (cl.lookup p.1).isSome)=true) (cell:∀ y∈scope.names,y.2≠.cell) (kind:scope.kind=.function)
  (names:∀ y∈scope.names,y.2=.local→scope.names.lookup y.1=some .local) (len:N'.length=ix.length+nl) (out:OutsOk X scope ix N'):CompOk X scope cl N' ix nl :=
 ⟨clos,fun y c h=>sub (y,c) (PySem.mem_of_lookup h),fun p hp hc=>by
  have q:=List.all_eq_true.mp has p hp
  rcases hc with e | e <;> (rw[e] at q; simpa using q),cell,kind,names,len,out.at⟩
section
variable {X:Cx} {pins:List (Addr×Obj)} {σ:St} {H:Hp} {s:Shared}
theorem DU {scope:Scope} {cl:List (Str×Addr)} {N':List Str} {ix:List Nat} {nl:Nat} {C:Addr} {fp:List Addr} (O:CompOk X scope cl N' ix nl) (I:Inv X pins σ H s) (hC:s.heap.objs.size≤C) (f:∀ b∈fp,FpOk X pins H b) (lt:∀ b∈fp,b<s.heap.objs.size) :
  (blk X scope cl N' s H C (X.pn++pins) fp).Ok where
 mod:=I.ok.mod
 kind:=O.kind
 glob:=I.ok.glob
 blt:=I.ok.blt
 above:=hC
 inj:=fun x y c h1 h2=>I.ok.inj x y c (O.sub x c h1) (O.sub y c h2)
 has:=fun x hx=>by
  have hx':(relabel scope X.env).names.lookup x=some .cell∨(relabel scope X.env).names.lookup x=some .free:=hx
  rcases hx' with h | h
  ·exact Option.isSome_iff_exists.mp (O.has _ (PySem.mem_of_lookup h) (.inl rfl))
  ·exact Option.isSome_iff_exists.mp (O.has _ (PySem.mem_of_lookup h) (.inr rfl))
 cab:=fun x c h=>nomatch (show false=true from h)
 hd:=I.ok.hd
 frames:=I.ok.frames
 stk:=.inl rfl
 exf:=fun b hb=>⟨Nat.ne_of_lt (Nat.lt_of_lt_of_le (lt b hb) hC),fun x c h=>(f b hb).2.2.2.2.1 x c (O.sub x c h)⟩
 bs:=I.bs
 bsz:=Nat.le_trans I.ok.bsz I.sz
 noex:=fun b o e hb=>by
  rcases (f b hb).2.2.2.1 with z | z
  ·exact I.ok.noex b o e z
  ·exact absurd (Nat.lt_of_lt_of_le (Heap.lt_size e) (Nat.le_trans I.ok.bsz z)) (Nat.lt_irrefl _)
 exfs:=fun b hb z=>by
  rcases List.mem_cons.mp (I.stkSub b z) with e | e
  ·exact (f b hb).2.1 e
  ·exact (f b hb).2.2.1 e
 funs:=I.stack
 frf:=I.stkFree
theorem Hg {scope:Scope} {cl:List (Str×Addr)} {N':List Str} {ix:List Nat} {nl:Nat} {C:Addr} {fp:List Addr} {h':Heap} {t':Nat} (O:CompOk X scope cl N' ix nl) (I:Inv X pins σ H s) (hC:s.heap.objs.size≤C) (f:∀ b∈fp,FpOk X pins H b) (lt:∀ b∈fp,b<s.heap.objs.size)
  (hn:h'.Ns C fun _=>none) (k:∀ b o,s.heap.get? b=some o→h'.get? b=some o) :
  Inv (blk X scope cl N' s H C (X.pn++pins) fp) [] (slots ix σ++List.replicate nl none) H { s with heap:=h',toks:=t' }:=by
 refine⟨DU O I hC f lt,rfl,I.bare,Un.kept k,⟨_,hn,fun i x v e1 e2 e3=>?_⟩,fun x c e=>?_,I.hok.fresh hC,fun x c e=>I.freeC x c (O.sub x c e),fun p hp=>?_,I.hok.kept k,?_⟩
 ·have e1:N'[i]?=some x:=e1
  have hi:i<ix.length:=by
   by_cases hi:i<ix.length
   ·exact hi
   ·rw[List.getElem?_append_right (by simpa [slots] using hi)] at e2
    rw[List.getElem?_replicate] at e2
    split at e2 <;> cases e2
  have e2':(σ[ix[i]]?).getD none=some v:=by
   rw[List.getElem?_append_left (by simpa [slots] using hi)] at e2
   simpa [slots,hi] using e2
  have e4:σ[ix[i]]?=some (some v):=by
   cases q:σ[ix[i]]? with
   | none=>rw[q] at e2'; cases e2'
   | some z=>rw[q] at e2'; exact congrArg some e2'
  obtain⟨o1,o2,o3⟩:=O.out i ix[i] x (by simp [hi]) e1
  obtain⟨m,hm,hl⟩:=I.loc
  have vis:Vis X.env.scope x:=by
   rcases o2 with z | z
   ·exact .inr (.inl z)
   ·exact .inr (.inr z)
  obtain⟨u,r,l⟩:=hl _ x v o1 e4 vis
  rcases l with ⟨z,_⟩ | ⟨_,c,hc,o,ho,hd⟩
  ·rcases o2 with y | y <;> (rw[y] at z; cases z)
  ·obtain⟨c',hc'⟩:=(DU O I hC f lt).has x o3
   have z:=O.sub x c' hc'
   rw[hc] at z
   cases z
   exact⟨u,r,.inr ⟨o3,c,hc',o,k _ _ ho,hd⟩⟩
 ·obtain⟨v,q⟩:=I.cell x c (O.sub x c e)
  exact⟨v,by obtain⟨o,ho,hd⟩:=q; exact⟨o,k _ _ ho,hd⟩⟩
 ·have hp':p∈X.pn++pins:=by
   have z:p∈(X.pn++pins)++[]:=hp
   rwa [List.append_nil] at z
  obtain⟨a1,a2,a3,a4,a5⟩:=I.pin p hp'
  refine⟨k _ _ a1,a2,Nat.ne_of_lt (Nat.lt_of_lt_of_le (Heap.lt_size a1) hC),fun z=>?_,a5⟩
  rcases List.mem_cons.mp (I.stkSub p.1 z) with e | e
  ·exact a3 e
  ·exact a4 e
 ·show (slots ix σ++List.replicate nl none).length=N'.length
  rw[List.length_append,List.length_replicate,O.len]
  simp [slots]
theorem FP {scope:Scope} {cl:List (Str×Addr)} {N':List Str} {C:Addr} {fp:List Addr} {s':Shared} {τ:St} {H':Hp} (I:Inv X pins σ H s) (f:∀ b∈fp,FpOk X pins H b)
  (J:Inv (blk X scope cl N' s H C (X.pn++pins) fp) [] τ H' s'):Inv X pins σ H' s' :=
 I.call' J.os J.base J.hok J.bare fun b hb=>⟨(f b hb).2.2.2.1,(f b hb).2.1,(f b hb).2.2.2.2.1,(f b hb).2.2.2.2.2⟩
theorem Inv.letgo {C:Addr} {s':Shared} {h':Heap} (J:Inv X pins σ H s') (hsz:X.s₀.heap.objs.size≤C) (hL:C≠X.env.locals) (hc:∀ x c,X.env.cells.lookup x=some c→c≠C) (hp:∀ p∈X.pn++pins,p.1≠C) (hH:H C=none)
  (sb:Heap.SameBut C s'.heap h'):Inv X pins σ H { s' with heap:=h' } :=
 J.turned (t':=s'.toks) (it:=C) (fun b o hb e=>sb.extBut b o hb e) hH hL (.inr hsz) hc hp
theorem FJ {elt iter tg:Expr} {ifs:List Expr} {scope:Scope} {pos:Pos} {cl:List (Str×Addr)} {N':List Str} {C D it:Addr} {fp:List Addr} {tn:Nat→Heap→Prop} {J:It} {g:TG} {tt:TT} {te:TE} {s₄:Shared} {W:Nat→Nat→St→Hp→Prop} {Q:VK}
  {τ:St} {H₀:Hp} {s₃:Shared} {pn:List (Addr×Obj)} {m0:Nat} {R:Result→Shared→Prop} (hc:X.calm=true) (T:Turn X.prog X.w X.K tg J fp it tn)
  (f:∀ H',(∀ b∈fp,H' b=none)→∀ b∈fp,FpOk (blk X scope cl N' s₃ H₀ C pn fp) [] H' b)
  (hg:PG (blk X scope cl N' s₃ H₀ C pn fp) tg g) (ht:yq (blk X scope cl N' s₃ H₀ C pn fp) ifs tt) (he:PE (blk X scope cl N' s₃ H₀ C pn fp) elt te)
  (I4:Inv (blk X scope cl N' s₃ H₀ C pn fp) [] τ H s₄) (st:tn 0 s₄.heap) (fr:∀ b∈fp,H b=none) (w0:W 0 m0 τ H) (hW:zO D J g tt te Q W)
  (fin:∀ τ' H' s',Inv (blk X scope cl N' s₃ H₀ C pn fp) [] τ' H' s'→Q (.ref D) H'→R (.ok .next) s') :
  codeAny (model X.prog X.w) X.A (.compLoop (.ListComp elt [⟨tg,iter,ifs,0⟩] scope pos) 0 (.ref it) (.ref D) (compEnvC scope cl C X.env)) R s₄:=by
 refine Ba (fun n s'=>∃ i τ' H',Inv (blk X scope cl N' s₃ H₀ C pn fp) [] τ' H' s'∧tn i s'.heap∧(∀ b∈fp,H' b=none)∧W i n τ' H') ?_ m0 ⟨0,τ,H,I4,st,fr,w0⟩
 rintro n s5 ⟨i,τ5,H5,I5,st5,fr5,w5⟩
 rcases hW i n τ5 H5 w5 with ⟨stop,q⟩ | ⟨go,step⟩
 ·refine thn (T.done (blk X scope cl N' s₃ H₀ C pn fp) rfl rfl rfl hc i [] s5 τ5 H5 (fun _ _=>False) I5 (f H5 fr5) st5 stop) fun r s6 ⟨hr,I6⟩=>?_
  subst hr
  exact fin τ5 H5 s6 I6 q
 ·refine thn (T.item (blk X scope cl N' s₃ H₀ C pn fp) rfl rfl rfl hc i [] s5 τ5 H5 (fun _ _=>False) I5 (f H5 fr5) st5 go) fun r s6 ⟨u,hr,h6⟩=>?_
  subst hr
  refine thn h6 fun _ s7 ⟨x,H7,I7,r7,y7,st7,fr7⟩=>?_
  have I7':=I7.pinned (f H7 fr7) (T.obj _ _ st7)
  have keep:∀ {τ8:St} {H8:Hp} {s8:Shared},Inv (blk X scope cl N' s₃ H₀ C pn fp) ([]++we fp s7.heap) τ8 H8 s8→Inv (blk X scope cl N' s₃ H₀ C pn fp) [] τ8 H8 s8∧tn (i+1) s8.heap∧∀ b∈fp,H8 b=none:=fun {τ8 H8 s8} I8=>by
   refine⟨I8.unpinned,T.keep _ _ _ st7 fun b hb o e=>(I8.pin (b,o) (List.mem_append_right _ (List.mem_append_right _ (uY hb e)))).1,fun b hb=>?_⟩
   obtain⟨o,e,d⟩:=T.obj _ _ st7 b hb
   exact (I8.pin (b,o) (List.mem_append_right _ (List.mem_append_right _ (uY hb e)))).2.1
  refine thn (hg _ s7 τ5 H7 x u _ I7' r7 (step x H7 y7)) fun _ s8 ⟨τ8,H8,I8,q8⟩=>?_
  refine thn (ht _ s8 τ8 H8 _ I8 q8) fun b s9 ⟨H9,I9,q9⟩=>?_
  cases b with
  | false =>
   obtain⟨m',hm,w'⟩:=q9
   obtain⟨k1,k2,k3⟩:=keep I9
   exact⟨m',hm,i+1,τ8,H9,k1,k2,k3,w'⟩
  | true =>
   refine thn (he _ s9 τ8 H9 _ I9 q9) fun y s10 ⟨v,H10,I10,r10,ys,hD,hl,m',hm,w'⟩=>?_
   refine thn (nR _ s10 τ8 H10 (.ref D) [v] (.ref D) [y] (fun _ H11=>W (i+1) m' τ8 H11) I10 rfl (.cons r10 .nil) ⟨D,ys,v,rfl,rfl,hD,hl,w'⟩) fun z s11 ⟨_,H11,I11,_,w11⟩=>?_
   obtain⟨k1,k2,k3⟩:=keep I11
   exact⟨m',hm,i+1,τ8,H11,k1,k2,k3,w11⟩
end
section
variable {X:Cx} {elt iter tg:Expr} {ifs:List Expr} {scope:Scope} {pos:Pos} {cl:List (Str×Addr)} {N':List Str} {ix:List Nat} {nl:Nat} {wi:TI} {g:TG} {tt:TT} {te:TE}
structure Left (X:Cx) (pins:List (Addr×Obj)) (σ:St) (C:Addr) (H:Hp) (s:Shared):Prop where
 inv:Inv X pins σ H s
 ns:∃ m,s.heap.Ns C m
 sz:X.s₀.heap.objs.size≤C
 loc:C≠X.env.locals
 cel:∀ x c,X.env.cells.lookup x=some c→c≠C
 pin:∀ p∈X.pn++pins,p.1≠C
 non:H C=none
theorem AB {pins:List (Addr×Obj)} {σ:St} {H1:Hp} {s2:Shared} {Q:VK} {it:Addr} {fp:List Addr} {tn:Nat→Heap→Prop} {J:It} {RR:Value→Addr→Result→Shared→Prop} {E:Value→Shared→Prop}
  (hc:X.calm=true) (O:CompOk X scope cl N' ix nl) (hg:∀ s₀ H₀ C pn ex,PG (blk X scope cl N' s₀ H₀ C pn ex) tg g) (ht:∀ s₀ H₀ C pn ex,yq (blk X scope cl N' s₀ H₀ C pn ex) ifs tt)
  (he:∀ s₀ H₀ C pn ex,PE (blk X scope cl N' s₀ H₀ C pn ex) elt te) (I1:Inv X pins σ H1 s2) (T:Turn X.prog X.w X.K tg J fp it tn) (st:tn 0 s2.heap) (f1:∀ b∈fp,FpOk X pins H1 b)
  (q:∀ D,H1 D=none→∃ W:Nat→Nat→St→Hp→Prop,(∃ m,W 0 m (slots ix σ++List.replicate nl none) (upd H1 D (.lst [])))∧zO D J g tt te Q W)
  (fin:∀ D C H' s',Left X pins σ C H' s'→Q (.ref D) H'→RR (.ref D) C (.ok .next) s') :
  wpAny (model X.prog X.w) X.A (newList []) (fun acc s₃=>wpAny (model X.prog X.w) X.A (newFunctionEnv scope X.env.globals cl [] X.env.qual none .none (some X.env)) (fun cenv s₄ =>
   codeAny (model X.prog X.w) X.A (.compStart (.ListComp elt [⟨tg,iter,ifs,0⟩] scope pos) 0 (.ref it) acc { cenv with scope:=relabel scope X.env }) (RR acc cenv.locals) s₄) E s₃) E s2:=by
 refine wpAny_newObj_type (wpAny_newFunctionEnv O.cell (by intro y hy; simp at hy) (fun h₁ hns₁ hsb₁=>?_) O.kind)
 have hf:H1 s2.heap.objs.size=none:=I1.hok.fresh (Nat.le_refl _)
 obtain⟨W,⟨m0,w0⟩,hW⟩:=q s2.heap.objs.size hf
 have lt:∀ b∈fp,b<s2.heap.objs.size:=fun b hb=>by
  obtain⟨o,e,_⟩:=T.obj _ _ st b hb
  exact Heap.lt_size e
 have I3:Inv X pins σ (upd H1 s2.heap.objs.size (.lst [])) { s2 with heap:=s2.heap.push { cls:=.type "list",data:=.seq ([]:List Value).toArray } } :=
  I1.laid (t':=s2.toks) (fun b u e=>Heap.get?_push_of_some _ e) (Nat.le_refl _) ⟨Nat.zero_le _,[],0,.nil,Heap.get?_push_size _ rfl⟩
 have f3:∀ b∈fp,FpOk X pins (upd H1 s2.heap.objs.size (.lst [])) b:=fun b hb=>⟨by rw[er (Nat.ne_of_lt (lt b hb))]; exact (f1 b hb).1,(f1 b hb).2⟩
 have sz:(s2.heap.push { cls:=.type "list",data:=.seq ([]:List Value).toArray }).objs.size=s2.heap.objs.size+1:=Heap.size_push ..
 have lt3:∀ b∈fp,b<(s2.heap.push { cls:=.type "list",data:=.seq ([]:List Value).toArray }).objs.size:=fun b hb=>by rw[sz]; exact Nat.lt_succ_of_lt (lt b hb)
 have k3:∀ b o,(s2.heap.push { cls:=.type "list",data:=.seq ([]:List Value).toArray }).get? b=some o→h₁.get? b=some o:=fun b o e=>hsb₁.extBut b o (Nat.ne_of_lt (Heap.lt_size e)) (Heap.get?_push_of_some _ e)
 have I4:=Hg (t':=s2.toks+([]:List (Str×Value)).length) O I3 (Nat.le_refl _) f3 lt3 hns₁ k3
 have st4:tn 0 h₁:=T.keep _ _ _ st fun b hb o e=>k3 b o (Heap.get?_push_of_some _ e)
 have fB:∀ H',(∀ b∈fp,H' b=none)→∀ b∈fp,FpOk (blk X scope cl N' { s2 with heap:=s2.heap.push { cls:=.type "list",data:=.seq ([]:List Value).toArray } } (upd H1 s2.heap.objs.size (.lst [])) (s2.heap.push { cls:=.type "list",data:=.seq ([]:List Value).toArray }).objs.size (X.pn++pins) fp) [] H' b:=fun H' hn b hb=>by
  refine⟨hn b hb,Nat.ne_of_lt (lt3 b hb),?_,.inl hb,fun x c h=>(f1 b hb).2.2.2.2.1 x c (O.sub x c h),fun p hp=>?_⟩
  ·intro z
   rcases List.mem_cons.mp (I3.stkSub b z) with e | e
   ·exact (f1 b hb).2.1 e
   ·exact (f1 b hb).2.2.1 e
  ·have hp':p∈X.pn++pins:=by
    have z:p∈(X.pn++pins)++[]:=hp
    rwa [List.append_nil] at z
   exact (f1 b hb).2.2.2.2.2 p hp'
 have loop:=FJ (pos:=pos) (iter:=iter) (R:=RR (.ref s2.heap.objs.size) (s2.heap.push { cls:=.type "list",data:=.seq ([]:List Value).toArray }).objs.size) hc T fB (hg _ _ _ _ _) (ht _ _ _ _ _) (he _ _ _ _ _) I4 st4 (fun b hb=>(f3 b hb).1) w0 hW (fun τ' H' s' J' qf=>by
  obtain⟨m,hm,_⟩:=J'.loc
  refine fin _ _ H' s' ⟨FP I3 f3 J',⟨m,hm⟩,I3.sz,Nat.ne_of_gt I3.lt,fun x c e z=>?_,fun p hp z=>?_,J'.free⟩ qf
  ·obtain⟨v,o,ho,_⟩:=I3.cell x c e
   exact absurd (Heap.lt_size ho) (by rw[z]; exact Nat.lt_irrefl _)
  ·exact absurd (Heap.lt_size (I3.pin p hp).1) (by rw[z]; exact Nat.lt_irrefl _))
 exact codeAny_compStart_list loop (T.self _ 0 _ _ _ st4 loop)
theorem mS (hc:X.calm=true) (O:CompOk X scope cl N' ix nl) (hi:PI X tg iter wi) (hg:∀ s₀ H₀ C pn ex,PG (blk X scope cl N' s₀ H₀ C pn ex) tg g) (ht:∀ s₀ H₀ C pn ex,yq (blk X scope cl N' s₀ H₀ C pn ex) ifs tt)
  (he:∀ s₀ H₀ C pn ex,PE (blk X scope cl N' s₀ H₀ C pn ex) elt te) (hs:∀ x,foldedSetIterable iter X.env x=pure x:=by intro _; rfl) :
  PE X (.ListComp elt [⟨tg,iter,ifs,0⟩] scope pos) (CV ix nl wi g tt te):=by
 intro pins s σ H Q I h
 rw[eval_ListComp]
 refine wpAny_comprehension_free (use:=none) rfl hs O.clos O.kind O.names (thn (hi pins s σ H _ I h) fun xv s1 h1=>thn h1 fun itv s2 h2=>?_)
 obtain⟨it,fp,tn,J,H1,rfl,I1,T,st,f1,q⟩:=h2
 refine AB (RR:=fun acc C=>compPost (model X.prog X.w) X.A X.xe none (EP X pins σ Q) acc C) hc O hg ht he I1 T st f1 q (fun D C H' s' L qf=>?_)
 obtain⟨m,hm⟩:=L.ns
 exact⟨m,hm,fun h' sb=>⟨.ref D,H',L.inv.letgo L.sz L.loc L.cel L.pin L.non sb,rfl,qf⟩⟩
theorem uE {i:Nat} {y:Str} {py spos:Pos} (hN:X.N.Nodup) (hiy:X.N[i]?=some y) (hy:Loc X.env.scope y) (hc:X.calm=true) (O:CompOk X scope cl N' ix nl) (hi:PI X tg iter wi) (hg:∀ s₀ H₀ C pn ex,PG (blk X scope cl N' s₀ H₀ C pn ex) tg g)
  (ht:∀ s₀ H₀ C pn ex,yq (blk X scope cl N' s₀ H₀ C pn ex) ifs tt) (he:∀ s₀ H₀ C pn ex,PE (blk X scope cl N' s₀ H₀ C pn ex) elt te)
  (hsw:swapsWith (.ListComp elt [⟨tg,iter,ifs,0⟩] scope pos) (some (.Name y py)) spos.line X.env=pure true) (hs:∀ x,foldedSetIterable iter X.env x=pure x:=by intro _; rfl)
  (hf:X.fn y=true∨X.env.scope.names.lookup y=some .local:=by first | exact .inl rfl | exact .inr rfl | assumption) :
  PS X (.Assign [.Name y py] (.ListComp elt [⟨tg,iter,ifs,0⟩] scope pos) spos) (Dw (CV ix nl wi g tt te) (vW i)):=by
 intro pins s σ H D0 I h
 rw[exec_Assign_Name_used _ _ _ _ hsw]
 refine wpAny_bind (wpAny_standAt (wpAny_bind ?_))
 show wpAny _ X.A (do let _ ← comprehension (.ListComp elt [⟨tg,iter,ifs,0⟩] scope pos) scope X.env _ (newList []) false (eval iter X.env) (some (assign (.Name y py) X.env))) _ _ s
 refine wpAny_bind (wpAny_mono (wpAny_comprehension_free (use:=some (assign (.Name y py) X.env)) (Q:=fun _ s'=>SP X pins D0 .next s') rfl hs O.clos O.kind O.names (thn (hi pins s σ H _ I h) fun xv s1 h1=>thn h1 fun itv s2 h2=>?_)) (fun _ s' hq=>wpAny_pure (wpAny_pure hq)) fun _ _ e=>e)
 obtain⟨it,fp,tn,J,H1,rfl,I1,T,st,f1,q⟩:=h2
 refine AB (RR:=fun acc C=>compPost (model X.prog X.w) X.A X.xe (some (assign (.Name y py) X.env)) (fun _ s'=>SP X pins D0 .next s') acc C) hc O hg ht he I1 T st f1 q (fun D C H' s' L qf=>?_)
 obtain⟨m,hm⟩:=L.ns
 show wpAny _ X.A (assign (.Name y py) X.env (.ref D)) _ _ _
 refine wpAny_assign_Name (zg L.inv hN hiy hy (v:=.ref D) rfl (fun s'' I'' z=>?_) hf)
 obtain⟨a,sb2,ha⟩:=z
 have ne:C≠a:=by
  rcases ha with e | e
  ·rw[e]; exact L.loc
  ·exact fun z=>L.cel _ a e z.symm
 refine⟨m,hm.at' fun o e=>sb2.extBut C o ne e,fun h' sb=>⟨_,H',I''.letgo L.sz L.loc L.cel L.pin L.non sb,qf⟩⟩
end
theorem wu (ns ms:List Int):(((List.range (min ns.length ms.length)).all fun j=>ns.getD j 0 == ms.getD j 0) && ns.length == ms.length)=decide (ns=ms):=by
 by_cases h:ns=ms
 ·subst h
  simp
 ·rw[decide_eq_false h]
  by_cases hl:ns.length=ms.length
  ·have:∃ j,j<ns.length∧ns.getD j 0≠ms.getD j 0:=by
    apply Classical.byContradiction
    intro no
    apply h
    apply List.ext_getElem hl
    intro i h1 h2
    apply Classical.byContradiction
    intro ne
    apply no
    refine⟨i,h1,?_⟩
    simpa [List.getD,h1,h2] using ne
   obtain⟨j,hj,ne⟩:=this
   have:((List.range (min ns.length ms.length)).all fun j=>ns.getD j 0 == ms.getD j 0)=false:=by
    rw[List.all_eq_false]
    refine⟨j,by simp; omega,by simpa using ne⟩
   rw[this]
   rfl
  ·have:(ns.length == ms.length)=false:=by simpa using hl
   rw[this,Bool.and_false]
def okV:V→Bool
 | .ref _=>true
 | x=>uD x
theorem vQ {x:V} (h:uD x=true):eqV x x=true:=by
 cases x with
 | non=>rfl
 | bl b=>simp [eqV]
 | int i=>simp [eqV]
 | str z=>simp [eqV]
 | byt b=>exact absurd (show false=true from h) Bool.false_ne_true
 | flt b=>exact absurd (show false=true from h) Bool.false_ne_true
 | ref a=>exact absurd (show false=true from h) Bool.false_ne_true
 | ty n=>exact absurd (show false=true from h) Bool.false_ne_true
theorem Eh {A:Around} {s:Shared} {x:V} {u v:Value} (ru:RelV x u) (rv:RelV x v) (h:okV x=true):SeqAt.EqAt A s u v true:=by
 cases x with
 | ref a =>
  obtain rfl:u=Value.ref a:=ru
  obtain rfl:v=Value.ref a:=rv
  exact SeqAt.EqAt.same _
 | non=>have:=vH (A:=A) (s:=s) ru rv rfl rfl; rwa [vQ rfl] at this
 | bl b=>have:=vH (A:=A) (s:=s) ru rv rfl rfl; rwa [vQ rfl] at this
 | int i=>have:=vH (A:=A) (s:=s) ru rv rfl rfl; rwa [vQ rfl] at this
 | str z=>have:=vH (A:=A) (s:=s) ru rv rfl rfl; rwa [vQ rfl] at this
 | byt b=>exact absurd (show false=true from h) Bool.false_ne_true
 | flt b=>exact absurd (show false=true from h) Bool.false_ne_true
 | ty n=>exact absurd (show false=true from h) Bool.false_ne_true
def GA (K:PySem.W.Frag) (H:Hp) (a b:Addr) (xs ys:List V):Prop:=(SqL K H a xs∧SqL K H b ys)∨(SqT K H a xs∧SqT K H b ys)
def J7 (K:PySem.W.Frag) (neg:Bool):R2:=fun x y H Q=>∃ a b,x=.ref a∧y=.ref b ∧
 ((∃ xs,GA K H a b xs xs∧xs.all okV=true∧Q (.bl (!neg)) H)∨(∃ ns ms:List Int,GA K H a b (ns.map V.int) (ms.map V.int)∧Q (.bl (if neg then !decide (ns=ms) else decide (ns=ms))) H))
theorem u7 {xs:List V} {its:List Value} (r:Vals xs its) {j:Nat} (h:j<its.length):∃ x,xs[j]?=some x∧RelV x its[j]:=by
 have hl:=r.length
 have hj:j<xs.length:=by omega
 obtain⟨u,e,rv⟩:=r.get (i:=j) (x:=xs[j]) (by simp [hj])
 have e2:its[j]?=some its[j]:=by simp [h]
 rw[e2] at e
 cases e
 exact⟨xs[j],by simp [hj],rv⟩
theorem Av {A:Around} {s:Shared} {xs:List V} {i1 i2:List Value} (r1:Vals xs i1) (r2:Vals xs i2) (h:xs.all okV=true):∀ j (h1:j<i1.toArray.size) (h2:j<i2.toArray.size),SeqAt.EqAt A s i1.toArray[j] i2.toArray[j] true:=by
 intro j h1 h2
 rw[List.size_toArray] at h1 h2
 obtain⟨x,e1,v1⟩:=u7 r1 h1
 obtain⟨y,e2,v2⟩:=u7 r2 h2
 rw[e1] at e2
 cases e2
 have ok:=List.all_eq_true.mp h x (List.mem_of_getElem? e1)
 simpa using Eh (A:=A) (s:=s) v1 v2 ok
theorem zp {A:Around} {s:Shared} {ns ms:List Int} {i1 i2:List Value} (r1:Vals (ns.map V.int) i1) (r2:Vals (ms.map V.int) i2):∀ j (h1:j<i1.toArray.size) (h2:j<i2.toArray.size),SeqAt.EqAt A s i1.toArray[j] i2.toArray[j] (ns.getD j 0 == ms.getD j 0):=by
 intro j h1 h2
 rw[List.size_toArray] at h1 h2
 obtain⟨x,e1,v1⟩:=u7 r1 h1
 obtain⟨y,e2,v2⟩:=u7 r2 h2
 have l1:j<ns.length:=by have:=r1.length; rw[List.length_map] at this; omega
 have l2:j<ms.length:=by have:=r2.length; rw[List.length_map] at this; omega
 rw[List.getElem?_map,List.getElem?_eq_getElem l1] at e1
 rw[List.getElem?_map,List.getElem?_eq_getElem l2] at e2
 cases e1
 cases e2
 have:=vH (A:=A) (s:=s) v1 v2 rfl rfl
 simpa [List.getD,l1,l2,eqV] using this
section
variable {X:Cx}
theorem Ij (hu:X.A.units<cLine):OpR X (compareOp .NotEq) (J7 X.K true):=by
 intro pins s σ H x y v u Q I rx ry h
 obtain⟨a,b,rfl,rfl,h⟩:=h
 obtain rfl:v=Value.ref a:=rx
 obtain rfl:u=Value.ref b:=ry
 rcases h with ⟨xs,tw,ok,q⟩ | ⟨ns,ms,tw,q⟩
 ·have fin:EP X pins σ Q (.bool false) s:=⟨.bl false,H,I,rfl,q⟩
  rcases tw with ⟨h1,h2⟩ | ⟨h1,h2⟩
  ·obtain⟨i1,r1,p1,_⟩:=I.list h1
   obtain⟨i2,r2,p2,_⟩:=I.list h2
   have e:(!(List.range i1.toArray.size).all fun _=>true)=false:=by simp
   exact SeqAt.RcNeAt.lists (e:=fun _=>true) p1.isList p2.isList (by rw[List.size_toArray,List.size_toArray,← r1.length,← r2.length]) hu (Av r1 r2 ok) _ _ _ _ (by rw[e]; exact fin)
  ·obtain⟨i1,r1,p1,_⟩:=I.tuple h1
   obtain⟨i2,r2,p2,_⟩:=I.tuple h2
   have e:(!(((List.range (min i1.toArray.size i2.toArray.size)).all fun _=>true) && i1.toArray.size == i2.toArray.size))=false:=by
    rw[List.size_toArray,List.size_toArray,← r1.length,← r2.length]
    simp
   exact SeqAt.RcNeAt.tuples (e:=fun _=>true) p1 p2 hu (Av r1 r2 ok) _ _ _ _ (by rw[e]; exact fin)
 ·have fin:EP X pins σ Q (.bool (!decide (ns=ms))) s:=⟨.bl _,H,I,rfl,q⟩
  rcases tw with ⟨h1,h2⟩ | ⟨h1,h2⟩
  ·obtain⟨i1,r1,p1,_⟩:=I.list h1
   obtain⟨i2,r2,p2,_⟩:=I.list h2
   have n1:i1.toArray.size=ns.length:=by rw[List.size_toArray,← r1.length,List.length_map]
   have n2:i2.toArray.size=ms.length:=by rw[List.size_toArray,← r2.length,List.length_map]
   have key:=wu ns ms
   by_cases hl:ns.length=ms.length
   ·refine SeqAt.RcNeAt.lists (e:=fun j=>ns.getD j 0 == ms.getD j 0) p1.isList p2.isList (by rw[n1,n2,hl]) hu (zp r1 r2) _ _ _ _ ?_
    rw[n1]
    rw[hl,Nat.min_self,beq_self_eq_true,Bool.and_true] at key
    rw[hl,key]
    exact fin
   ·refine SeqAt.RcNeAt.lists_lengths p1.isList p2.isList (by rw[n1,n2]; simpa using hl) hu _ _ _ _ ?_
    rw[decide_eq_false (fun e=>hl (by rw[e]))] at fin
    exact fin
  ·obtain⟨i1,r1,p1,_⟩:=I.tuple h1
   obtain⟨i2,r2,p2,_⟩:=I.tuple h2
   have n1:i1.toArray.size=ns.length:=by rw[List.size_toArray,← r1.length,List.length_map]
   have n2:i2.toArray.size=ms.length:=by rw[List.size_toArray,← r2.length,List.length_map]
   refine SeqAt.RcNeAt.tuples (e:=fun j=>ns.getD j 0 == ms.getD j 0) p1 p2 hu (zp r1 r2) _ _ _ _ ?_
   rw[n1,n2,wu]
   exact fin
end
def t9 (D:Addr) (g:TG) (tt:TT) (te:TE) (x:V) (τ:St) (H:Hp) (R:St→Hp→Prop):Prop:=g x τ H fun τ' H'=>tt τ' H' fun b H4 =>
 if b=true then te τ' H4 fun v H5=>∃ ys,H5 D=some (.lst ys)∧ys.length<sizeLine∧R τ' (upd H5 D (.lst (ys++[v]))) else R τ' H4
def uL (D:Addr) (J:It) (g:TG) (tt:TT) (te:TE) (Q:VK) (τ:St) (H:Hp):Prop:=∃ W:Nat→Nat→St→Hp→Prop,(∃ m,W 0 m τ H)∧zO D J g tt te Q W
theorem FI {ix:List Nat} {nl:Nat} {wi:TI} {g:TG} {tt:TT} {te:TE} {σ:St} {H:Hp} {Q:VK} :
  CV ix nl wi g tt te σ H Q=wi σ H fun J H1=>∀ D,H1 D=none→uL D J g tt te Q (slots ix σ++List.replicate nl none) (upd H1 D (.lst [])):=rfl
section
variable {K:PySem.W.Frag} {D a:Addr} {g:TG} {tt:TT} {te:TE} {Q:VK} {τ:St} {H:Hp}
theorem vA {lo:Int} {n:Nat} (Pv:Nat→St→Hp→Prop) (h0:Pv 0 τ H)
  (hs:∀ i τ H (R:St→Hp→Prop),i<n→Pv i τ H→(∀ τ' H',Pv (i+1) τ' H'→R τ' H')→t9 D g tt te (.int (lo+i)) τ H R) (hd:∀ τ H,Pv n τ H→Q (.ref D) H):uL D (Itr lo n) g tt te Q τ H:=by
 refine⟨fun i m τ H=>m=n-i∧i≤n∧Pv i τ H,⟨n,by simp,Nat.zero_le _,h0⟩,?_⟩
 rintro i m τ H2 ⟨rfl,hi,p⟩
 by_cases hlt:i<n
 ·refine .inr ⟨hlt,fun x H' y=>?_⟩
  obtain⟨e,y⟩:=y
  subst e y
  exact hs i τ _ (fun τ' H'=>∃ m',m'<n-i∧m'=n-(i+1)∧i+1≤n∧Pv (i+1) τ' H') hlt p fun τ' H' p'=>⟨_,by omega,rfl,hlt,p'⟩
 ·have e:i=n:=by omega
  subst e
  exact .inl ⟨Nat.le_refl _,hd τ H2 p⟩
theorem mC (xs:List V) (Pv:Nat→St→Hp→Prop) (h0:Pv 0 τ H) (hl:∀ i τ H,i≤xs.length→Pv i τ H→SqL K H a xs)
  (hs:∀ i x τ H (R:St→Hp→Prop),xs[i]?=some x→Pv i τ H→(∀ τ' H',Pv (i+1) τ' H'→R τ' H')→t9 D g tt te x τ H R) (hd:∀ τ H,Pv xs.length τ H→Q (.ref D) H):uL D (Itl K a) g tt te Q τ H:=by
 refine⟨fun i m τ H=>m=xs.length-i∧i≤xs.length∧Pv i τ H,⟨xs.length,by simp,Nat.zero_le _,h0⟩,?_⟩
 rintro i m τ H2 ⟨rfl,hi,p⟩
 have q:=hl i τ H2 hi p
 by_cases hlt:i<xs.length
 ·have hx:xs[i]?=some xs[i]:=by simp [hlt]
  refine .inr ⟨⟨xs,_,q,hx⟩,fun x H' y=>?_⟩
  obtain⟨e,y⟩:=y
  subst e
  have e2:=y xs q
  rw[hx] at e2
  cases e2
  exact hs i _ τ _ (fun τ' H'=>∃ m',m'<xs.length-i∧m'=xs.length-(i+1)∧i+1≤xs.length∧Pv (i+1) τ' H') hx p fun τ' H' p'=>⟨_,by omega,rfl,hlt,p'⟩
 ·have e:i=xs.length:=by omega
  subst e
  exact .inl ⟨⟨xs,q,Nat.le_refl _⟩,hd τ H2 p⟩
theorem Eu (xs:List V) (Pv:Nat→St→Hp→Prop) (h0:Pv 0 τ H) (hl:∀ i τ H,i≤xs.length→Pv i τ H→SqT K H a xs)
  (hs:∀ i x τ H (R:St→Hp→Prop),xs[i]?=some x→Pv i τ H→(∀ τ' H',Pv (i+1) τ' H'→R τ' H')→t9 D g tt te x τ H R) (hd:∀ τ H,Pv xs.length τ H→Q (.ref D) H):uL D (Itt K a) g tt te Q τ H:=by
 refine⟨fun i m τ H=>m=xs.length-i∧i≤xs.length∧Pv i τ H,⟨xs.length,by simp,Nat.zero_le _,h0⟩,?_⟩
 rintro i m τ H2 ⟨rfl,hi,p⟩
 have q:=hl i τ H2 hi p
 by_cases hlt:i<xs.length
 ·have hx:xs[i]?=some xs[i]:=by simp [hlt]
  refine .inr ⟨⟨xs,_,q,hx⟩,fun x H' y=>?_⟩
  obtain⟨e,y⟩:=y
  subst e
  have e2:=y xs q
  rw[hx] at e2
  cases e2
  exact hs i _ τ _ (fun τ' H'=>∃ m',m'<xs.length-i∧m'=xs.length-(i+1)∧i+1≤xs.length∧Pv (i+1) τ' H') hx p fun τ' H' p'=>⟨_,by omega,rfl,hlt,p'⟩
 ·have e:i=xs.length:=by omega
  subst e
  exact .inl ⟨⟨xs,q,Nat.le_refl _⟩,hd τ H2 p⟩
theorem SqT.lst {H:Hp} {p b:Addr} {xs ys zs:List V} (h:SqT K H b xs) (hp:H p=some (.lst ys)):SqT K (upd H p (.lst zs)) b xs:=by
 rcases h with (h | ⟨o,h⟩) | h
 ·exact .inl (.inl (by rw[er (C4 h hp (by intro z; cases z))]; exact h))
 ·exact .inl (.inr ⟨o,by rw[er (C4 h hp (by intro z; cases z))]; exact h⟩)
 ·exact .inr h
end
section
variable {X:Cx} {K:PySem.W.Frag}
theorem vL (h:X.K=K):IxR X (FS K):=by subst h; exact iV
theorem wM (h:X.K=K):IxR X (Fw K):=by subst h; exact ni
theorem zJ (h:X.K=K):rQ X (.builtin "len") (fun xs H Q=>∃ p ys,xs=[.ref p]∧(SqL K H p ys∨SqT K H p ys)∧Q (.int ys.length) H):=by subst h; exact iU
end
section
variable {prog:Program} {w:World} {A:Around} {E:Value→Shared→Prop} {s:Shared}
theorem yg {it l:Addr} {i:Nat} {items:Array Value} {x:Value} {Q:Value→Shared→Prop} (hit:s.heap.IsTupleIter it l i)
  (hl:s.heap.IsTuple l items) (hx:items[i]?=some x) (hQ:∀ h',h'.IsTupleIter it l (i+1)→Heap.SameBut it s.heap h'→Q x { s with heap:=h' }) :
  wpAny (model prog w) A (Builtin.SmallTypes.nextOf (.ref it)) Q E s:=by
 obtain⟨o,ho,hc,hd⟩:=id hit
 obtain⟨ol,hol,_,nl,hdl⟩:=hl
 unfold Builtin.SmallTypes.nextOf
 refine wpAny_bind (wpAny_callSpecial?_slot (name:=Str.ofString "__next__") hit.typeIs F.slot_tuple_iterator_next
  (wpAny_call_entry F.slot_tuple_iterator_next hit.typeIs F.entry_tuple_iterator_next ?_ (F.args_tuple_iterator_next_1 _)))
 show wpAny _ _ (field (.ref it) 0 >>= _) _ _ s
 refine wpAny_bind (wpAny_field ho hd (x:=.ref l) rfl ?_)
 show wpAny _ _ (if (Value.ref l == Value.none)=true then _ else _) _ _ s
 rw[if_neg (show ¬ ((Value.ref l == Value.none)=true) from Bool.false_ne_true)]
 show wpAny _ _ (field (.ref it) 1 >>= _) _ _ s
 refine wpAny_bind (wpAny_field ho hd (x:=.int i 0) rfl ?_)
 show wpAny _ _ (seqItems? (.ref l) >>= _) _ _ s
 refine wpAny_bind (wpAny_seqItems hol hdl ?_)
 simp only [Int.toNat_natCast,hx]
 refine wpAny_bind (wpAny_setField ho hd (by simp) (wpAny_pure ⟨x,rfl,wpAny_pure (hQ _ ?_ (Heap.SameBut.update ..))⟩))
 exact⟨_,Heap.get?_update_self _ ho (Obj.isFreed_of_fields (Obj.data_mapFields hd _)),(Obj.cls_mapFields ..).trans hc,by
  rw[Obj.data_mapFields hd]; simp [rawInt]⟩
theorem vG {it l:Addr} {i:Nat} {items:Array Value} {Q:Value→Shared→Prop} (hh:A.handled=none) (hit:s.heap.IsTupleIter it l i) (hl:s.heap.IsTuple l items) (hx:items[i]?=none)
  (hE:∀ h' e,Heap.ExtBut it s.heap h'→(∃ o,h'.get? e=some o∧o.cls=.type "StopIteration")→E (.ref e) { s with heap:=h' }) :
  wpAny (model prog w) A (Builtin.SmallTypes.nextOf (.ref it)) Q E s:=by
 obtain⟨o,ho,hc,hd⟩:=id hit
 obtain⟨ol,hol,_,nl,hdl⟩:=hl
 unfold Builtin.SmallTypes.nextOf
 refine wpAny_bind (wpAny_callSpecial?_slot (name:=Str.ofString "__next__") hit.typeIs F.slot_tuple_iterator_next
  (wpAny_call_entry F.slot_tuple_iterator_next hit.typeIs F.entry_tuple_iterator_next ?_ (F.args_tuple_iterator_next_1 _)))
 show wpAny _ _ (field (.ref it) 0 >>= _) _ _ s
 refine wpAny_bind (wpAny_field ho hd (x:=.ref l) rfl ?_)
 show wpAny _ _ (if (Value.ref l == Value.none)=true then _ else _) _ _ s
 rw[if_neg (show ¬ ((Value.ref l == Value.none)=true) from Bool.false_ne_true)]
 show wpAny _ _ (field (.ref it) 1 >>= _) _ _ s
 refine wpAny_bind (wpAny_field ho hd (x:=.int i 0) rfl ?_)
 show wpAny _ _ (seqItems? (.ref l) >>= _) _ _ s
 refine wpAny_bind (wpAny_seqItems hol hdl ?_)
 simp only [Int.toNat_natCast,hx]
 refine wpAny_bind (wpAny_rule (wpAny_bind (wpAny_setField ho hd (by simp) ?_)))
 show wpAny _ _ (newExc (.type "StopIteration") [] >>= _) _ _ _
 refine wpAny_bind ?_
 simp only [newExc,newTuple]
 refine wpAny_bind (wpAny_newObj_type ?_ (by size_fits))
 refine wpAny_bind (m:=firstArgMember _ _) (wpAny_of_eq (a:=Value.none) (by first | rfl | (simp only [firstArgMember]; rfl)) ?_)
 refine wpAny_newObj_type ?_ (by size_fits)
 simp only [raiseNew]
 refine wpAny_bind (wpAny_handled ?_)
 first | rw[show A.in1.handled=none from hh] | rw[hh]
 refine wpAny_bind (wpAny_pure (wpAny_throw ?_))
 exact hE _ _ (((Heap.SameBut.update ..).extBut.push _).push _) ⟨_,Heap.get?_push_size _ rfl,rfl⟩
end
theorem Draws.tuple {prog:Program} {w:World} {A:Around} (hh:A.handled=none) (it l:Addr) (hne:l≠it) (items:Array Value) :
  Draws prog w A it [it,l] items.size (fun i v=>items[i]?=some v) (fun i h=>h.IsTupleIter it l i∧h.IsTuple l items) where
 live:=fun _ _ st=>let ⟨o,ho,_⟩:=st.1; ⟨o,ho⟩
 frame:=fun _ _ _ st hk=>⟨st.1.at fun o e=>hk it (by simp) o e,st.2.at fun o e=>hk l (by simp) o e⟩
 item:=fun i s Q E hi st hQ=>by
  refine yg st.1 st.2 (x:=items[i]) (by simp [hi]) fun h' hit' hs'=>?_
  exact hQ _ h' s.toks (by simp [hi]) ⟨hit',st.2.extBut hs'.extBut hne⟩ hs'
 done:=fun s Q E st hE=>vG hh st.1 st.2 (by simp) hE
open AutoSeq1 (wpAny_loadPart') in
theorem vN (l:Addr) (items:Array Value) (n:Nat) (dct:Option Addr) (sl:Array (Option Value)) :
  Meets (Builtin.«enumerate.__new__» ⟨[.type "enumerate",.ref l],[]⟩) (fun _ R s=>s.heap.get? l=some { cls:=.type "tuple",dict:=dct,data:=.seq items n,slots:=sl } ∧
   R (.ok (.ret (.ref (s.heap.push { cls:=.type "tuple_iterator",data:=.fields #[.ref l,.int 0 0] }).objs.size)))
    { s with heap:=(s.heap.push { cls:=.type "tuple_iterator",data:=.fields #[.ref l,.int 0 0] }).push { cls:=.type "enumerate",data:=.fields #[.none,.bool false,.ref s.heap.objs.size,rawInt 0,.none,.none] } }) :=
 .of_wp fun prog w A R s h=>by
  obtain⟨hp,g,d,tk,os⟩:=s; obtain⟨hl,h⟩:=h
  have hsub:=sub_enumerate
  have hL:Heap.IsTuple (Shared.heap ⟨hp,g,d,tk,os⟩) l items:=⟨_,hl,rfl,n,rfl⟩
  wp_walk using wpAny_loadPart' hl
  refine wpAny_stack_any fun st=>wpAny_pure ?_
  split
  ·rename_i c _ _ _ _ _
   cases (c == Value.type "enumerate")
   ·wp_walk using wpAny_loadPart' hl,wpAny_pyIter_tuple hL
    exact⟨_,rfl,h⟩
   ·wp_walk using wpAny_loadPart' hl,wpAny_pyIter_tuple hL
    exact⟨_,rfl,h⟩
  ·wp_walk using wpAny_loadPart' hl,wpAny_pyIter_tuple hL
   exact⟨_,rfl,h⟩
section
variable {prog:Program} {w:World} {A:Around} {E:Value→Shared→Prop} {s:Shared}
theorem wj {l:Addr} {items:Array Value} {Q:Value→Shared→Prop} (hL:s.heap.IsTuple l items)
  (h:∀ h',IsEnum h' (s.heap.objs.size+1) s.heap.objs.size 0 .none→h'.IsTupleIter s.heap.objs.size l 0→h'.objs.size=s.heap.objs.size+2 →
   (∀ b o,s.heap.get? b=some o→h'.get? b=some o)→Q (.ref (s.heap.objs.size+1)) { s with heap:=h' }) :
  wpAny (model prog w) A (call (.type "enumerate") [.ref l]) Q E s:=by
 obtain⟨⟨c,dct,dt,sl⟩,hl,hc,n,hd⟩:=hL
 replace hc:c=.type "tuple":=hc
 replace hd:dt=.seq items n:=hd
 subst hc hd
 refine callType_new F.called_enumerate (by decide) (F.typeCall_enumerate_1 _) (F.newCall_enumerate_1 _) (fun obj=>F.args_object_init_2 obj _) F.entry_enumerate_new
  (vN l items n dct sl) ⟨hl,?_⟩
 have hz:(s.heap.push { cls:=.type "tuple_iterator",data:=.fields #[.ref l,.int 0 0] }).objs.size=s.heap.objs.size+1:=Heap.size_push ..
 show _∧_
 rw[hz]
 have e1:=Heap.get?_push_size (s.heap.push { cls:=.type "tuple_iterator",data:=.fields #[.ref l,.int 0 0] }) (o:={ cls:=.type "enumerate",data:=.fields #[.none,.bool false,.ref s.heap.objs.size,rawInt 0,.none,.none] }) rfl
 rw[hz] at e1
 refine⟨⟨_,e1,rfl⟩,?_⟩
 exact h _ e1 ⟨_,Heap.get?_push_of_some _ (Heap.get?_push_size _ rfl),rfl,rfl⟩ (by rw[Heap.size_push,hz]) fun b o q=>Heap.get?_push_of_some _ (Heap.get?_push_of_some _ q)
end
theorem Inv.drew {X:Cx} {pins:List (Addr×Obj)} {σ:St} {H:Hp} {s:Shared} {ch:List Addr} {T:Addr} {xs:List V} {h':Heap} {tk:Nat} (I:Inv X pins σ H s) (hf:∀ b∈ch,FpOk X pins H b)
  (k:∀ b o,b ∉ ch→s.heap.get? b=some o→h'.get? b=some o) (hT:s.heap.objs.size≤T) (new:ObjOk X.prog X.w (upd H T (.tup xs)) h' T (.tup xs)):Inv X pins σ (upd H T (.tup xs)) { s with heap:=h',toks:=tk }:=by
 have hn:H T=none:=I.hok.fresh hT
 have nc:∀ b u,H b=some u→b ∉ ch:=fun b u e hb=>by
  have z:=(hf b hb).1
  rw[e] at z
  cases z
 refine I.call (g':=s.gens) (d':=s.drawn) (ch:=ch) ⟨fun b o q n _ hc=>k b o hc q,fun b o q n _ hc=>⟨o.slots,k b o hc q⟩,fun b o q n hc=>by
  rw[er (Nat.ne_of_lt (Nat.lt_of_lt_of_le (Heap.lt_size q) hT))]; exact n,fun b o q hc=>⟨o,k b o hc q⟩,fun b ys q=>by rw[er (mz q hn)]; exact q,
  fun b o u q=>by rw[er (mz q hn)]; exact q,fun b ps q=>⟨#[],by rw[er (mz q hn),q]; simp⟩⟩ (fun b u e=>?_) I.bare fun b hb=>⟨(hf b hb).2.2.2.1,(hf b hb).2.1,(hf b hb).2.2.2.2.1,(hf b hb).2.2.2.2.2⟩
 by_cases hb:b=T
 ·subst hb
  rw[cY] at e
  cases e
  exact new
 ·rw[er hb] at e
  refine (I.hok b u e).stay (fun c v hc q=>k c v ?_ q) (fun c q=>by rw[er (mz q hn)]; exact q) fun c ys q=>by rw[er (mz q hn)]; exact q
  rcases hc with rfl | hc
  ·exact nc _ _ e
  ·exact nc _ _ hc
theorem Inv.turns {X:Cx} {pins:List (Addr×Obj)} {σ:St} {H:Hp} {s:Shared} {ch:List Addr} {h':Heap} {tk:Nat} (I:Inv X pins σ H s) (hf:∀ b∈ch,FpOk X pins H b)
  (k:∀ b o,b ∉ ch→s.heap.get? b=some o→h'.get? b=some o):Inv X pins σ H { s with heap:=h',toks:=tk }:=by
 have nc:∀ b u,H b=some u→b ∉ ch:=fun b u e hb=>by
  have z:=(hf b hb).1
  rw[e] at z
  cases z
 refine I.call (g':=s.gens) (d':=s.drawn) (ch:=ch) ⟨fun b o q n _ hc=>k b o hc q,fun b o q n _ hc=>⟨o.slots,k b o hc q⟩,fun b o q n hc=>n,fun b o q hc=>⟨o,k b o hc q⟩,fun b ys q=>q,
  fun b o u q=>q,fun b ps q=>⟨#[],by rw[q]; simp⟩⟩ (fun b u e=>?_) I.bare fun b hb=>⟨(hf b hb).2.2.2.1,(hf b hb).2.1,(hf b hb).2.2.2.2.1,(hf b hb).2.2.2.2.2⟩
 refine (I.hok b u e).stay (fun c v hc q=>k c v ?_ q) (fun c q=>q) fun c ys q=>q
 rcases hc with rfl | hc
 ·exact nc _ _ e
 ·exact nc _ _ hc
def Ite (sq:Hp→List V→Prop):It:=⟨fun i H=>∃ xs x,sq H xs∧xs[i]?=some x,fun i H x H'=>∃ T v,H T=none∧x=.ref T∧H'=upd H T (.tup [.int i,v])∧∀ xs,sq H xs→xs[i]?=some v,fun i H=>∃ xs,sq H xs∧xs.length≤i⟩
theorem yI {P:Program} {w:World} {H:Hp} {h:Heap} {T:Addr} {a b:V} {u v:Value} {n:Nat} (ra:RelV a u) (rb:RelV b v) (e:h.get? T=some { cls:=.type "tuple",data:=.seq #[u,v] n }):ObjOk P w H h T (.tup [a,b]) :=
 ⟨show 2≤sizeLine by decide,[u,v],.cons ra (.cons rb .nil),⟨_,e,rfl,_,rfl⟩,_,e,rfl⟩
theorem Dn {P:Program} {w:World} {K:PySem.W.Frag} {elts:List Expr} {kk:Nat} {pos:Pos} (a e it:Addr) (hei:e≠it) :
  Turn P w K (.Tuple elts kk pos) (Ite fun H xs=>SqL K H a xs) [e,it] e (fun i h=>(∃ old,IsEnum h e it i old)∧h.IsListIter it a i) where
 mem:=by simp
 obj:=fun i h st b hb=>by
  obtain⟨⟨old,he⟩,o,ho,c,d⟩:=st
  rcases List.mem_cons.mp hb with rfl | hb
  ·exact⟨_,he,fun v z=>by cases z⟩
  ·have z:=List.mem_singleton.mp hb
   subst z
   exact⟨o,ho,fun v z=>by rw[d] at z; cases z⟩
 keep:=fun i h h' st k=>by
  obtain⟨⟨old,he⟩,hit⟩:=st
  exact⟨⟨old,k e (by simp) _ he⟩,hit.at fun o q=>k it (by simp) o q⟩
 item:=by
  intro X hP hw hK hc i pins s σ H E I hf st hg
  subst hP hw hK
  obtain⟨xs,x,hq,hx⟩:=hg
  obtain⟨⟨old,he⟩,hit⟩:=st
  obtain⟨its,rv,p,hz⟩:=I.list hq
  obtain⟨u,hu,ru⟩:=rv.get hx
  refine wpAny_pyNext_enum_item he hit p.isList (x:=u) (by simpa using hu) hei fun h' ho hit' hT hsz hk=>⟨_,rfl,?_⟩
  refine wpAny_letOwnedTupleGo_enum ho fun h2 he2 hs2=>?_
  have hel:e<s.heap.objs.size:=Heap.lt_size he
  have hTe:s.heap.objs.size≠e:=Nat.ne_of_gt hel
  have hil:it<s.heap.objs.size:=by obtain⟨_,y,_⟩:=hit; exact Heap.lt_size y
  have hT2:h2.get? s.heap.objs.size=some { cls:=.type "tuple",data:=.seq #[.int i s.toks,u] }:=(hs2.2 _ hTe).trans hT
  have hf':H s.heap.objs.size=none:=I.hok.fresh (Nat.le_refl _)
  refine⟨.ref s.heap.objs.size,upd H s.heap.objs.size (.tup [.int i,x]),?_,rfl,⟨_,x,hf',rfl,rfl,fun ys hy=>by rw[I.list_inj hy hq]; exact hx⟩,⟨⟨u,he2⟩,hit'.at fun o q=>(hs2.2 it hei.symm).trans q⟩,fun b hb=>?_⟩
  ·exact I.drew (ch:=[e,it]) (tk:=s.toks+1) hf (fun b o hb q=>(hs2.2 b fun z=>hb (by simp [z])).trans (hk b o (fun z=>hb (by simp [z])) (fun z=>hb (by simp [z])) q)) (Nat.le_refl _) (yI ⟨_,rfl⟩ ru hT2)
  ·have z:b≠s.heap.objs.size:=by
    rcases List.mem_cons.mp hb with rfl | hb
    ·exact hTe.symm
    ·rw[List.mem_singleton.mp hb]; exact Nat.ne_of_lt hil
   rw[er z]
   exact (hf b hb).1
 done:=by
  intro X hP hw hK hc i pins s σ H E I hf st hg
  subst hP hw hK
  obtain⟨xs,hq,hx⟩:=hg
  obtain⟨⟨old,he⟩,hit⟩:=st
  obtain⟨its,rv,p,hz⟩:=I.list hq
  have hl:=rv.length
  exact wpAny_pyNext_enum_end (I.ok.hd hc) he hit p.isList (by simp; omega) fun h' eb=>⟨rfl,I.turns (ch:=[e,it]) (tk:=s.toks) hf fun b o hb q=>eb b o (fun z=>hb (by simp [z])) q⟩
 self:=fun A i s Q E st h=>by
  obtain⟨⟨old,he⟩,_⟩:=st
  exact wpAny_pyIter_enum he h
theorem C3 {P:Program} {w:World} {K:PySem.W.Frag} {elts:List Expr} {kk:Nat} {pos:Pos} (a e it:Addr) (hei:e≠it) (hea:e≠a) (hai:a≠it) :
  Turn P w K (.Tuple elts kk pos) (Ite fun H xs=>SqT K H a xs) [e,it] e (fun i h=>(∃ old,IsEnum h e it i old)∧h.IsTupleIter it a i) where
 mem:=by simp
 obj:=fun i h st b hb=>by
  obtain⟨⟨old,he⟩,o,ho,c,d⟩:=st
  rcases List.mem_cons.mp hb with rfl | hb
  ·exact⟨_,he,fun v z=>by cases z⟩
  ·have z:=List.mem_singleton.mp hb
   subst z
   exact⟨o,ho,fun v z=>by rw[d] at z; cases z⟩
 keep:=fun i h h' st k=>by
  obtain⟨⟨old,he⟩,hit⟩:=st
  exact⟨⟨old,k e (by simp) _ he⟩,hit.at fun o q=>k it (by simp) o q⟩
 item:=by
  intro X hP hw hK hc i pins s σ H E I hf st hg
  subst hP hw hK
  obtain⟨xs,x,hq,hx⟩:=hg
  obtain⟨⟨old,he⟩,hit⟩:=st
  obtain⟨its,rv,p,hz⟩:=I.tuple hq
  obtain⟨u,hu,ru⟩:=rv.get hx
  have hu':its.toArray[i]?=some u:=by simpa using hu
  have D:=Draws.tuple (prog:=X.prog) (w:=X.w) (A:=X.A.in1) (show X.A.in1.handled=none from I.ok.hd hc) it a hai its.toArray
  refine wpAny_pyNext_enum_itemD D he ⟨hit,p⟩ (Array.getElem?_eq_some_iff.mp hu').1 hei (by simp [hei,hea]) fun x' h' tk hP ho hit' hT hsz hk=>⟨_,rfl,?_⟩
  rw[hu'] at hP
  cases hP
  refine wpAny_letOwnedTupleGo_enum ho fun h2 he2 hs2=>?_
  have hel:e<s.heap.objs.size:=Heap.lt_size he
  have hTe:s.heap.objs.size≠e:=Nat.ne_of_gt hel
  have hil:it<s.heap.objs.size:=by obtain⟨_,y,_⟩:=hit; exact Heap.lt_size y
  have hT2:h2.get? s.heap.objs.size=some { cls:=.type "tuple",data:=.seq #[.int i tk,u] }:=(hs2.2 _ hTe).trans hT
  have hf':H s.heap.objs.size=none:=I.hok.fresh (Nat.le_refl _)
  refine⟨.ref s.heap.objs.size,upd H s.heap.objs.size (.tup [.int i,x]),?_,rfl,⟨_,x,hf',rfl,rfl,fun ys hy=>by rw[I.tuple_inj hy hq]; exact hx⟩,⟨⟨u,he2⟩,hit'.1.at fun o q=>(hs2.2 it hei.symm).trans q⟩,fun b hb=>?_⟩
  ·exact I.drew (ch:=[e,it]) (tk:=tk+1) hf (fun b o hb q=>(hs2.2 b fun z=>hb (by simp [z])).trans (hk b o (fun z=>hb (by simp [z])) (fun z=>hb (by simp [z])) q)) (Nat.le_refl _) (yI ⟨_,rfl⟩ ru hT2)
  ·have z:b≠s.heap.objs.size:=by
    rcases List.mem_cons.mp hb with rfl | hb
    ·exact hTe.symm
    ·rw[List.mem_singleton.mp hb]; exact Nat.ne_of_lt hil
   rw[er z]
   exact (hf b hb).1
 done:=by
  intro X hP hw hK hc i pins s σ H E I hf st hg
  subst hP hw hK
  obtain⟨xs,hq,hx⟩:=hg
  obtain⟨⟨old,he⟩,hit⟩:=st
  obtain⟨its,rv,p,hz⟩:=I.tuple hq
  have hl:=rv.length
  have hT:s.TypeIs (.ref e) "enumerate":=⟨_,he,rfl⟩
  unfold pyNext
  refine wpAny_bind (wpAny_attempt (wpAny_callSpecial?_slot (name:=Str.ofString "__next__") hT F.slot_enumerate_next
   (wpAny_call_entry F.slot_enumerate_next hT F.entry_enumerate_next ?_ (F.args_enumerate_next_1 _))))
  show wpAny _ _ (field (.ref e) 2 >>= _) _ _ _
  refine wpAny_bind (wpAny_field he rfl (x:=.ref it) rfl ?_)
  refine wpAny_bind (vG (show X.A.in1.handled=none from I.ok.hd hc) hit p (by simp; omega) fun h' x he' hx'=>?_)
  obtain⟨o,ho,hc'⟩:=hx'
  refine wpAny_bind (wpAny_isInstance (T:="StopIteration") (b:=true) ⟨o,ho,hc'⟩ isSubtype_stop ?_)
  exact wpAny_pure ⟨rfl,I.turns (ch:=[e,it]) (tk:=s.toks) hf fun b o hb q=>he' b o (fun z=>hb (by simp [z])) q⟩
 self:=fun A i s Q E st h=>by
  obtain⟨⟨old,he⟩,_⟩:=st
  exact wpAny_pyIter_enum he h
section
variable {X:Cx} {elts:List Expr} {kk:Nat} {tpos:Pos}
def DS (K:PySem.W.Frag) (ta:TA):TI:=fun σ H R=>ta σ H fun vs H1=>∃ a,vs=[.ref a]∧(∃ xs,SqL K H1 a xs)∧R (Ite fun H xs=>SqL K H a xs) H1
def D9 (K:PySem.W.Frag) (ta:TA):TI:=fun σ H R=>ta σ H fun vs H1=>∃ a,vs=[.ref a]∧(∃ xs,SqT K H1 a xs)∧R (Ite fun H xs=>SqT K H a xs) H1
theorem vZ {a:Expr} {ta:TA} {p pos:Pos} (hg:Gl X "enumerate") (hm:X.mg "enumerate"=none) (ha:PA X [a] ta) (hs:starEach [a] X.env=[(false,eval a X.env)]:=by rfl) :
  PI X (.Tuple elts kk tpos) (.Call (.Name "enumerate" p) [a] [] pos) (DS X.K ta):=by
 intro pins s σ H R I h
 refine Call_ (tX I hg hm boot_enumerate (PyProof.Rows.callWith_type1 (thn (ha pos pins s σ H _ I h) fun us s1 ⟨vs,H1,I1,r1,q1⟩=>?_) hs rfl))
 obtain⟨l,e,⟨xs,hq⟩,q⟩:=q1
 subst e
 cases r1 with
 | cons r rr =>
  cases rr
  cases r
  obtain⟨its,rv,p,hz⟩:=I1.list hq
  refine call_enumerate_list p.isList fun h' hE hI hsz hk=>wpAny_pyIter_enum hE ?_
  refine⟨_,[s1.heap.objs.size+1,s1.heap.objs.size],_,_,H1,rfl,I1.kept (t':=s1.toks) hk,Dn l _ _ (Nat.succ_ne_self _),⟨⟨_,hE⟩,hI⟩,fun b hb=>?_,q⟩
  rcases List.mem_cons.mp hb with rfl | hb
  ·exact I1.fpOk (Nat.le_succ _) (I1.hok.fresh (Nat.le_succ _))
  ·rw[List.mem_singleton.mp hb]
   exact I1.fpOk (Nat.le_refl _) (I1.hok.fresh (Nat.le_refl _))
theorem xV {a:Expr} {ta:TA} {p pos:Pos} (hg:Gl X "enumerate") (hm:X.mg "enumerate"=none) (ha:PA X [a] ta) (hs:starEach [a] X.env=[(false,eval a X.env)]:=by rfl) :
  PI X (.Tuple elts kk tpos) (.Call (.Name "enumerate" p) [a] [] pos) (D9 X.K ta):=by
 intro pins s σ H R I h
 refine Call_ (tX I hg hm boot_enumerate (PyProof.Rows.callWith_type1 (thn (ha pos pins s σ H _ I h) fun us s1 ⟨vs,H1,I1,r1,q1⟩=>?_) hs rfl))
 obtain⟨l,e,⟨xs,hq⟩,q⟩:=q1
 subst e
 cases r1 with
 | cons r rr =>
  cases rr
  cases r
  obtain⟨its,rv,p,hz⟩:=I1.tuple hq
  have hll:l<s1.heap.objs.size:=by obtain⟨o,ho,_⟩:=p; exact Heap.lt_size ho
  refine wj p fun h' hE hI hsz hk=>wpAny_pyIter_enum hE ?_
  refine⟨_,[s1.heap.objs.size+1,s1.heap.objs.size],_,_,H1,rfl,I1.kept (t':=s1.toks) hk,C3 l _ _ (Nat.succ_ne_self _) (Nat.ne_of_gt (Nat.lt_succ_of_lt hll)) (Nat.ne_of_lt hll),⟨⟨_,hE⟩,hI⟩,fun b hb=>?_,q⟩
  rcases List.mem_cons.mp hb with rfl | hb
  ·exact I1.fpOk (Nat.le_succ _) (I1.hok.fresh (Nat.le_succ _))
  ·rw[List.mem_singleton.mp hb]
   exact I1.fpOk (Nat.le_refl _) (I1.hok.fresh (Nat.le_refl _))
end
theorem DH {sq:Hp→List V→Prop} {g:TG} {tb:TS} {D:Ends} {σ:St} {H:Hp} (xs:List V) (Pv:Nat→St→Hp→Prop) (h0:Pv 0 σ H) (hl:∀ i σ H,i≤xs.length→Pv i σ H→sq H xs)
  (hs:∀ i x T σ H,xs[i]?=some x→Pv i σ H→H T=none→g (.ref T) σ (upd H T (.tup [.int i,x])) fun σ2 H2=>tb { D with nx:=Pv (i+1),ct:=Pv (i+1),bk:=D.nx } σ2 H2) (hd:∀ σ H,Pv xs.length σ H→D.nx σ H):AQ (Ite sq) g tb D σ H:=by
 refine⟨fun i m σ H=>m=xs.length-i∧i≤xs.length∧Pv i σ H,⟨xs.length,by simp,Nat.zero_le _,h0⟩,?_⟩
 rintro i m σ H2 ⟨rfl,hi,p⟩
 have q:=hl i σ H2 hi p
 by_cases hlt:i<xs.length
 ·have hx:xs[i]?=some xs[i]:=by simp [hlt]
  refine .inr ⟨⟨xs,_,q,hx⟩,Pv (i+1),fun σ' H' p'=>⟨xs.length-(i+1),by omega,rfl,hlt,p'⟩,fun x H' y=>?_⟩
  obtain⟨T,v,hT,e1,e2,y⟩:=y
  subst e1 e2
  have e2:=y xs q
  exact hs i v T σ _ e2 p hT
 ·have e:i=xs.length:=by omega
  subst e
  exact .inl ⟨⟨xs,q,Nat.le_refl _⟩,hd σ H2 p⟩
theorem Jb {xs:List V} {n:Nat}:xT xs none (some (n:Int))=xs.take n:=by
 unfold xT
 rw[HT.sIx_nat,HT.sIx_none,List.drop_zero,Nat.sub_zero]
 by_cases h:n≤xs.length
 ·rw[Nat.min_eq_left h]
 ·rw[Nat.min_eq_right (by omega),List.take_of_length_le (Nat.le_refl _),List.take_of_length_le (by omega)]
end L2
namespace L2
open PySem PySem.Spec PyProof.Rows
open PySem.Builtin PySem.Builtin.ObjectAttr PySem.Builtin.Getset_descriptor
open PySem.W (Frag Looks looks_findIn looks_specialIn looks_takesIn looks_mroIn looks_subIn looks_typeIn)
def ExcAt (x D:Addr) (h:Heap):Prop:=∃ o vs,h.get? x=some o∧o.cls=.ref D∧o.data=.fields vs
structure XCls (K:Frag) (D:Addr):Prop where
 ga:PySem.W.findIn K (.ref D) "__getattribute__"=some (some (.builtin "BaseException.__getattribute__"))
 gt:PySem.W.findIn K (.ref D) "__getattr__"=some none
 ca:PySem.W.findIn K (.ref D) "__class__"=some (some (.builtin "object.__class__"))
 cn:PySem.W.specialIn K (.builtin "object.__class__") "__get__"=some (some (.builtin "getset_descriptor.__get__"))
 tk:PySem.W.takesIn K (.builtin "object.__class__")=some true
 mo:PySem.W.mroIn K D (.type "object")=some true
 mb:PySem.W.mroIn K D (.type "BaseException")=some true
 is:(PySem.W.clsIn K D).isSome=true
section
variable {prog:Program} {w:World} {A:Around} {E:Value→Shared→Prop} {s:Shared} {K:Frag} {x D:Addr}
theorem ExcAt.type {M:Model} {h:Heap} (I:ExcAt x D h):Looks M h (typeOf (.ref x)) (.ref D):=by
 obtain⟨o,vs,e,c,_⟩:=I
 exact c ▸ (Looks.ld e).andThen .now
end
end L2
namespace L2
open PySem PySem.Spec PyProof.Rows
theorem ObjOk.here {P:Program} {w:World} {H:Hp} {h:Heap} {a:Addr} {o:HO} (x:ObjOk P w H h a o):∃ ob,h.get? a=some ob:=by
 cases o with
 | lst xs=>obtain⟨_,_,_,_,e⟩:=x; exact⟨_,e⟩
 | tup xs=>obtain⟨_,_,_,_,ob,e,_⟩:=x; exact⟨_,e⟩
 | dK kvs=>obtain⟨_,_,_,_,o,_,_,e,_⟩:=x; exact⟨_,e⟩
 | dT kvs=>obtain⟨_,_,_,_,o,_,_,e,_⟩:=x; exact⟨_,e⟩
 | set S n=>obtain⟨o,_,_,_,e,_⟩:=x; exact⟨_,e⟩
 | ins C dx fs=>obtain⟨_,_,_,e,_⟩:=x; exact⟨_,e⟩
 | own y=>exact x
 | xd fs=>obtain⟨_,⟨_,_,_,e,_⟩,_⟩:=x; exact⟨_,e⟩
 | rng lo hi=>obtain⟨_,_,_,e⟩:=x; exact⟨_,e⟩
 | frz ob u=>obtain⟨e,_⟩:=x; exact⟨_,e⟩
 | tbl ps=>exact⟨_,(show h.get? a=some _ from x)⟩
 | met f y=>exact⟨_,(show h.get? a=some _ from x)⟩
 | ext φ=>obtain⟨_,e,_⟩:=x; exact e
structure Fly (P:Program) (w:World) (outer:List Env) (H:Hp) (s:Shared) (B:Heap) (H':Hp) (a C:Addr) (a0:Value) (s':Shared):Prop where
 os:s'.os=s.os
 bare:AllBare s'.gens
 un:Un (frs outer) [] H H' s.heap s'.heap
 hok:HOk P w H' s'.heap
 fly:Heap.FlyingW B outer a (.ref C) a0 s'.heap
 old:∀ b o,s'.heap.get? b=some o→(∃ o',s.heap.get? b=some o')→b ∉ frs outer→B.get? b=some o
 trk:∀ b u o,H' b=some u→s'.heap.get? b=some o→B.get? b=some o
 new:H' a=none
 fresh:s.heap.get? a=none
abbrev bmVE:List Value:=[.type "ValueError",.type "Exception",.type "BaseException",.type "object"]
structure XRaise (K:PySem.W.Frag) (mg:Str→Option Value) (x:Str) (C:Addr):Prop where
 at_:mg x=some (.ref C)
 ex:PySem.W.excIn K C bmVE "ValueError.__new__"=true
structure XCatch (K:PySem.W.Frag) (mg:Str→Option Value) (x:Str) (C:Addr):Prop where
 at_:mg x=some (.ref C)
 is:PySem.W.clsIn K C≠none
 ty:PySem.W.typeIn K (.ref C)=some (.type "type")
 mb:PySem.W.mroIn K C (.type "BaseException")=some true
structure RoomS (k:Nat) (A:Around):Prop where
 dp:A.depth+3 * k+5<recursionLimit
 un:A.units+16 * k+200<cLine
structure FnOkS (P:Program) (w:World) (K:PySem.W.Frag) (mg:Str→Option Value) (base:Heap) (CX:CXT) (k:Nat) (f:Addr) (fd:FuncData) (ps:List Str) (sp:Sp):Prop where
 len:∀ vs H Q E,sp vs H Q E→vs.length=ps.length
 run:∀ (A:Around) (outer:List Env) (s:Shared) (H:Hp) (args:Args) (us:List Value) (vs:List V) (Q:VK) (E:XK),RoomS k A→Env0 P w K mg base A outer s H→BindsTo s fd args (ps.zip us)→Vals vs us→sp vs H Q E →
  codeAny (model P w) A (.call (.ref f) args) (CR CX outer P w H s Q E) s
structure CalS (P:Program) (w:World) (K:PySem.W.Frag) (mg:Str→Option Value) (base:Heap) (CX:CXT) (x:Str) (k:Nat) (ps:List Str) (sp:Sp):Prop where
 ex:∃ f fd,FnOkS P w K mg base CX k f fd ps sp∧Binds K fd ps []∧PySem.W.keepIn K (.ref f)=true∧mg x=some (.ref f)
abbrev Cx.any (X:Cx) (A:Around):Cx:={ X with A:=A,calm:=false }
theorem Inv.any {X:Cx} {pins:List (Addr×Obj)} {σ:St} {H:Hp} {s:Shared} (I:Inv X pins σ H s) {A:Around} (hf:A.frames=some X.stack):Inv (X.any A) pins σ H s :=
 ⟨⟨I.ok.mod,I.ok.kind,I.ok.glob,I.ok.blt,I.ok.above,I.ok.inj,I.ok.has,I.ok.cab,(fun z=>nomatch z),hf,I.ok.stk,I.ok.exf,I.ok.bs,I.ok.bsz,I.ok.noex,I.ok.exfs,I.ok.funs,I.ok.frf⟩,I.os,I.bare,I.base,I.loc,I.cell,I.free,I.freeC,I.pin,I.hok,I.len⟩
def noStar:Expr→Bool
 | .Starred _ _=>false
 | _=>true
theorem cg {e:Expr} {es:List Expr} {env:Env} (h:noStar e=true):starEach (e::es) env=(false,eval e env)::starEach es env:=by
 cases e <;> first | rfl | cases h
theorem star1' {e:Expr} {env:Env} (h:noStar e=true):starEach [e] env=[(false,eval e env)]:=by rw[cg h]; rfl
theorem star2' {e e2:Expr} {env:Env} (h:noStar e=true) (h2:noStar e2=true):starEach [e,e2] env=[(false,eval e env),(false,eval e2 env)]:=by rw[cg h,star1' h2]
theorem ff {env:Env} {pos:Pos}:(backTo pos (starEach [] env)).any (·.1)=false:=rfl
theorem fT {e:Expr} {es:List Expr} {env:Env} {pos:Pos} (h:noStar e=true) (r:(backTo pos (starEach es env)).any (·.1)=false):(backTo pos (starEach (e::es) env)).any (·.1)=false:=by
 rw[cg h]
 show (false || (backTo pos (starEach es env)).any (·.1))=false
 rw[r]
 rfl
def plainT:Expr→Bool
 | .UnaryOp _ _ _=>false
 | .BoolOp _ _ _=>false
 | .IfExp _ _ _ _=>false
 | .Compare _ _ _ _=>false
 | _=>true
theorem sZ {e:Expr} {env:Env} (h:plainT e=true):∀ whole,isTrue e env whole=(do let v ← whole; standAt e.pos; holding [v] (truthy v)):=by
 intro whole
 cases e <;> first | rfl | cases h
def IZ:Expr→Bool
 | .ListComp _ _ _ _=>false
 | .SetComp _ _ _ _=>false
 | .DictComp _ _ _ _ _=>false
 | _=>true
theorem fZ {e:Expr} {tg:Option Expr} {n:Nat} {env:Env} (h:IZ e=true):swapsWith e tg n env=pure false:=by
 cases e <;> first | rfl | cases h
theorem ints_are:∀ {ns:List Int} {its:List Value},Vals (ns.map V.int) its→IntsAre its ns
 | [],_,.nil=>.nil
 | n::ns,_,.cons ⟨t,e⟩ r=>by subst e; exact .cons n t (ints_are r)
section
variable {X:Cx}
theorem uw (hc:X.calm=true):rQ X (.builtin "sum") (fun xs H Q=>∃ (p:Addr) (ns:List Int),xs=[.ref p]∧SqL X.K H p (ns.map V.int)∧Q (.int ns.sum) H):=by
 intro pins s σ H xs us Q I r h
 obtain⟨p,ns,rfl,hq,q⟩:=h
 obtain⟨u,rfl,rx⟩:=vals1 r
 cases rx
 obtain⟨its,r',pl,hz⟩:=I.list hq
 have hi:=ints_are r'
 obtain⟨xs,e⟩:=hi.allInts.items
 have hl:=pl.isList
 have en:=hi.numsOf
 rw[show its=its.toArray.toList from rfl,e,nums_intItems] at en
 rw[e] at hl
 refine sum_intListG (I.ok.hd hc) hl fun h' tk t' k=>⟨.int ns.sum,H,I.kept k,⟨t',?_⟩,q⟩
 rw[preSum_eq,List.take_of_length_le (by simp),en]
theorem tR (hc:X.calm=true):rQ X (.builtin "all") (fun xs H Q=>∃ (p:Addr) (bs:List Bool),xs=[.ref p]∧SqL X.K H p (bs.map V.bl)∧Q (.bl (bs.all id)) H):=by
 intro pins s σ H xs us Q I r h
 obtain⟨p,bs,rfl,hq,q⟩:=h
 obtain⟨u,rfl,rx⟩:=vals1 r
 cases rx
 obtain⟨its,r',pl,hz⟩:=I.list hq
 have hl:=pl.isList
 have hlt:p<s.heap.objs.size:=by obtain⟨_,e,_⟩:=hl; exact Heap.lt_size e
 have len:=r'.length
 rw[List.length_map] at len
 refine call_all_walk (wpAny_pyIter_list hl ⟨_,_,_,_,_,_,fun i=>bs.getD i true,rfl,Walks.list (A:=X.A.in1) (I.ok.hd hc) s.heap.objs.size p (Nat.ne_of_lt hlt) its.toArray,⟨⟨_,Heap.get?_push_size _ rfl,rfl,rfl⟩,hl.push _⟩,?_,?_⟩)
 ·intro i v s' Q' E' hP hQ
  have hP':its[i]?=some v:=by simpa using hP
  have li:i<bs.length:=by
   have:=(List.getElem?_eq_some_iff.mp hP').1
   omega
  obtain⟨u,e1,e2⟩:=r'.get (i:=i) (x:=.bl (bs.getD i true)) (by simp [List.getD,li])
  rw[hP'] at e1
  cases e1
  obtain rfl:v=Value.bool (bs.getD i true):=e2
  exact wpAny_truthy_bool hQ
 ·intro h' tk hk
  have:(List.range its.toArray.size).all (fun i=>bs.getD i true)=bs.all id:=by
   rw[List.size_toArray,← len]
   clear len hq q r' hz
   induction bs with
   | nil=>rfl
   | cons b bs ih =>
    rw[List.length_cons,List.range_succ_eq_map,List.all_cons,List.all_map,List.all_cons]
    exact congrArg _ ih
  rw[this]
  exact⟨.bl _,H,I.kept (old_kept hk),rfl,q⟩
end
structure Apart (z TI TO i1 i2:Addr) (f1 f2:List Addr):Prop where
 zTI:z≠TI
 zTO:z≠TO
 TITO:TI≠TO
 TI1:TI≠i1
 TI2:TI≠i2
 m1:i1∈f1
 m2:i2∈f2
 z1:z ∉ f1
 z2:z ∉ f2
 t1:TO ∉ f1
 t2:TO ∉ f2
 i12:i1 ∉ f2
 i21:i2 ∉ f1
theorem kT {x y:Addr} {l:List Addr} (h:x∈l) (h':y ∉ l):x≠y:=fun e=>h' (e ▸ h)
section
variable {prog:Program} {w:World} {A:Around} {E:Value→Shared→Prop} {s:Shared} {z TI TO i1 i2:Addr} {f1 f2:List Addr} {n1 n2 k:Nat} {P1 P2:Nat→Value→Prop} {S1 S2:Nat→Heap→Prop}
theorem gI {it:Addr} {f:List Addr} {n:Nat} {P:Nat→Value→Prop} {S:Nat→Heap→Prop} {i:Nat} {c:Addr} {h h':Heap} (D:Draws prog w A it f n P S) (st:S i h) (e:Heap.ExtBut c h h') (hc:c ∉ f):S i h' :=
 D.frame i h h' st fun b hb o q=>e b o (fun x=>hc (x ▸ hb)) q
theorem EY {a b:Value} {Q:Value→Shared→Prop} (D1:Draws prog w A i1 f1 n1 P1 S1) (D2:Draws prog w A i2 f2 n2 P2 S2) (ap:Apart z TI TO i1 i2 f1 f2)
  (hz:IsZip s.heap z TI TO .none) (hTI:IsPair s.heap TI (.ref i1) (.ref i2)) (hTO:IsPair s.heap TO a b) (st1:S1 k s.heap) (st2:S2 k s.heap) (h1:k<n1) (h2:k<n2)
  (hQ:∀ h' tk x y,P1 k x→P2 k y→IsZip h' z TI TO (rawInt s.heap.objs.size)→IsPair h' TO x y→S1 (k+1) h'→S2 (k+1) h'→IsPair h' s.heap.objs.size x y →
   (∀ c o,c≠z→c≠TO→c≠i1→c≠i2→s.heap.get? c=some o→h'.get? c=some o)→Q (.ref s.heap.objs.size) { s with heap:=h',toks:=tk }) :
  wpAny (model prog w) A (Builtin.«zip.__next__» ⟨[.ref z],[]⟩) (fun fin s'=>∃ v,fin=.done (.ret v)∧Q v s') E s:=by
 show wpAny _ _ (field (.ref z) 2 >>= _) _ _ _
 refine wpAny_bind (wpAny_field hz rfl (x:=.bool false) rfl ?_)
 show wpAny _ _ (field (.ref z) 3 >>= _) _ _ _
 refine wpAny_bind (wpAny_field hz rfl (x:=.ref TI) rfl ?_)
 refine wpAny_bind (wpAny_seqItems hTI rfl ?_)
 show wpAny _ _ (Builtin.SmallTypes.ownedTupleIsFree (.ref z) >>= _) _ _ _
 refine wpAny_bind ?_
 unfold Builtin.SmallTypes.ownedTupleIsFree
 refine wpAny_bind (wpAny_field hz rfl (x:=.none) rfl (wpAny_pure ?_))
 simp only [if_true]
 refine wpAny_bind (wpAny_rule (wpAny_bind (wpAny_field hz rfl (x:=.ref TO) rfl (wpAny_bind (wpAny_setField_rec hz (by simp) fun g1 hz1 s1=>?_)))))
 replace hz1:IsZip g1 z TI TO .ellipsis:=hz1
 refine wpAny_bind ?_
 simp only [List.zipIdx_cons,List.zipIdx_nil,List.forIn_cons,List.forIn_nil]
 refine wpAny_bind (wpAny_bind (wpAny_onRaise ?_))
 show wpAny _ _ (Builtin.SmallTypes.nextOf (.ref i1) >>= _) _ _ _
 refine wpAny_bind (D1.item k _ _ _ h1 (gI D1 st1 s1.extBut ap.z1) fun x g2 tk2 px st1' s2=>wpAny_pure ?_)
 have nTO1:TO≠i1:=(kT ap.m1 ap.t1).symm
 have nTO2:TO≠i2:=(kT ap.m2 ap.t2).symm
 have nz1:z≠i1:=(kT ap.m1 ap.z1).symm
 have nz2:z≠i2:=(kT ap.m2 ap.z2).symm
 have hTO2:IsPair g2 TO a b:=s2.extBut _ _ nTO1 (s1.extBut _ _ ap.zTO.symm hTO)
 refine wpAny_bind (wpAny_seqItems hTO2 rfl (wpAny_bind (wpAny_updateSeq_pair hTO2 fun g3 hTO3 s3=>wpAny_bind (wpAny_letGo (wpAny_pure ?_)))))
 replace hTO3:IsPair g3 TO x b:=hTO3
 refine wpAny_bind (wpAny_bind (wpAny_onRaise ?_))
 show wpAny _ _ (Builtin.SmallTypes.nextOf (.ref i2) >>= _) _ _ _
 refine wpAny_bind (D2.item k _ _ _ h2 (gI D2 (gI D2 (gI D2 st2 s1.extBut ap.z2) s2.extBut ap.i12) s3.extBut ap.t2) fun y g4 tk4 py st2' s4=>wpAny_pure ?_)
 have hTO4:IsPair g4 TO x b:=s4.extBut _ _ nTO2 hTO3
 refine wpAny_bind (wpAny_seqItems hTO4 rfl (wpAny_bind (wpAny_updateSeq_pair hTO4 fun g5 hTO5 s5=>wpAny_bind (wpAny_letGo (wpAny_pure (wpAny_pure ?_))))))
 replace hTO5:IsPair g5 TO x y:=hTO5
 refine wpAny_bind (wpAny_seqItems hTO5 rfl (wpAny_bind (wpAny_newTuple ?_)))
 have hsz:g5.objs.size=s.heap.objs.size:=by rw[s5.1,s4.1,s3.1,s2.1,s1.1]
 have hz5:IsZip g5 z TI TO .ellipsis:=s5.extBut _ _ ap.zTO (s4.extBut _ _ nz2 (s3.extBut _ _ ap.zTO (s2.extBut _ _ nz1 hz1)))
 have k5:∀ c o,c≠z→c≠TO→c≠i1→c≠i2→s.heap.get? c=some o→g5.get? c=some o:=fun c o c1 c2 c3 c4 e =>
  s5.extBut _ _ c2 (s4.extBut _ _ c4 (s3.extBut _ _ c2 (s2.extBut _ _ c3 (s1.extBut _ _ c1 e))))
 have u1:S1 (k+1) g5:=gI D1 (gI D1 (gI D1 st1' s3.extBut ap.t1) s4.extBut ap.i21) s5.extBut ap.t1
 have u2:S2 (k+1) g5:=gI D2 st2' s5.extBut ap.t2
 have zlt:z<g5.objs.size:=Heap.lt_size hz5
 show wpAny _ _ (Builtin.SmallTypes.ownedTupleHandOut (.ref z) (.ref g5.objs.size) >>= _) _ _ _
 refine wpAny_bind ?_
 unfold Builtin.SmallTypes.ownedTupleHandOut
 have hz6:IsZip (g5.push { cls:=.type "tuple",data:=.seq #[x,y] }) z TI TO .ellipsis:=Heap.get?_push_of_some _ hz5
 refine wpAny_bind (wpAny_setField_rec hz6 (by simp) fun g7 hz7 s7=>?_)
 replace hz7:IsZip g7 z TI TO (rawInt g5.objs.size):=hz7
 refine wpAny_setField_rec hz7 (by simp) fun g8 hz8 s8=>?_
 replace hz8:IsZip g8 z TI TO (rawInt g5.objs.size):=hz8
 have up:∀ c o,c≠z→g5.get? c=some o→g8.get? c=some o:=fun c o c1 e=>s8.extBut _ _ c1 (s7.extBut _ _ c1 (Heap.get?_push_of_some _ e))
 have hT8:IsPair g8 g5.objs.size x y:=s8.extBut _ _ (Nat.ne_of_gt zlt) (s7.extBut _ _ (Nat.ne_of_gt zlt) (Heap.get?_push_size _ rfl))
 rw[hsz] at hz8 hT8
 refine wpAny_pure ⟨_,rfl,?_⟩
 show Q (.ref g5.objs.size) _
 rw[hsz]
 exact hQ g8 tk4 x y px py hz8 (up _ _ ap.zTO.symm hTO5) (D1.frame _ _ _ u1 fun b hb o q=>up b o (fun x=>ap.z1 (x ▸ hb)) q) (D2.frame _ _ _ u2 fun b hb o q=>up b o (fun x=>ap.z2 (x ▸ hb)) q) hT8 fun c o c1 c2 c3 c4 e=>up c o c1 (k5 c o c1 c2 c3 c4 e)
theorem E4 {a b:Value} {Q:Fin→Shared→Prop} (D1:Draws prog w A i1 f1 n1 P1 S1) (D2:Draws prog w A i2 f2 n2 P2 S2) (ap:Apart z TI TO i1 i2 f1 f2)
  (hz:IsZip s.heap z TI TO .none) (hTI:IsPair s.heap TI (.ref i1) (.ref i2)) (hTO:IsPair s.heap TO a b) (st1:S1 k s.heap) (st2:S2 k s.heap) (hk:k=n1∨(k<n1∧k=n2))
  (hE:∀ h' tk e,(∀ c o,c≠z→c≠TO→c≠i1→c≠i2→s.heap.get? c=some o→h'.get? c=some o)→(∃ o,h'.get? e=some o∧o.cls=.type "StopIteration")→E (.ref e) { s with heap:=h',toks:=tk }) :
  wpAny (model prog w) A (Builtin.«zip.__next__» ⟨[.ref z],[]⟩) Q E s:=by
 show wpAny _ _ (field (.ref z) 2 >>= _) _ _ _
 refine wpAny_bind (wpAny_field hz rfl (x:=.bool false) rfl ?_)
 show wpAny _ _ (field (.ref z) 3 >>= _) _ _ _
 refine wpAny_bind (wpAny_field hz rfl (x:=.ref TI) rfl ?_)
 refine wpAny_bind (wpAny_seqItems hTI rfl ?_)
 show wpAny _ _ (Builtin.SmallTypes.ownedTupleIsFree (.ref z) >>= _) _ _ _
 refine wpAny_bind ?_
 unfold Builtin.SmallTypes.ownedTupleIsFree
 refine wpAny_bind (wpAny_field hz rfl (x:=.none) rfl (wpAny_pure ?_))
 simp only [if_true]
 refine wpAny_bind (wpAny_rule (wpAny_bind (wpAny_field hz rfl (x:=.ref TO) rfl (wpAny_bind (wpAny_setField_rec hz (by simp) fun g1 hz1 s1=>?_)))))
 replace hz1:IsZip g1 z TI TO .ellipsis:=hz1
 refine wpAny_bind ?_
 simp only [List.zipIdx_cons,List.zipIdx_nil,List.forIn_cons,List.forIn_nil]
 refine wpAny_bind (wpAny_bind (wpAny_onRaise ?_))
 show wpAny _ _ (Builtin.SmallTypes.nextOf (.ref i1) >>= _) _ _ _
 have nTO1:TO≠i1:=(kT ap.m1 ap.t1).symm
 have nz1:z≠i1:=(kT ap.m1 ap.z1).symm
 have nz2:z≠i2:=(kT ap.m2 ap.z2).symm
 rcases hk with rfl | ⟨h1,rfl⟩
 ·refine wpAny_bind (D1.done _ _ _ (gI D1 st1 s1.extBut ap.z1) fun g2 e s2 he=>?_)
  obtain⟨oe,hoe,hce⟩:=he
  have hz2:IsZip g2 z TI TO .ellipsis:=s2 _ _ nz1 hz1
  have hez:e≠z:=fun x=>by subst x; rw[hz2] at hoe; cases hoe; simp at hce
  exact wpAny_setField_rec hz2 (by simp) fun g3 _ s3=>hE g3 _ e (fun c o c1 _ c3 _ x=>s3.extBut _ _ c1 (s2 _ _ c3 (s1.extBut _ _ c1 x))) ⟨oe,s3.extBut _ _ hez hoe,hce⟩
 ·refine wpAny_bind (D1.item k _ _ _ h1 (gI D1 st1 s1.extBut ap.z1) fun x g2 tk2 px st1' s2=>wpAny_pure ?_)
  have hTO2:IsPair g2 TO a b:=s2.extBut _ _ nTO1 (s1.extBut _ _ ap.zTO.symm hTO)
  refine wpAny_bind (wpAny_seqItems hTO2 rfl (wpAny_bind (wpAny_updateSeq_pair hTO2 fun g3 hTO3 s3=>wpAny_bind (wpAny_letGo (wpAny_pure ?_)))))
  refine wpAny_bind (wpAny_bind (wpAny_onRaise ?_))
  show wpAny _ _ (Builtin.SmallTypes.nextOf (.ref i2) >>= _) _ _ _
  refine wpAny_bind (D2.done _ _ _ (gI D2 (gI D2 (gI D2 st2 s1.extBut ap.z2) s2.extBut ap.i12) s3.extBut ap.t2) fun g4 e s4 he=>?_)
  obtain⟨oe,hoe,hce⟩:=he
  have hz4:IsZip g4 z TI TO .ellipsis:=s4 _ _ nz2 (s3.extBut _ _ ap.zTO (s2.extBut _ _ nz1 hz1))
  have hez:e≠z:=fun x=>by subst x; rw[hz4] at hoe; cases hoe; simp at hce
  exact wpAny_setField_rec hz4 (by simp) fun g5 _ s5=>hE g5 _ e (fun c o c1 c2 c3 c4 x=>s5.extBut _ _ c1 (s4 _ _ c4 (s3.extBut _ _ c2 (s2.extBut _ _ c3 (s1.extBut _ _ c1 x))))) ⟨oe,s5.extBut _ _ hez hoe,hce⟩
end
theorem Ei (n a b:Nat) (ha:a<n) (hb:b<n):Apart (n+4) (n+2) (n+3) n (n+1) [n,a] [n+1,b]:=by
 constructor <;> first | simp only [List.mem_cons,List.not_mem_nil,or_false,true_or,not_or] | skip
 all_goals first | (exact trivial) | (intro h; have h':(_:Nat)=_:=h; omega) | (constructor <;> (intro h; have h':(_:Nat)=_:=h; omega))
theorem uv {X:Cx} {K:PySem.W.Frag} {es:List Expr} {k n:Nat} {t:TGs} {pos:Pos} (hK:X.K=K) (hc:X.calm=true) (h:PGs X es t) (hn:(assignEach es X.env).length=n) (hst:(assignEach es X.env).findIdx? (·.1)=none):PG X (.Tuple es k pos) (E2 K n t):=by
 subst hK
 exact uP hc h hn hst
section
variable {X:Cx}
theorem w6 {ns:List Int} {its:List Value} (r:Vals (ns.map V.int) its) {j:Nat} (h:j<its.length):∃ t,its[j]=.int (ns.getD j 0) t:=by
 obtain⟨x,e,rv⟩:=u7 r h
 have hl:j<ns.length:=by have:=r.length; rw[List.length_map] at this; omega
 rw[List.getElem?_map,List.getElem?_eq_getElem hl] at e
 cases e
 obtain⟨t,e⟩:=rv
 exact⟨t,by rw[e]; simp [List.getD,hl]⟩
abbrev Sq (K:PySem.W.Frag) (H:Hp) (a:Addr) (xs:List V):Prop:=SqL K H a xs∨SqT K H a xs
end
deriving instance DecidableEq for Kn
section
variable {X:Cx}
theorem tS:rQ X (.type "list") (fun xs H Q=>∃ p ys,xs=[.ref p]∧SqL X.K H p ys∧∀ l,H l=none→Q (.ref l) (upd H l (.lst ys))):=by
 intro pins s σ H xs us Q I r h
 obtain⟨p,ys,rfl,hq,q⟩:=h
 exact Aq pins s σ H _ us Q I r ⟨p,ys,rfl,.inl hq,q⟩
end
end L2
namespace PySem
open Sem (wp)
namespace SetL
theorem plain_loop:plainId "set.update.loop"=true:=by decide +kernel
theorem entry_loop:entryFor table "set.update.loop"=some Builtin.«set.update.loop»:=entryFor_of_tree (by kernel_rfl)
def addS (p:(Int→Bool)×Nat) (k:Int):(Int→Bool)×Nat:=(fun k'=>p.1 k' || decide (k'=k),if p.1 k=true then p.2 else p.2+1)
theorem Hu (p:(Int→Bool)×Nat) (k:Int):(addS p k).2≤p.2+1:=by
 show (if p.1 k=true then p.2 else p.2+1)≤_
 split <;> omega
section
variable {prog:Program} {w:World} {A:Around} {R:Result→Shared→Prop} {I:Addr} {fp wr:List Addr} {n:Nat} {P:Nat→Value→Prop} {St:Nat→Heap→Prop}
theorem xR (W:Walks prog w A.in1 I fp wr n P St) (a:Addr) (ha:a ∉ fp) (hw:a ∉ wr) (val:Nat→Int) (hval:∀ i v,P i v→∃ t,v=.int (val i) t):∀ (k i:Nat) (s:Shared) (p:(Int→Bool)×Nat),n-i=k→i≤n→St i s.heap →
  s.heap.SetOf (intKind prog w) a p.1 p.2→p.2+k<scanBound →
  (∀ h' tk,h'.SetOf (intKind prog w) a (((List.range n).drop i).foldl (fun q j=>addS q (val j)) p).1 (((List.range n).drop i).foldl (fun q j=>addS q (val j)) p).2→(∀ b o,b ∉ a::wr→s.heap.get? b=some o→h'.get? b=some o)→R (.ok (.ret .none)) { s with heap:=h',toks:=tk }) →
  codeAny (model prog w) A (.builtin "set.update.loop" ⟨[.ref a,.ref I],[]⟩) R s:=by
 intro k
 induction k with
 | zero =>
  intro i s p hk hi hst hS hb hR
  have hin:i=n:=by omega
  subst hin
  refine codeAny_builtin entry_loop ?_
  rw[Around.under_plainId plain_loop _]
  show wpAny _ A.in1 (pyNext (.ref I) >>= _) _ _ s
  refine wpAny_bind (W.done s _ _ hst fun h' tk hk'=>?_)
  refine wpAny_pure ?_
  obtain⟨o,es,ep,t,ho,r⟩:=hS
  refine hR h' tk ?_ fun b o hbw e=>hk' b o (fun z=>hbw (List.mem_cons_of_mem _ z)) e
  rw[List.drop_of_length_le (by simp)]
  exact⟨o,es,ep,t,hk' a o hw ho,r⟩
 | succ k ih =>
  intro i s p hk hi hst hS hb hR
  have hlt:i<n:=by omega
  have hd:(List.range n).drop i=i::(List.range n).drop (i+1):=by
   rw[List.drop_eq_getElem_cons (by simpa using hlt)]; simp
  refine codeAny_builtin entry_loop ?_
  rw[Around.under_plainId plain_loop _]
  show wpAny _ A.in1 (pyNext (.ref I) >>= _) _ _ s
  refine wpAny_bind (W.item i s _ _ hlt hst fun v h' tk hP hst' hk'=>?_)
  obtain⟨t,rfl⟩:=hval i v hP
  obtain⟨o,es,ep,tt,ho,r⟩:=hS
  have hS':h'.SetOf (intKind prog w) a p.1 p.2:=⟨o,es,ep,tt,hk' a o hw ho,r⟩
  refine wpAny_bind (wpAny_holding ?_)
  unfold setAdd
  refine wpAny_bind ((intKind prog w).pyHash (k:=val i) (by simp [intKind,Value.isInt]) ?_)
  refine wpAny_setAddHashed_of (knd:=intKind prog w) (k:=val i) (S:=p.1) (n:=p.2) (by simp [intKind,Value.isInt]) rfl hS' (by omega) fun h2 hsb hS2=>?_
  refine wpAny_pure ⟨plainId_quiet plain_loop _,ih (i+1) _ (addS p (val i)) (by omega) hlt ?_ hS2 (by have:=Hu p (val i); omega) fun h3 tk3 hS3 hk3=>?_⟩
  ·exact W.frame _ _ _ hst' fun b hbf o e=>hsb.extBut b o (fun z=>ha (z ▸ hbf)) e
  ·have:=hR h3 tk3
   rw[hd,List.foldl_cons] at this
   refine this hS3 fun b o hbw e=>hk3 b o hbw (hsb.extBut b o (fun z=>hbw (z ▸ List.mem_cons_self ..)) (hk' b o (fun z=>hbw (List.mem_cons_of_mem _ z)) e))
end
theorem typeCall_set_1 (x:Value):checkTypeCall "set" ⟨[x],[]⟩=pure ():=by kernel_rfl
theorem newCall_set_1 (x:Value):checkBuiltinCall "set.__new__" ⟨[.type "set",x],[]⟩=pure ():=by kernel_rfl
theorem sub_list_set:isSubtype (.type "list") (.type "set")=pure false:=by rw[isSubtype_type]; kernel_rfl
theorem sub_list_frozenset:isSubtype (.type "list") (.type "frozenset")=pure false:=by rw[isSubtype_type]; kernel_rfl
section
variable {prog:Program} {w:World} {A:Around} {E:Value→Shared→Prop} {s:Shared}
theorem zx {x:Value} {Q₁:Value→Shared→Prop}
  (h:∀ led:Bool,Q₁ (.ref s.heap.objs.size) { s with heap:=s.heap.push { cls:=.type "set",dict:=none,data:=.set #[] 0 (.fresh 0 0 led) } }) :
  codeAny (model prog w) A (.call (.builtin "set.__new__") ⟨[.type "set",x],[]⟩) (wants Q₁ E) s:=by
 refine codeAny_of_tree ?_
 show wpAny _ A.in1 (do checkBuiltinCall "set.__new__" ⟨[.type "set",x],[]⟩; again (.builtin "set.__new__" ⟨[.type "set",x],[]⟩)) _ _ s
 refine wpAny_bind (wpAny_of_eq (newCall_set_1 x) (wpAny_pure ⟨plainId_quiet F.plain_set_new _,codeAny_builtin F.entry_set_new ?_⟩))
 rw[Around.under_plainId F.plain_set_new _]
 unfold Builtin.«set.__new__» Builtin.Frozenset.newClass
 have hsub:=sub_set_self
 obtain⟨hp,g,d,tk,os⟩:=s
 dsimp only
 wp_walk
 refine wpAny_askSetting (wpAny_pure ?_)
 dsimp only
 simp only [newObj]
 refine wpAny_bind (wpAny_alloc (wpAny_pure ?_))
 exact wpAny_pure (h _)
theorem check_set_init1 {M:Model} {self x:Value} {Q:Unit→Shared→Prop} (hT:s.TypeIs self "set") (hQ:Q () s) :
  wpAny M A (checkBuiltinCall "set.__init__" ⟨[self,x],[]⟩) Q E s:=by
 simp only [checkBuiltinCall,kind_set_init,split_set_init,sig_set_init]
 refine wpAny_bind (wpAny_isInstance hT sub_set_self ?_)
 simp only [Bool.not_true,Bool.false_eq_true,if_false]
 unfold Bind.checkArgs
 dsimp only
 refine wpAny_bind (m:=Bind.printed "set" true _ _) (PyProof.Rows.printed_name (by decide) ?_)
 refine wpAny_bind (m:=Bind.printed "*" false _ _) (PyProof.Rows.printed_star (self:=self) rfl hT fun short=>?_)
 have hrn:(Manifest.Receiver.self == Manifest.Receiver.none)=false:=by decide
 have hn:(if (Manifest.Receiver.self == Manifest.Receiver.none)=true then [self,x].length else [self,x].length-1)=1:=by simp [hrn]
 rw[hn]
 simp only [List.map_nil]
 have hc:Bind.check ⟨.positional,"set","*",.self,[⟨"iterable",.posOnly,false⟩]⟩ "set" short 1 []=pure ():=by
  simp [Bind.check,Bind.checkCount,Bind.isPositional]
  intro h
  exact absurd h (by decide)
 rw[hc]
 exact wpAny_pure hQ
set_option maxHeartbeats 4000000 in
theorem call_set_1 {l:Addr} {its:List Value} {ns:List Int} {Q:Value→Shared→Prop} (hh:A.handled=none) (hl:s.heap.IsList l its.toArray) (hi:∀ (j:Nat) (v:Value),its[j]?=some v→∃ t,v=.int (ns.getD j 0) t) (hn:its.length=ns.length) (hb:ns.length<1000)
  (h:∀ h' tk,h'.SetOf (intKind prog w) s.heap.objs.size (ns.foldl addS (fun _=>false,0)).1 (ns.foldl addS (fun _=>false,0)).2→(∀ b o,s.heap.get? b=some o→h'.get? b=some o)→Q (.ref s.heap.objs.size) { s with heap:=h',toks:=tk }) :
  wpAny (model prog w) A (call (.type "set") [.ref l]) Q E s:=by
 obtain⟨c,tl,hmro⟩:=F.called_set.mro
 have hmade:=F.called_set.made
 have hsub:=F.called_set.sub
 refine wpAny_call (codeAny_of_tree ?_)
 show wpAny _ _ (callAny (.type "set") _) _ _ _
 refine wpAny_pure ⟨Code.quiet_builtin _ (by decide +kernel),codeAny_builtin F.entry_type_call ?_⟩
 rw[Around.under_plain (weight_type_call_type "set" [.ref l] []) rfl]
 have h1:=F.called_set.notType
 have h2:=F.called_set.canCreate
 have hct:=typeCall_set_1 (.ref l)
 repeat (any_goals (first | assumption | wp_step))
 refine codeAny_mono (zx (E:=E) (Q₁:=fun obj s₁=>∃ led:Bool,obj=.ref s.heap.objs.size∧s₁={ s with heap:=s.heap.push { cls:=.type "set",dict:=none,data:=.set #[] 0 (.fresh 0 0 led) } }) fun led=>⟨led,rfl,rfl⟩) fun r s₁ hr=>?_
 cases r with
 | error e=>exact hr
 | ok fl =>
  cases fl with
  | ret obj =>
   obtain⟨led,rfl,rfl⟩:=hr
   have hS:(s.heap.push { cls:=.type "set",dict:=none,data:=.set #[] 0 (.fresh 0 0 led) }).get? s.heap.objs.size=some { cls:=.type "set",dict:=none,data:=.set #[] 0 (.fresh 0 0 led) }:=Heap.get?_push_size _ rfl
   have hT:Shared.TypeIs { s with heap:=s.heap.push { cls:=.type "set",dict:=none,data:=.set #[] 0 (.fresh 0 0 led) } } (.ref s.heap.objs.size) "set":=⟨_,hS,rfl⟩
   have hli:=F.called_set.init.lookup
   have hbi:=F.called_set.init.bind (.ref s.heap.objs.size)
   repeat (any_goals (first | assumption | wp_step))
   refine codeAny_mono (codeAny_call_builtin (R:=wants (fun r s₂=>r=.none∧Q (.ref s.heap.objs.size) s₂) E) F.called_set.init.plain F.entry_set_init (check_set_init1 hT ?_)) fun r₂ s₂ hr₂=>?_
   ·obtain⟨⟨cls,dd,data,sl⟩,ho,hc,nn,hd⟩:=hl.push { cls:=.type "set",dict:=none,data:=.set #[] 0 (.fresh 0 0 led) }
    simp only at hc hd
    subst hc hd
    have f1:=sub_list_set
    have f2:=sub_list_frozenset
    unfold Builtin.«set.__init__» noKeywords
    have hl':Heap.IsList (s.heap.push { cls:=.type "set",dict:=none,data:=.set #[] 0 (.fresh 0 0 led) }) l its.toArray:=hl.push _
    wp_walk using wpAny_loadPart' ho,wpAny_pyIter_list hl'
    have hlt:l<s.heap.objs.size:=by obtain⟨_,e,_⟩:=hl; exact Heap.lt_size e
    have hsz:(s.heap.push { cls:=.type "set",dict:=none,data:=.set #[] 0 (.fresh 0 0 led) }).objs.size=s.heap.objs.size+1:=Heap.size_push ..
    have hS0:Heap.SetOf (intKind prog w) (s.heap.push { cls:=.type "set",dict:=none,data:=.set #[] 0 (.fresh 0 0 led) }) s.heap.objs.size (fun _=>false) 0 :=
     ⟨_,#[],0,_,Heap.get?_push_size _ rfl,⟨rfl,rfl,rfl⟩,rfl,fun e he=>by simp at he,fun k=>by simp,by decide,by rfl,rfl⟩
    refine xR (Walks.list (A:=A.in1.in1.in1) hh _ l (by show l≠(s.heap.push _).objs.size; rw[hsz]; exact Nat.ne_of_lt (Nat.lt_succ_of_lt hlt)) its.toArray) s.heap.objs.size ?_ ?_ (fun j=>ns.getD j 0) (fun j v hP=>hi j v (by simpa using hP)) its.toArray.size 0 _ (fun _=>false,0) (Nat.sub_zero _) (Nat.zero_le _) ⟨⟨_,Heap.get?_push_size _ rfl,rfl,rfl⟩,hl'.push _⟩ ?_ ?_ ?_
    ·show s.heap.objs.size ∉ [(s.heap.push _).objs.size,l]
     rw[hsz]
     intro hm
     rcases List.mem_cons.mp hm with e | hm
     ·exact absurd e (Nat.ne_of_lt (Nat.lt_succ_self _))
     ·exact absurd (List.mem_singleton.mp hm) (Nat.ne_of_gt hlt)
    ·show s.heap.objs.size ∉ [(s.heap.push _).objs.size]
     rw[hsz]
     simp
    ·obtain⟨o,es,ep,t,ho',r⟩:=hS0
     exact⟨o,es,ep,t,Heap.get?_push_of_some _ ho',r⟩
    ·show 0+its.toArray.size<scanBound
     rw[List.size_toArray,hn]
     exact Nat.lt_of_lt_of_le (m:=1000) (by omega) (by decide)
    ·intro h' tk hS' hk
     have fe:((List.range its.toArray.size).drop 0).foldl (fun q j=>addS q (ns.getD j 0)) (fun _=>false,0)=ns.foldl addS (fun _=>false,0):=by
      rw[List.drop_zero,List.size_toArray,hn,← List.foldl_map (f:=fun j=>ns.getD j 0)]
      congr 1
      apply List.ext_getElem (by simp)
      intro i h1 h2
      simp [List.getD,h2]
     rw[fe] at hS'
     refine wpAny_pure (wpAny_pure ⟨rfl,h h' tk hS' fun b o e=>hk b o (fun hm=>?_) (Heap.get?_push_of_some _ (Heap.get?_push_of_some _ e))⟩)
     have lb:=Heap.lt_size e
     have hm':b∈[s.heap.objs.size,(s.heap.push { cls:=.type "set",dict:=none,data:=.set #[] 0 (.fresh 0 0 led) }).objs.size]:=hm
     rw[hsz] at hm'
     rcases List.mem_cons.mp hm' with z | z
     ·exact absurd lb (by rw[z]; exact Nat.lt_irrefl _)
     ·exact absurd lb (by rw[List.mem_singleton.mp z]; exact Nat.not_lt.mpr (Nat.le_succ _))
   ·cases r₂ with
    | error e=>exact hr₂
    | ok fl₂ =>
     cases fl₂ with
     | ret r =>
      obtain⟨rfl,hq⟩:=hr₂
      repeat (any_goals (first | assumption | wp_step))
     | _=>exact hr₂.elim
  | _=>exact hr.elim
end
end SetL
end PySem
namespace L2
open PySem PySem.Spec PyProof.Rows
section
variable {X:Cx}
theorem BO (hc:X.calm=true):rQ X (.type "set") (fun xs H Q=>∃ (p:Addr) (ns:List Int),xs=[.ref p]∧SqL X.K H p (ns.map V.int)∧ns.length<1000∧∀ l,H l=none→Q (.ref l) (upd H l (.set (ns.foldl PySem.SetL.addS (fun _=>false,0)).1 (ns.foldl PySem.SetL.addS (fun _=>false,0)).2))):=by
 intro pins s σ H xs us Q I r h
 obtain⟨p,ns,rfl,hq,hb,q⟩:=h
 obtain⟨u,rfl,rx⟩:=vals1 r
 cases rx
 obtain⟨its,r',pl,hz⟩:=I.list hq
 have len:=r'.length
 rw[List.length_map] at len
 refine PySem.SetL.call_set_1 (I.ok.hd hc) pl.isList (fun j v e=>?_) len.symm hb fun h' tk hS hk=>?_
 ·obtain⟨hj,e'⟩:=List.getElem?_eq_some_iff.mp e
  rw[← e']
  exact w6 r' hj
 ·exact⟨.ref s.heap.objs.size,_,I.laid (o:=.set _ _) hk (Nat.le_refl _) hS,rfl,q _ (I.hok.fresh (Nat.le_refl _))⟩
theorem zI:rQ X (.builtin "len") (fun xs H Q=>∃ (p:Addr) (S:Int→Bool) (n:Nat),xs=[.ref p]∧H p=some (.set S n)∧Q (.int n) H):=by
 intro pins s σ H xs us Q I r h
 obtain⟨p,S,n,rfl,hp,q⟩:=h
 obtain⟨u,rfl,rx⟩:=vals1 r
 cases rx
 obtain⟨o,es,ep,t,ho,hex,hd,hel,hmem,hb,hf,hn⟩:=(show ObjOk X.prog X.w H s.heap p (.set S n) from I.hok p _ hp)
 refine PySem.call_len_set ho hex hd hf ?_ ⟨.int n,H,I.tok _,⟨_,by rw[hn]⟩,q⟩
 have:es.size<4096:=hb
 omega
end
mutual
inductive Rep (K:PySem.W.Frag) (H:Hp):V→PyData→Prop
 | non:Rep K H .non .none
 | bl (b:Bool):Rep K H (.bl b) (.bool b)
 | int (i:Int):Rep K H (.int i) (.int i)
 | str (z:Str):Rep K H (.str z) (.str z)
 | lst {a:Addr} {xs:List V} {ds:List PyData}:SqL K H a xs→RepAll K H xs ds→Rep K H (.ref a) (.list ds)
 | tup {a:Addr} {xs:List V} {ds:List PyData}:SqT K H a xs→RepAll K H xs ds→Rep K H (.ref a) (.tuple ds)
inductive RepAll (K:PySem.W.Frag) (H:Hp):List V→List PyData→Prop
 | nil:RepAll K H [] []
 | cons {x:V} {d:PyData} {xs:List V} {ds:List PyData}:Rep K H x d→RepAll K H xs ds→RepAll K H (x::xs) (d::ds)
end
theorem xM {K:PySem.W.Frag} {H H':Hp} {a:Addr} {xs:List V} (e:Same H H') (h:SqT K H a xs):SqT K H' a xs:=by
 rcases h with (h | ⟨o,h⟩) | h
 ·exact .inl (.inl (e _ _ h))
 ·exact .inl (.inr ⟨o,e _ _ h⟩)
 ·exact .inr h
mutual
theorem Rep.same {K:PySem.W.Frag} {H H':Hp} (e:Same H H'):∀ {v:V} {d:PyData},Rep K H v d→Rep K H' v d
 | _,_,.non=>.non
 | _,_,.bl b=>.bl b
 | _,_,.int i=>.int i
 | _,_,.str z=>.str z
 | _,_,.lst h r=>.lst (e.seq h) (RepAll.same e r)
 | _,_,.tup h r=>.tup (xM e h) (RepAll.same e r)
theorem RepAll.same {K:PySem.W.Frag} {H H':Hp} (e:Same H H'):∀ {xs:List V} {ds:List PyData},RepAll K H xs ds→RepAll K H' xs ds
 | _,_,.nil=>.nil
 | _,_,.cons h r=>.cons (Rep.same e h) (RepAll.same e r)
end
section
variable {X:Cx} {pins:List (Addr×Obj)} {σ:St} {H:Hp} {s:Shared}
mutual
theorem Rep.reads (I:Inv X pins σ H s):∀ {v:V} {d:PyData} {u:Value},Rep X.K H v d→RelV v u→∃ as,Reads s.heap u d as
 | _,_,u,.non,r=>by
  obtain rfl:u=Value.none:=r
  exact⟨[],.none⟩
 | _,_,u,.bl b,r=>by
  obtain rfl:u=Value.bool b:=r
  exact⟨[],.bool b⟩
 | _,_,u,.int i,r=>by
  obtain⟨t,rfl⟩:=r
  exact⟨[],.int i t⟩
 | _,_,u,.str z,r=>by
  obtain⟨t,rfl⟩:=r
  exact⟨[],.str z t⟩
 | _,_,u,.lst (a:=a) h ra,r=>by
  obtain rfl:u=Value.ref a:=r
  obtain⟨its,rv,⟨o,n,e,c,_,dt⟩,_⟩:=I.list h
  obtain⟨as,ra'⟩:=RepAll.reads I ra rv
  exact⟨a::as,.list e c dt (by simpa using ra')⟩
 | _,_,u,.tup (a:=a) h ra,r=>by
  obtain rfl:u=Value.ref a:=r
  obtain⟨its,rv,⟨o,e,c,n,dt⟩,_⟩:=I.tuple h
  obtain⟨as,ra'⟩:=RepAll.reads I ra rv
  exact⟨as,.tuple e c dt (by simpa using ra')⟩
theorem RepAll.reads (I:Inv X pins σ H s):∀ {xs:List V} {ds:List PyData} {us:List Value},RepAll X.K H xs ds→Vals xs us→∃ as,ReadsAll s.heap us ds as
 | _,_,_,.nil,.nil=>⟨[],.nil⟩
 | _,_,_,.cons h r,.cons rv rs=>by
  obtain⟨as,h1⟩:=Rep.reads I h rv
  obtain⟨bs,h2⟩:=RepAll.reads I r rs
  exact⟨as++bs,.cons h1 h2⟩
end
end
def zQ (d:PyData):Prop:=d.canLay0=true∧d.depth≤40
theorem J5 {A:Around} {k:Nat} (hr:Room k A):A.units+60<cLine:=Nat.lt_of_le_of_lt (Nat.add_le_add_left (by decide:60≤64) _) hr.units
section
variable {X:Cx}
def Ka (K:PySem.W.Frag) (neg:Bool):R2:=fun x y H Q=>∃ d e,Rep K H x d∧Rep K H y e∧zQ d∧zQ e∧Q (.bl (if neg then !PyData.eqv d e else PyData.eqv d e)) H
theorem IS (hu:X.A.units+60<cLine):OpR X (compareOp .Eq) (Ka X.K false):=by
 intro pins s σ H x y v u Q I rx ry h
 obtain⟨d,e,hd,he,fd,fe,q⟩:=h
 obtain⟨as,r1⟩:=hd.reads I rx
 obtain⟨bs,r2⟩:=he.reads I ry
 exact SeqAt.compareEq_reads r1 r2 fd.1 fe.1 (by have:=fd.2; have:=fe.2; omega) ⟨.bl _,H,I,rfl,q⟩
end
end L2
namespace HT
open PySem PyProof.Rows PySem.SeqAt
section
variable {l b:Addr}
theorem wz {ns:List Int} {its:List Value} (r:L2.Vals (ns.map L2.V.int) its):IntsAre its ns:=L2.ints_are r
end
end HT
namespace L2
open PySem PySem.Spec PyProof.Rows
def iOr (w1 w2:TI):TI:=fun σ H R=>w1 σ H R∨w2 σ H R
theorem CA {X:Cx} {tg l:Expr} {w1 w2:TI} (h1:PI X tg l w1) (h2:PI X tg l w2):PI X tg l (iOr w1 w2):=fun pins s σ H R I h=>by
 rcases h with h | h
 ·exact h1 pins s σ H R I h
 ·exact h2 pins s σ H R I h
section
variable {K:PySem.W.Frag} {a:Addr} {g:TG} {tt:TT} {te:TE} {Q:VK} {H:Hp}
theorem wG {D:Addr} {τ:St} {H:Hp} {sq:Hp→List V→Prop} (xs:List V) (Pv:Nat→St→Hp→Prop) (h0:Pv 0 τ H) (hl:∀ i τ H,i≤xs.length→Pv i τ H→sq H xs)
  (hs:∀ i x T τ H (R:St→Hp→Prop),xs[i]?=some x→Pv i τ H→H T=none→(∀ τ' H',Pv (i+1) τ' H'→R τ' H')→t9 D g tt te (.ref T) τ (upd H T (.tup [.int i,x])) R) (hd:∀ τ H,Pv xs.length τ H→Q (.ref D) H):uL D (Ite sq) g tt te Q τ H:=by
 refine⟨fun i m τ H=>m=xs.length-i∧i≤xs.length∧Pv i τ H,⟨xs.length,by simp,Nat.zero_le _,h0⟩,?_⟩
 rintro i m τ H2 ⟨rfl,hi,p⟩
 have q:=hl i τ H2 hi p
 by_cases hlt:i<xs.length
 ·have hx:xs[i]?=some xs[i]:=by simp [hlt]
  refine .inr ⟨⟨xs,_,q,hx⟩,fun x H' y=>?_⟩
  obtain⟨T,v,hT,e1,e2,y1⟩:=y
  subst e1 e2
  exact hs i _ T τ _ (fun τ' H'=>∃ m',m'<xs.length-i∧m'=xs.length-(i+1)∧i+1≤xs.length∧Pv (i+1) τ' H') (y1 xs q) p hT fun τ' H' p'=>⟨_,by omega,rfl,hlt,p'⟩
 ·have e:i=xs.length:=by omega
  subst e
  exact .inl ⟨⟨xs,q,Nat.le_refl _⟩,hd τ H2 p⟩
theorem xw (xs:List V) (hq:Sq K H a xs) (ix:St) (Pv:Addr→Nat→St→Hp→Prop) (h0:∀ D,H D=none→Pv D 0 ix (upd H D (.lst []))) (hl:∀ D i τ H',H D=none→Pv D i τ H'→Same H H')
  (hs:∀ D i x T τ H' (R:St→Hp→Prop),H D=none→xs[i]?=some x→Pv D i τ H'→H' T=none→(∀ τ' H',Pv D (i+1) τ' H'→R τ' H')→t9 D g tt te (.ref T) τ (upd H' T (.tup [.int i,x])) R) (hd:∀ D τ H',H D=none→Pv D xs.length τ H'→Q (.ref D) H') :
  ((∃ xs,SqL K H a xs)∧∀ D,H D=none→uL D (Ite fun H xs=>SqL K H a xs) g tt te Q ix (upd H D (.lst [])))∨((∃ xs,SqT K H a xs)∧∀ D,H D=none→uL D (Ite fun H xs=>SqT K H a xs) g tt te Q ix (upd H D (.lst []))):=by
 rcases hq with hq | hq
 ·exact .inl ⟨⟨_,hq⟩,fun D hD=>wG xs (Pv D) (h0 D hD) (fun i τ H' _ p=>(hl D i τ H' hD p).seq hq) (fun i x T τ H' R hx p hT nx=>hs D i x T τ H' R hD hx p hT nx) (fun τ H'=>hd D τ H' hD)⟩
 ·exact .inr ⟨⟨_,hq⟩,fun D hD=>wG xs (Pv D) (h0 D hD) (fun i τ H' _ p=>xM (hl D i τ H' hD p) hq) (fun i x T τ H' R hx p hT nx=>hs D i x T τ H' R hD hx p hT nx) (fun τ H'=>hd D τ H' hD)⟩
end
section
variable {prog:Program} {w:World} {A:Around} {E:Value→Shared→Prop} {s:Shared} {z TI TO i1 i2:Addr}
abbrev zmA (h:Heap) (l1:Addr):Heap:=h.push { cls:=.type "list_iterator",data:=.fields #[.ref l1,.int 0 0] }
abbrev zmB (h:Heap) (l1 l2:Addr):Heap:=(zmA h l1).push { cls:=.type "list_iterator",data:=.fields #[.ref l2,.int 0 0] }
abbrev zmC (h:Heap) (l1 l2:Addr):Heap:=(zmB h l1 l2).push { cls:=.type "tuple",data:=.seq #[.ref h.objs.size,.ref (zmA h l1).objs.size] }
abbrev zmD (h:Heap) (l1 l2:Addr):Heap:=(zmC h l1 l2).push { cls:=.type "tuple",data:=.seq #[.none,.none] }
abbrev zmE (h:Heap) (l1 l2:Addr):Heap:=(zmD h l1 l2).push { cls:=.type "zip",data:=.fields #[.none,.bool false,.bool false,.ref (zmB h l1 l2).objs.size,.ref (zmC h l1 l2).objs.size] }
def B6 (h:Heap) (l1 l2:Addr) (h':Heap):Prop:=IsZip h' (h.objs.size+4) (h.objs.size+2) (h.objs.size+3) .none∧IsPair h' (h.objs.size+2) (.ref h.objs.size) (.ref (h.objs.size+1))∧IsPair h' (h.objs.size+3) .none .none ∧
 h'.IsListIter h.objs.size l1 0∧h'.IsListIter (h.objs.size+1) l2 0∧∀ c o,h.get? c=some o→h'.get? c=some o
theorem Fc (h:Heap) (l1 l2:Addr):(zmD h l1 l2).objs.size=h.objs.size+4∧B6 h l1 l2 (zmE h l1 l2):=by
 have a:(zmA h l1).objs.size=h.objs.size+1:=Heap.size_push ..
 have b:(zmB h l1 l2).objs.size=h.objs.size+2:=by rw[Heap.size_push,a]
 have c:(zmC h l1 l2).objs.size=h.objs.size+3:=by rw[Heap.size_push,b]
 have d:(zmD h l1 l2).objs.size=h.objs.size+4:=by rw[Heap.size_push,c]
 have p5:(zmE h l1 l2).get? (zmD h l1 l2).objs.size=some _:=Heap.get?_push_size _ rfl
 have p4:(zmE h l1 l2).get? (zmC h l1 l2).objs.size=some _:=Heap.get?_push_of_some _ (Heap.get?_push_size _ rfl)
 have p3:(zmE h l1 l2).get? (zmB h l1 l2).objs.size=some _:=Heap.get?_push_of_some _ (Heap.get?_push_of_some _ (Heap.get?_push_size _ rfl))
 have p2:(zmE h l1 l2).get? (zmA h l1).objs.size=some _:=Heap.get?_push_of_some _ (Heap.get?_push_of_some _ (Heap.get?_push_of_some _ (Heap.get?_push_size _ rfl)))
 have p1:(zmE h l1 l2).get? h.objs.size=some _:=Heap.get?_push_of_some _ (Heap.get?_push_of_some _ (Heap.get?_push_of_some _ (Heap.get?_push_of_some _ (Heap.get?_push_size _ rfl))))
 rw[b,c,d] at p5
 rw[c] at p4
 rw[a,b] at p3
 rw[a] at p2
 exact⟨d,p5,p3,p4,⟨_,p1,rfl,rfl⟩,⟨_,p2,rfl,rfl⟩,fun c o x=>Heap.get?_push_of_some _ (Heap.get?_push_of_some _ (Heap.get?_push_of_some _ (Heap.get?_push_of_some _ (Heap.get?_push_of_some _ x))))⟩
theorem zX (l1 l2:Addr) (xs ys:Array Value) :
  Meets (Builtin.«zip.__new__» ⟨[.type "zip",.ref l1,.ref l2],[]⟩) (fun _ R s=>s.heap.IsList l1 xs∧s.heap.IsList l2 ys∧R (.ok (.ret (.ref (zmD s.heap l1 l2).objs.size))) { s with heap:=zmE s.heap l1 l2 }) :=
 .of_wp fun prog w A R s h=>by
  obtain⟨hp,g,d,tk,os⟩:=s
  obtain⟨hl1,hl2,h⟩:=h
  have hsub:=sub_zip
  have hL1:Heap.IsList (Shared.heap ⟨hp,g,d,tk,os⟩) l1 xs:=hl1
  have hL2:Heap.IsList (Shared.heap ⟨hp.push { cls:=.type "list_iterator",data:=.fields #[.ref l1,.int 0 0] },g,d,tk,os⟩) l2 ys:=by
   obtain⟨o,ho,q⟩:=hl2
   exact⟨o,Heap.get?_push_of_some _ ho,q⟩
  wp_walk using wpAny_pyIter_list hL1,wpAny_pyIter_list hL2
  exact⟨_,rfl,h⟩
theorem BF {l1 l2:Addr} {xs ys:Array Value} {Q:Value→Shared→Prop} (hl1:s.heap.IsList l1 xs) (hl2:s.heap.IsList l2 ys) (h:∀ h',B6 s.heap l1 l2 h'→Q (.ref (s.heap.objs.size+4)) { s with heap:=h' }) :
  wpAny (model prog w) A (call (.type "zip") [.ref l1,.ref l2]) Q E s:=by
 obtain⟨e,N⟩:=Fc s.heap l1 l2
 refine callType_new F.called_zip (by decide) (F.typeCall_zip_2 _ _) (F.newCall_zip_2 _ _) (fun obj=>F.args_object_init_3 obj _ _) F.entry_zip_new (zX l1 l2 xs ys) ⟨hl1,hl2,?_⟩
 show _∧_
 rw[e]
 exact⟨⟨_,N.1,rfl⟩,h _ N⟩
end
def Gh (K:PySem.W.Frag) (a b:Addr):It:=⟨fun i H=>∃ xs ys x y,SqL K H a xs∧SqL K H b ys∧xs[i]?=some x∧ys[i]?=some y,
 fun i H x H'=>∃ T u v,H T=none∧x=.ref T∧H'=upd H T (.tup [u,v])∧(∀ xs,SqL K H a xs→xs[i]?=some u)∧∀ ys,SqL K H b ys→ys[i]?=some v,
 fun i H=>∃ xs ys,SqL K H a xs∧SqL K H b ys∧xs.length=ys.length∧xs.length=i⟩
theorem Eg {P:Program} {w:World} {K:PySem.W.Frag} {elts:List Expr} {kk:Nat} {pos:Pos} (a b z TI TO i1 i2:Addr) (ap:Apart z TI TO i1 i2 [i1,a] [i2,b]) (ha:a≠i1) (hb:b≠i2) :
  Turn P w K (.Tuple elts kk pos) (Gh K a b) [z,TI,TO,i1,i2] z (fun i h=>IsZip h z TI TO .none∧IsPair h TI (.ref i1) (.ref i2)∧(∃ u v,IsPair h TO u v)∧h.IsListIter i1 a i∧h.IsListIter i2 b i) where
 mem:=by simp
 obj:=fun i h st c hc=>by
  obtain⟨hz,hTI,⟨u,v,hTO⟩,⟨o1,e1,_,d1⟩,⟨o2,e2,_,d2⟩⟩:=st
  simp only [List.mem_cons,List.not_mem_nil,or_false] at hc
  rcases hc with rfl | rfl | rfl | rfl | rfl
  ·exact⟨_,hz,fun v z=>by cases z⟩
  ·exact⟨_,hTI,fun v z=>by cases z⟩
  ·exact⟨_,hTO,fun v z=>by cases z⟩
  ·exact⟨_,e1,fun v z=>by rw[d1] at z; cases z⟩
  ·exact⟨_,e2,fun v z=>by rw[d2] at z; cases z⟩
 keep:=fun i h h' st k=>by
  obtain⟨hz,hTI,⟨u,v,hTO⟩,h1,h2⟩:=st
  exact⟨k _ (by simp) _ hz,k _ (by simp) _ hTI,⟨u,v,k _ (by simp) _ hTO⟩,h1.at fun o q=>k i1 (by simp) o q,h2.at fun o q=>k i2 (by simp) o q⟩
 item:=by
  intro X hP hw hK hc i pins s σ H E I hf st hg
  subst hP hw hK
  obtain⟨xs,ys,x,y,hq1,hq2,hx,hy⟩:=hg
  obtain⟨hz,hTI,⟨u,v,hTO⟩,h1,h2⟩:=st
  obtain⟨t1,r1,p1,z1⟩:=I.list hq1
  obtain⟨t2,r2,p2,z2⟩:=I.list hq2
  obtain⟨u1,hu1,ru1⟩:=r1.get hx
  obtain⟨u2,hu2,ru2⟩:=r2.get hy
  have e1:t1.toArray[i]?=some u1:=by simpa using hu1
  have e2:t2.toArray[i]?=some u2:=by simpa using hu2
  have D1:=Draws.list (prog:=X.prog) (w:=X.w) (A:=X.A.in1) (show X.A.in1.handled=none from I.ok.hd hc) i1 a ha t1.toArray
  have D2:=Draws.list (prog:=X.prog) (w:=X.w) (A:=X.A.in1) (show X.A.in1.handled=none from I.ok.hd hc) i2 b hb t2.toArray
  have hT:s.TypeIs (.ref z) "zip":=⟨_,hz,rfl⟩
  have zl:z<s.heap.objs.size:=Heap.lt_size hz
  have lt:∀ {c:Addr} {o:Obj},s.heap.get? c=some o→c≠s.heap.objs.size:=fun e=>Nat.ne_of_lt (Heap.lt_size e)
  unfold pyNext
  refine wpAny_bind (wpAny_attempt (wpAny_callSpecial?_slot (name:=Str.ofString "__next__") hT F.slot_zip_next
   (wpAny_call_entry F.slot_zip_next hT F.entry_zip_next (EY D1 D2 ap hz hTI hTO ⟨h1,p1.isList⟩ ⟨h2,p2.isList⟩ (Array.getElem?_eq_some_iff.mp e1).1 (Array.getElem?_eq_some_iff.mp e2).1
    fun h' tk x' y' px py a1 a2 s1 s2 a5 hk=>wpAny_pure ⟨_,rfl,?_⟩) (F.args_zip_next_1 _))))
  rw[e1] at px
  cases px
  rw[e2] at py
  cases py
  refine wpAny_letOwnedTupleGo_zip a1 fun g2 hz2 hs2=>?_
  have hT2:g2.get? s.heap.objs.size=some { cls:=.type "tuple",data:=.seq #[u1,u2] }:=(hs2.2 _ (lt hz).symm).trans a5
  have hf':H s.heap.objs.size=none:=I.hok.fresh (Nat.le_refl _)
  have nzTI:=ap.zTI
  have nzTO:=ap.zTO
  have nz1:z≠i1:=(kT ap.m1 ap.z1).symm
  have nz2:z≠i2:=(kT ap.m2 ap.z2).symm
  refine⟨.ref s.heap.objs.size,upd H s.heap.objs.size (.tup [x,y]),?_,rfl,⟨_,x,y,hf',rfl,rfl,fun ys hy=>by rw[I.list_inj hy hq1]; exact hx,fun ys hy'=>by rw[I.list_inj hy' hq2]; exact hy⟩,
   ⟨hz2,hs2.extBut _ _ nzTI.symm (hk _ _ nzTI.symm ap.TITO ap.TI1 ap.TI2 hTI),⟨_,_,hs2.extBut _ _ nzTO.symm a2⟩,s1.1.at fun o q=>hs2.extBut _ _ nz1.symm q,s2.1.at fun o q=>hs2.extBut _ _ nz2.symm q⟩,fun c hc=>?_⟩
  ·exact I.drew (ch:=[z,TI,TO,i1,i2]) (tk:=tk) hf (fun c o hc q=>hs2.extBut _ _ (fun e=>hc (by simp [e])) (hk c o (fun e=>hc (by simp [e])) (fun e=>hc (by simp [e])) (fun e=>hc (by simp [e])) (fun e=>hc (by simp [e])) q)) (Nat.le_refl _) (yI ru1 ru2 hT2)
  ·have hn:c≠s.heap.objs.size:=by
    obtain⟨o1,g1,_⟩:=h1
    obtain⟨o2,g2,_⟩:=h2
    simp only [List.mem_cons,List.not_mem_nil,or_false] at hc
    rcases hc with rfl | rfl | rfl | rfl | rfl
    ·exact lt hz
    ·exact lt hTI
    ·exact lt hTO
    ·exact lt g1
    ·exact lt g2
   rw[er hn]
   exact (hf c hc).1
 done:=by
  intro X hP hw hK hc i pins s σ H E I hf st hg
  subst hP hw hK
  obtain⟨xs,ys,hq1,hq2,hl,hi⟩:=hg
  obtain⟨hz,hTI,⟨u,v,hTO⟩,h1,h2⟩:=st
  obtain⟨t1,r1,p1,z1⟩:=I.list hq1
  obtain⟨t2,r2,p2,z2⟩:=I.list hq2
  have l1:=r1.length
  have D1:=Draws.list (prog:=X.prog) (w:=X.w) (A:=X.A.in1) (show X.A.in1.handled=none from I.ok.hd hc) i1 a ha t1.toArray
  have D2:=Draws.list (prog:=X.prog) (w:=X.w) (A:=X.A.in1) (show X.A.in1.handled=none from I.ok.hd hc) i2 b hb t2.toArray
  have hT:s.TypeIs (.ref z) "zip":=⟨_,hz,rfl⟩
  unfold pyNext
  refine wpAny_bind (wpAny_attempt (wpAny_callSpecial?_slot (name:=Str.ofString "__next__") hT F.slot_zip_next
   (wpAny_call_entry F.slot_zip_next hT F.entry_zip_next (E4 D1 D2 ap hz hTI hTO ⟨h1,p1.isList⟩ ⟨h2,p2.isList⟩ (.inl (by rw[List.size_toArray]; omega)) fun h' tk e hk he=>?_) (F.args_zip_next_1 _))))
  obtain⟨o,ho,hc'⟩:=he
  refine wpAny_bind (wpAny_isInstance (T:="StopIteration") (b:=true) ⟨o,ho,hc'⟩ isSubtype_stop ?_)
  exact wpAny_pure ⟨rfl,I.turns (ch:=[z,TI,TO,i1,i2]) (tk:=tk) hf fun c o hc q=>hk c o (fun e=>hc (by simp [e])) (fun e=>hc (by simp [e])) (fun e=>hc (by simp [e])) (fun e=>hc (by simp [e])) q⟩
 self:=fun A i s Q E st h=>wpAny_pyIter_zip st.1 h
def GS (K:PySem.W.Frag) (ta:TA):TI:=fun σ H R=>ta σ H fun vs H1=>∃ a b,vs=[.ref a,.ref b]∧(∃ xs,SqL K H1 a xs)∧(∃ ys,SqL K H1 b ys)∧R (Gh K a b) H1
theorem B5 {X:Cx} {elts:List Expr} {kk:Nat} {tpos:Pos} {a b:Expr} {ta:TA} {p pos:Pos} (hg:Gl X "zip") (hm:X.mg "zip"=none) (ha:PA X [a,b] ta) (hs:starEach [a,b] X.env=[(false,eval a X.env),(false,eval b X.env)]:=by rfl) (hs2:starEach [b] X.env=[(false,eval b X.env)]:=by rfl) :
  PI X (.Tuple elts kk tpos) (.Call (.Name "zip" p) [a,b] [] pos) (GS X.K ta):=by
 intro pins s σ H R I h
 refine Call_ (tX I hg hm GI (PyProof.Rows.callWith_type1 (thn (ha pos pins s σ H _ I h) fun us s1 ⟨vs,H1,I1,r1,q1⟩=>?_) (by rw[hs,hs2]) (by rw[hs2]; rfl)))
 obtain⟨l1,l2,e,⟨xs,hq1⟩,⟨ys,hq2⟩,q⟩:=q1
 subst e
 cases r1 with
 | cons r rr =>
  cases rr with
  | cons r' rr =>
   cases rr
   cases r
   cases r'
   obtain⟨t1,v1,p1,z1⟩:=I1.list hq1
   obtain⟨t2,v2,p2,z2⟩:=I1.list hq2
   have lt1:l1<s1.heap.objs.size:=by obtain⟨o,ho,_⟩:=p1.isList; exact Heap.lt_size ho
   have lt2:l2<s1.heap.objs.size:=by obtain⟨o,ho,_⟩:=p2.isList; exact Heap.lt_size ho
   refine BF p1.isList p2.isList fun h' N=>?_
   obtain⟨hz,hTI,hTO,h1,h2,hk⟩:=N
   refine wpAny_pyIter_zip hz ?_
   refine⟨_,[s1.heap.objs.size+4,s1.heap.objs.size+2,s1.heap.objs.size+3,s1.heap.objs.size,s1.heap.objs.size+1],_,_,H1,rfl,I1.kept (t':=s1.toks) hk,
    Eg l1 l2 _ _ _ _ _ (Ei _ _ _ lt1 lt2) (Nat.ne_of_lt lt1) (Nat.ne_of_lt (Nat.lt_succ_of_lt lt2)),⟨hz,hTI,⟨_,_,hTO⟩,h1,h2⟩,fun c hc=>?_,q⟩
   have le:s1.heap.objs.size≤c:=by
    simp only [List.mem_cons,List.not_mem_nil,or_false] at hc
    rcases hc with rfl | rfl | rfl | rfl | rfl
    ·exact Nat.le_add_right _ _
    ·exact Nat.le_add_right _ _
    ·exact Nat.le_add_right _ _
    ·exact Nat.le_refl _
    ·exact Nat.le_add_right _ _
   exact I1.fpOk le (I1.hok.fresh le)
theorem yf {K:PySem.W.Frag} {D a b:Addr} {g:TG} {tt:TT} {te:TE} {Q:VK} {τ:St} {H:Hp} (xs ys:List V) (len:xs.length=ys.length) (Pv:Nat→St→Hp→Prop) (h0:Pv 0 τ H)
  (hl:∀ i τ H,i≤xs.length→Pv i τ H→SqL K H a xs∧SqL K H b ys)
  (hs:∀ i x y T τ H (R:St→Hp→Prop),xs[i]?=some x→ys[i]?=some y→Pv i τ H→H T=none→(∀ τ' H',Pv (i+1) τ' H'→R τ' H')→t9 D g tt te (.ref T) τ (upd H T (.tup [x,y])) R) (hd:∀ τ H,Pv xs.length τ H→Q (.ref D) H):uL D (Gh K a b) g tt te Q τ H:=by
 refine⟨fun i m τ H=>m=xs.length-i∧i≤xs.length∧Pv i τ H,⟨xs.length,by simp,Nat.zero_le _,h0⟩,?_⟩
 rintro i m τ H2 ⟨rfl,hi,p⟩
 obtain⟨q1,q2⟩:=hl i τ H2 hi p
 by_cases hlt:i<xs.length
 ·have hx:xs[i]?=some xs[i]:=by simp [hlt]
  have hlt2:i<ys.length:=by omega
  have hy:ys[i]?=some ys[i]:=by simp [hlt2]
  refine .inr ⟨⟨xs,ys,_,_,q1,q2,hx,hy⟩,fun x H' y=>?_⟩
  obtain⟨T,u,v,hT,e1,e2,y1,y2⟩:=y
  subst e1 e2
  exact hs i _ _ T τ _ (fun τ' H'=>∃ m',m'<xs.length-i∧m'=xs.length-(i+1)∧i+1≤xs.length∧Pv (i+1) τ' H') (y1 xs q1) (y2 ys q2) p hT fun τ' H' p'=>⟨_,by omega,rfl,hlt,p'⟩
 ·have e:i=xs.length:=by omega
  subst e
  exact .inl ⟨⟨xs,ys,q1,q2,len,rfl⟩,hd τ H2 p⟩
section
variable {X:Cx}
def ID (cs:List Nat) (lo hi:Option Int):List Nat:=(cs.drop (HT.sIx cs.length 0 lo)).take (HT.sIx cs.length cs.length hi-HT.sIx cs.length 0 lo)
end
structure Mk0 (K:PySem.W.Frag) (C:Addr):Prop where
 makes:PySem.W.makesIn K C=true
 init:PySem.W.findIn K (.ref C) "__init__"=some (some (.builtin "object.__init__"))
 kp:PySem.W.keepIn K (.ref C)=true
structure MkC (P:Program) (w:World) (K:PySem.W.Frag) (mg:Str→Option Value) (base:Heap) (x:Str) (C:Addr) (k:Nat) (ps:List Str) (sp:Sp):Prop where
 ex:∃ f fd,Mk K C f∧FnOk P w K mg base CX0 k f fd ps sp∧Binds K fd ps []
 at_:mg x=some (.ref C)
section
variable {X:Cx} {C:Addr} {x:Str} {j k:Nat} {ps:List Str} {sp:Sp} {p pos apos:Pos} {e o:Expr} {es:List Expr} {t:TA} {ta:TE} {m:Str}
structure Disp (P:Program) (w:World) (K:PySem.W.Frag) (mg:Str→Option Value) (base:Heap) (m:Str) (k:Nat) (ps:List Str) (C:Addr) (sp:Sp):Prop where
 cls:Cls K C
 ex:∃ f fd,Meth K C m f∧FnOk P w K mg base CX0 k f fd ps sp∧Binds K fd ps []
end
structure ICls (K:PySem.W.Frag) (C:Addr):Prop where
 cl:Cls K C
 ha:PySem.W.findIn K (.ref C) "__class__"=some (some (.builtin "object.__class__"))
 hn:PySem.W.specialIn K (.builtin "object.__class__") "__get__"=some (some (.builtin "getset_descriptor.__get__"))
 htk:PySem.W.takesIn K (.builtin "object.__class__")=some true
 hm:PySem.W.mroIn K C (.type "object")=some true
end L2
namespace HT
open PySem PySem.Spec PyProof.Rows
section
variable {prog:Program} {w:World} {A:Around} {E:Value→Shared→Prop} {s:Shared}
theorem xq (xs:List Value):∀ k,k≤xs.length→(List.range k).filterMap (fun (m:Nat)=>xs.toArray[(((xs.length:Nat):Int)-1+(m:Int) * -1).toNat]?)=xs.reverse.take k
 | 0,_=>rfl
 | k+1,h=>by
  rw[List.range_succ,List.filterMap_append,xq xs k (by omega),List.take_add_one]
  congr 1
  have e:(((xs.length:Nat):Int)-1+(k:Int) * -1).toNat=xs.length-1-k:=by omega
  rw[List.getElem?_reverse (by omega)]
  simp only [List.filterMap_cons,List.filterMap_nil,e,List.getElem?_toArray]
  rw[List.getElem?_eq_getElem (show xs.length-1-k<xs.length by omega)]
  rfl
theorem pick_turn (xs:List Value):((List.range xs.length).filterMap fun (m:Nat)=>xs.toArray[(((xs.length:Nat):Int)-1+(m:Int) * -1).toNat]?).toArray=xs.reverse.toArray:=by
 rw[xq xs xs.length (Nat.le_refl _),List.take_of_length_le (by rw[List.length_reverse]; exact Nat.le_refl _)]
end
end HT
namespace L2
open PySem PySem.Spec PyProof.Rows
theorem AW {X:Cx} {K:PySem.W.Frag} (h:X.K=K):SlR X (E5 K):=by subst h; exact Hf
structure CompOkC (X:Cx) (scope:Scope) (y:Str) (cl:List (Str×Addr)) (N':List Str) (ix:List Nat) (nl:Nat):Prop where
 clos:closureFor scope X.env=pure cl
 sub:∀ z c,cl.lookup z=some c→X.env.cells.lookup z=some c
 has:∀ p∈(relabel scope X.env).names,(p.2=.cell∨p.2=.free)→(((y,0)::cl).lookup p.1).isSome=true
 lay:∀ n,cellsFrom n scope.names cl=(y,n)::cl
 push:∀ h:Heap,pushCells h scope.names=h.push { cls:=.type "cell",data:=.cell none }
 kind:scope.kind=.function
 names:∀ z∈scope.names,z.2=.local→scope.names.lookup z.1=some .local
 len:N'.length=ix.length+nl
 out:∀ (i j:Nat) (x:Str),ix[i]?=some j→N'[i]?=some x→(x == y)=false∧X.N[j]?=some x∧(X.env.kindOf x=some .cell∨X.env.kindOf x=some .free)∧((relabel scope X.env).names.lookup x=some .cell∨(relabel scope X.env).names.lookup x=some .free)
def OutsOkC (X:Cx) (scope:Scope) (y:Str):List Nat→List Str→Prop
 | [],_=>True
 | j::r,x::t=>((x == y)=false∧X.N[j]?=some x∧(X.env.kindOf x=some .cell∨X.env.kindOf x=some .free)∧((relabel scope X.env).names.lookup x=some .cell∨(relabel scope X.env).names.lookup x=some .free))∧OutsOkC X scope y r t
 | _::_,[]=>False
theorem OutsOkC.at {X:Cx} {scope:Scope} {y:Str}:∀ {ix:List Nat} {N:List Str},OutsOkC X scope y ix N→∀ (i j:Nat) (x:Str),ix[i]?=some j→N[i]?=some x→(x == y)=false∧X.N[j]?=some x∧(X.env.kindOf x=some .cell∨X.env.kindOf x=some .free)∧((relabel scope X.env).names.lookup x=some .cell∨(relabel scope X.env).names.lookup x=some .free)
 | [],_,_,i,j,y,h1,_=>by simp at h1
 | _::_,[],h,_,_,_,_,_=>h.elim
 | _::_,_::_,h,0,j,y,h1,h2=>by
  simp at h1 h2
  subst h1 h2
  exact h.1
 | _::_,_::_,h,i+1,j,y,h1,h2=>OutsOkC.at h.2 i j y (by simpa using h1) (by simpa using h2)
def IsRvd (h:Heap) (a l:Addr) (i:Int):Prop:=∃ o,h.get? a=some o∧o.cls=.type "reversed"∧o.data=.fields #[.ref l,rawInt i]
section
variable {prog:Program} {w:World} {A:Around} {E:Value→Shared→Prop} {s:Shared}
theorem IsRvd.at {h h':Heap} {a l:Addr} {i:Int} (x:IsRvd h a l i) (e:∀ o,h.get? a=some o→h'.get? a=some o):IsRvd h' a l i:=let ⟨o,ho,r⟩:=x; ⟨o,e _ ho,r⟩
end
section
variable {κ:Type} [DecidableEq κ]
def valV (kvs:List (κ×V)) (k:κ):Option V:=(kvs.find? fun kv=>decide (kv.1=k)).map (·.2)
def putK (kvs:List (κ×V)) (k:κ) (v:V):List (κ×V) :=
 if (kvs.any fun kv=>decide (kv.1=k))=true then kvs.map (fun kv=>if kv.1=k then (kv.1,v) else kv) else kvs++[(k,v)]
def GK (kvs:List (κ×V)) (k:κ):List (κ×V):=kvs.filter fun kv=>decide (kv.1≠k)
theorem oX {p:κ×V} {r:List (κ×V)} {k:κ} (e:p.1=k):valV (p::r) k=some p.2:=by simp [valV,List.find?_cons,e]
theorem qP {p:κ×V} {r:List (κ×V)} {k:κ} (e:¬ p.1=k):valV (p::r) k=valV r k:=by simp [valV,List.find?_cons,e]
theorem ur (k:κ):∀ kvs:List (κ×V),(kvs.any fun kv=>decide (kv.1=k))=(valV kvs k).isSome
 | []=>rfl
 | p::r=>by
  rw[List.any_cons]
  by_cases e:p.1=k
  ·simp only [oX e,decide_eq_true e,Bool.true_or,Option.isSome_some]
  ·rw[qP e,decide_eq_false e,Bool.false_or]; exact ur k r
theorem Aj (k j:κ) (y:V):∀ kvs:List (κ×V),valV (kvs.map fun kv=>if kv.1=k then (kv.1,y) else kv) j=(valV kvs j).map fun x=>if j=k then y else x
 | []=>rfl
 | p::r=>by
  have ih:=Aj k j y r
  rw[List.map_cons]
  by_cases h:p.1=k
  ·rw[if_pos h]
   by_cases e:p.1=j
   ·rw[oX (p:=(p.1,y)) e,oX e,Option.map_some,if_pos (e.symm.trans h)]
   ·rw[qP (p:=(p.1,y)) e,qP e,ih]
  ·rw[if_neg h]
   by_cases e:p.1=j
   ·rw[oX (p:=p) e,oX e,Option.map_some,if_neg (fun z=>h (e.trans z))]
   ·rw[qP (p:=p) e,qP e,ih]
theorem zk (k j:κ) (y:V):∀ kvs:List (κ×V),valV kvs k=none→valV (kvs++[(k,y)]) j=if j=k then some y else valV kvs j
 | [],_=>by
  by_cases e:k=j
  ·rw[if_pos e.symm]; exact oX (p:=(k,y)) e
  ·rw[if_neg (fun z=>e z.symm)]; exact qP (p:=(k,y)) e
 | p::r,hn=>by
  rw[List.cons_append]
  have hk:¬ p.1=k:=fun z=>by rw[oX z] at hn; cases hn
  rw[qP hk] at hn
  have ih:=zk k j y r hn
  by_cases e:p.1=j
  ·rw[oX e,oX e,if_neg (fun z=>hk (e.trans z))]
  ·rw[qP e,qP e,ih]
theorem A3 (kvs:List (κ×V)) (k j:κ) (y:V):valV (putK kvs k y) j=if j=k then some y else valV kvs j:=by
 unfold putK
 by_cases a:(kvs.any fun kv=>decide (kv.1=k))=true
 ·rw[if_pos a,Aj]
  rw[ur] at a
  by_cases e:j=k
  ·obtain⟨x,hx⟩:=Option.isSome_iff_exists.mp a
   rw[if_pos e,e,hx,Option.map_some,if_pos rfl]
  ·rw[if_neg e]
   cases valV kvs j with
   | none=>rfl
   | some x=>rw[Option.map_some,if_neg e]
 ·rw[if_neg a]
  refine zk k j y kvs ?_
  rw[ur] at a
  cases q:valV kvs k with
  | none=>rfl
  | some x=>rw[q] at a; exact (a rfl).elim
theorem ug (kvs:List (κ×V)) (k:κ) (v:V):(putK kvs k v).length≤kvs.length+1:=by
 unfold putK
 split
 ·rw[List.length_map]; omega
 ·rw[List.length_append,List.length_cons,List.length_nil]; omega
theorem v7 {kvs:List (κ×V)} {k:κ} (v:V) (h:valV kvs k=none):putK kvs k v=kvs++[(k,v)]:=by
 unfold putK
 rw[ur,h]
 exact if_neg (by decide)
theorem RelO.isSome_eq {o:Option V} {u:Option Value} (r:RelO o u):o.isSome=u.isSome:=by
 cases o with
 | none=>cases u with
  | none=>rfl
  | some _=>exact (show False from r).elim
 | some _=>cases u with
  | none=>exact (show False from r).elim
  | some _=>rfl
theorem RelO.getD {o:Option V} {u:Option Value} {d:V} {d':Value} (r:RelO o u) (rd:RelV d d'):RelV (o.getD d) (u.getD d'):=by
 cases o with
 | none=>cases u with
  | none=>exact rd
  | some _=>exact (show False from r).elim
 | some _=>cases u with
  | none=>exact (show False from r).elim
  | some _=>exact r
theorem KV.val {kvs:List (κ×V)} {vs:List (κ×Value)} (r:KV kvs vs) (k:κ):RelO (valV kvs k) (valueAt vs k):=by
 unfold KV at r
 induction r with
 | nil=>exact True.intro
 | @cons p q ps qs h t ih =>
  obtain⟨h1,h2⟩:=h
  by_cases e:p.1=k
  ·have e':q.1=k:=h1.symm.trans e
   have b:valueAt (q::qs) k=some q.2:=by simp [valueAt,List.find?_cons,e']
   rw[oX e,b]; exact h2
  ·have e':¬ q.1=k:=fun z=>e (h1.trans z)
   have b:valueAt (q::qs) k=valueAt qs k:=by simp [valueAt,List.find?_cons,e']
   rw[qP e,b]; exact ih
theorem KV.any {kvs:List (κ×V)} {vs:List (κ×Value)} (r:KV kvs vs) (k:κ):(kvs.any fun kv=>decide (kv.1=k))=vs.any fun kv=>decide (kv.1=k):=by
 unfold KV at r
 induction r with
 | nil=>rfl
 | cons h t ih=>rw[List.any_cons,List.any_cons,ih,h.1]
theorem KV.repl {kvs:List (κ×V)} {vs:List (κ×Value)} (r:KV kvs vs) (k:κ) {y:V} {u:Value} (ry:RelV y u) :
  KV (kvs.map fun kv=>if kv.1=k then (kv.1,y) else kv) (vs.map fun kv=>if kv.1=k then (kv.1,u) else kv):=by
 unfold KV at r ⊢
 induction r with
 | nil=>exact .nil
 | @cons p q ps qs h t ih =>
  rw[List.map_cons,List.map_cons]
  refine .cons ?_ ih
  obtain⟨h1,h2⟩:=h
  by_cases e:p.1=k
  ·rw[if_pos e,if_pos (h1.symm.trans e)]; exact⟨h1,ry⟩
  ·rw[if_neg e,if_neg (fun z=>e (h1.trans z))]; exact⟨h1,h2⟩
theorem KV.put {kvs:List (κ×V)} {vs:List (κ×Value)} (r:KV kvs vs) (k:κ) {y:V} {u:Value} (ry:RelV y u):KV (putK kvs k y) (stored vs k u):=by
 unfold putK stored
 rw[r.any k]
 by_cases e:(vs.any fun kv=>decide (kv.1=k))=true
 ·rw[if_pos e,if_pos e]; exact r.repl k ry
 ·rw[if_neg e,if_neg e]; exact Paired.snoc r ⟨rfl,ry⟩
theorem KV.drop {kvs:List (κ×V)} {vs:List (κ×Value)} (r:KV kvs vs) (k:κ):KV (GK kvs k) (without vs k):=by
 unfold KV at r ⊢
 unfold GK without
 induction r with
 | nil=>exact .nil
 | @cons p q ps qs h t ih =>
  obtain⟨h1,h2⟩:=h
  rw[List.filter_cons,List.filter_cons]
  by_cases e:p.1=k
  ·have a:¬ decide (p.1≠k)=true:=by simp [e]
   have b:¬ decide (q.1≠k)=true:=by simp [h1.symm.trans e]
   rw[if_neg a,if_neg b]; exact ih
  ·have e':¬ q.1=k:=fun z=>e (h1.trans z)
   have a:decide (p.1≠k)=true:=by simp [e]
   have b:decide (q.1≠k)=true:=by simp [e']
   rw[if_pos a,if_pos b]; exact .cons ⟨h1,h2⟩ ih
theorem KV.keys {kvs:List (κ×V)} {vs:List (κ×Value)} (r:KV kvs vs):kvs.map (·.1)=vs.map (·.1):=by
 unfold KV at r
 induction r with
 | nil=>rfl
 | cons h t ih=>rw[List.map_cons,List.map_cons,ih,h.1]
theorem KV.length {kvs:List (κ×V)} {vs:List (κ×Value)} (r:KV kvs vs):kvs.length=vs.length:=Paired.length r
end
theorem vY {P:Program} {w:World} {k:Key} {u:Value} (r:RelV (kV k) u):(nj P w).is k u=true:=by
 cases k with
 | inl i=>obtain⟨t,e⟩:=(show ∃ t,u=Value.int i t from r); subst e; exact BQ P w i t
 | inr x=>obtain⟨t,e⟩:=(show ∃ t,u=Value.str x t from r); subst e; exact A8 P w x t
theorem zj {P:Program} {w:World}:∀ {ks:List Key} {us:List Value},Vals (ks.map kV) us→ItemsAre (nj P w) ks us
 | [],_,r=>by rw[List.map_nil] at r; cases r; exact .nil
 | k::ks,_,r=>by
  rw[List.map_cons] at r
  cases r with
  | cons h t=>exact .cons (vY h) (zj t)
abbrev KT (H:Hp):List (List Key×V)→List (List Key×Addr×Value)→Prop:=Paired fun p q=>p.1=q.1∧H q.2.1=some (.tup (p.1.map kV))∧RelV p.2 q.2.2
theorem KT.val {H:Hp} {kvs:List (List Key×V)} {xs:List (List Key×Addr×Value)} (r:KT H kvs xs) (k:List Key):RelO (valV kvs k) ((atKey xs k).map (·.2)):=by
 induction r with
 | nil=>exact True.intro
 | @cons p q ps qs h t ih =>
  obtain⟨h1,_,h2⟩:=h
  by_cases e:p.1=k
  ·have e':q.1=k:=h1.symm.trans e
   have b:atKey (q::qs) k=some q.2:=by simp [atKey,List.find?_cons,e']
   rw[oX e,b]; exact h2
  ·have e':¬ q.1=k:=fun z=>e (h1.trans z)
   have b:atKey (q::qs) k=atKey qs k:=by simp [atKey,List.find?_cons,e']
   rw[qP e,b]; exact ih
theorem KT.repl {H:Hp} {kvs:List (List Key×V)} {xs:List (List Key×Addr×Value)} (r:KT H kvs xs) (k:List Key) {y:V} {u:Value} (ry:RelV y u) :
  KT H (kvs.map fun kv=>if kv.1=k then (kv.1,y) else kv) (xs.map (putAt k u)):=by
 induction r with
 | nil=>exact .nil
 | @cons p q ps qs h t ih =>
  rw[List.map_cons,List.map_cons]
  refine .cons ?_ ih
  obtain⟨h1,h2,h3⟩:=h
  unfold putAt
  by_cases e:p.1=k
  ·rw[if_pos e,if_pos (h1.symm.trans e)]; exact⟨h1,h2,ry⟩
  ·rw[if_neg e,if_neg (fun z=>e (h1.trans z))]; exact⟨h1,h2,h3⟩
theorem KT.put {H:Hp} {kvs:List (List Key×V)} {xs:List (List Key×Addr×Value)} (r:KT H kvs xs) (k:List Key) {b:Addr} {y:V} {u:Value} (hb:H b=some (.tup (k.map kV))) (ry:RelV y u) :
  KT H (putK kvs k y) (storedH xs k b u):=by
 have e:(kvs.any fun kv=>decide (kv.1=k))=(atKey xs k).isSome:=by
  rw[ur,(r.val k).isSome_eq,Option.isSome_map]
 unfold putK storedH
 rw[e]
 by_cases q:(atKey xs k).isSome=true
 ·rw[if_pos q,if_pos q]; exact r.repl k ry
 ·rw[if_neg q,if_neg q]; exact Paired.snoc r ⟨rfl,hb,ry⟩
theorem KT.keeps {H H':Hp} {kvs:List (List Key×V)} {xs:List (List Key×Addr×Value)} (r:KT H kvs xs) (ht:∀ b ys,H b=some (.tup ys)→H' b=some (.tup ys)):KT H' kvs xs :=
 Paired.mapP r fun _ _ z=>⟨z.1,ht _ _ z.2.1,z.2.2⟩
section
variable {P:Program} {w:World} {H:Hp} {h:Heap} {a:Addr}
theorem GO {u:HO} (ok:HOk P w H h) (e:Rd H a u):ObjOk P w H h a u:=e.ok ok
theorem vp {kvs:List (Key×V)} (ok:HOk P w H h) (e:Rd H a (.dK kvs)):kvs.length≤sizeLine∧(a == sysModules)=false∧∃ vs,KV kvs vs∧h.DictOf (nj P w) a vs :=
 show ObjOk P w H h a (.dK kvs) from GO ok e
theorem Gw {kvs:List (Key×V)} (ok:HOk P w H h) (e:H a=some (.dK kvs)):kvs.length≤sizeLine∧(a == sysModules)=false∧∃ vs,KV kvs vs∧h.DictOf (nj P w) a vs:=vp ok (.inl e)
theorem wm {ks:List Key} (ok:HOk P w H h) (e:H a=some (.tup (ks.map kV))):(tupleKind (nj P w)).is h ks a:=by
 obtain⟨_,its,r,⟨o,h1,h2,n,h3⟩,_⟩:=(show ObjOk P w H h a (.tup (ks.map kV)) from ok a _ e)
 exact⟨o,its.toArray,n,h1,h2,h3,by simpa using zj r⟩
theorem wX {kvs:List (List Key×V)} (ok:HOk P w H h) (e:Rd H a (.dT kvs)):kvs.length≤sizeLine∧(a == sysModules)=false ∧
  ∃ xs,KT H kvs xs∧h.DictOfH (tupleKind (nj P w)) a xs:=by
 obtain⟨z,y,xs,r,o,es,ep,h1,h2,h3,h4,h5⟩:=(show ObjOk P w H h a (.dT kvs) from GO ok e)
 refine⟨z,y,xs,r,o,es,ep,h1,h2,h3,h4,fun x hx=>?_,h5⟩
 have all:∀ {l:List (List Key×V)} {m:List (List Key×Addr×Value)},KT H l m→∀ x∈m,(tupleKind (nj P w)).is h x.1 x.2.1:=by
  intro l m q
  induction q with
  | nil=>intro x hx; exact nomatch hx
  | @cons p q ps qs hq t ih =>
   intro x hx
   rcases List.mem_cons.mp hx with e | hx
   ·subst e
    exact wm ok (by rw[← hq.1]; exact hq.2.1)
   ·exact ih x hx
 exact all r x hx
theorem JO {kvs:List (List Key×V)} (ok:HOk P w H h) (e:H a=some (.dT kvs)):kvs.length≤sizeLine∧(a == sysModules)=false ∧
  ∃ xs,KT H kvs xs∧h.DictOfH (tupleKind (nj P w)) a xs:=wX ok (.inl e)
end
def DGet (H:Hp) (a:Addr) (y:V) (r:Option V):Prop :=
 (∃ kvs k,Rd H a (.dK kvs)∧y=kV k∧r=valV kvs k)∨∃ kvs k b,Rd H a (.dT kvs)∧y=.ref b∧H b=some (.tup (k.map kV))∧r=valV kvs k
def DPut (H:Hp) (a:Addr) (y v:V) (H':Hp):Prop :=
 (∃ kvs k,H a=some (.dK kvs)∧y=kV k∧kvs.length<sizeLine∧H'=upd H a (.dK (putK kvs k v))) ∨
 ∃ kvs k b,H a=some (.dT kvs)∧y=.ref b∧H b=some (.tup (k.map kV))∧kvs.length<sizeLine∧H'=upd H a (.dT (putK kvs k v))
theorem DGet.k {H:Hp} {a:Addr} {kvs:List (Key×V)} {k:Key} (e:H a=some (.dK kvs)):DGet H a (kV k) (valV kvs k):=.inl ⟨kvs,k,.inl e,rfl,rfl⟩
theorem DGet.t {H:Hp} {a b:Addr} {kvs:List (List Key×V)} {k:List Key} (e:H a=some (.dT kvs)) (eb:H b=some (.tup (k.map kV))):DGet H a (.ref b) (valV kvs k):=.inr ⟨kvs,k,b,.inl e,rfl,eb,rfl⟩
theorem DPut.k {H:Hp} {a:Addr} {kvs:List (Key×V)} {k:Key} {v:V} (e:H a=some (.dK kvs)) (hl:kvs.length<sizeLine):DPut H a (kV k) v (upd H a (.dK (putK kvs k v))):=.inl ⟨kvs,k,e,rfl,hl,rfl⟩
theorem DPut.t {H:Hp} {a b:Addr} {kvs:List (List Key×V)} {k:List Key} {v:V} (e:H a=some (.dT kvs)) (eb:H b=some (.tup (k.map kV))) (hl:kvs.length<sizeLine) :
  DPut H a (.ref b) v (upd H a (.dT (putK kvs k v))):=.inr ⟨kvs,k,b,e,rfl,eb,hl,rfl⟩
section
variable {X:Cx} {pins:List (Addr×Obj)} {σ:St} {H:Hp} {s:Shared} {a:Addr} {y v:V} {u r:Value} {o:Option V} {A:Around} {E:Value→Shared→Prop}
theorem Inv.big (I:Inv X pins σ H s):sysModules<s.heap.objs.size:=by
 have h:mainGlobals<s.heap.objs.size:=(I.mod.glob.keeps I.bk).lt
 exact Nat.lt_trans (by decide) h
theorem Ea {Q:Value→Shared→Prop} (hu:A.units+1<cLine) (I:Inv X pins σ H s) (g:DGet H a y (some v)) (ry:RelV y u) (h:∀ w' s',Inv X pins σ H s'→RelV v w'→Q w' s') :
  wpAny (model X.prog X.w) A (getItem (.ref a) u) Q E s:=by
 rcases g with ⟨kvs,k,e,ey,l⟩ | ⟨kvs,k,b,e,ey,eb,l⟩
 ·subst ey
  obtain⟨z,hd,vs,rel,dd⟩:=vp I.hok e
  obtain⟨w',hw,rw'⟩:=RelO.some_of (v:=v) (o:=valueAt vs k) (by rw[l]; exact rel.val k)
  exact wpAny_getItem_of (vY ry) dd.mapOf hw (h w' _ (I.tok _) rw')
 ·subst ey
  cases (show u=Value.ref b from ry)
  obtain⟨z,hd,xs,rel,dd⟩:=wX I.hok e
  obtain⟨w',hw,rw'⟩:=RelO.some_of (v:=v) (o:=(atKey xs k).map (·.2)) (by rw[l]; exact rel.val k)
  obtain⟨p,hp,hp2⟩:=Option.map_eq_some_iff.mp hw
  refine wpAny_getItem_heap (tupleKind_room_in1 hu) (wm I.hok eb) dd hp ?_
  rw[hp2]
  exact h w' _ (I.tok _) rw'
theorem HG {Q:Value→Shared→Prop} (hu:A.units+1<cLine) (I:Inv X pins σ H s) (g:DGet H a y o) (ry:RelV y u) (h:∀ s',Inv X pins σ H s'→Q (.bool (!o.isSome)) s') :
  wpAny (model X.prog X.w) A (compareOp .NotIn u (.ref a)) Q E s:=by
 rcases g with ⟨kvs,k,e,ey,l⟩ | ⟨kvs,k,b,e,ey,eb,l⟩
 ·subst ey
  obtain⟨z,hd,vs,rel,dd⟩:=vp I.hok e
  refine wpAny_notIn_of (vY ry) hd dd.mapOf ?_
  rw[← (rel.val k).isSome_eq,← l]
  exact h _ (I.tok _)
 ·subst ey
  cases (show u=Value.ref b from ry)
  obtain⟨z,hd,xs,rel,dd⟩:=wX I.hok e
  refine wpAny_notIn_heap (tupleKind_room_in1 hu) (wm I.hok eb) hd dd ?_
  have q:=(rel.val k).isSome_eq
  rw[Option.isSome_map] at q
  rw[← q,← l]
  exact h _ (I.tok _)
theorem yt {h':Heap} {t':Nat} {ob:HO} (I:Inv X pins σ H s) (mu:Mut (H a)) (hs:Heap.SameBut a s.heap h') (he:∃ q,h'.get? a=some q) (new:ObjOk X.prog X.w (upd H a ob) h' a ob) :
  Inv X pins σ (upd H a ob) { s with heap:=h',toks:=t' } :=
 I.write (x:=a) (e:=a) mu (.inl rfl) (fun b q hb z=>(hs.2 b hb).trans z) he new
theorem Ag {P:Program} {w:World} {H':Hp} {h':Heap} {kvs:List (Key×V)} {vs:List (Key×Value)} (z:kvs.length≤sizeLine) (hd:(a == sysModules)=false) (rel:KV kvs vs) (dd:h'.DictOf (nj P w) a vs) :
  ObjOk P w H' h' a (.dK kvs):=⟨z,hd,vs,rel,dd⟩
theorem EW {H':Hp} {Q:Unit→Shared→Prop} (hu:A.units+1<cLine) (I:Inv X pins σ H s) (g:DPut H a y v H') (ry:RelV y u) (rv:RelV v r) (h:∀ s',Inv X pins σ H' s'→Q () s') :
  wpAny (model X.prog X.w) A (setItem (.ref a) u r) Q E s:=by
 rcases g with ⟨kvs,k,e,ey,l,eH⟩ | ⟨kvs,k,b,e,ey,eb,l,eH⟩
 ·subst ey eH
  obtain⟨z,hd,vs,rel,dd⟩:=Gw I.hok e
  have hz:vs.length≤sizeLine:=by rw[← rel.length]; exact z
  have hl:(putK kvs k v).length≤sizeLine:=by have:=ug kvs k v; omega
  refine wpAny_setItem_pairs (hsz:=hz) (vY ry) dd fun h' dd' hs=>h _ ?_
  have he:∃ q,h'.get? a=some q:=let ⟨q,_,_,hq,_⟩:=dd'; ⟨q,hq⟩
  exact yt I (by rw[e]; exact True.intro) hs he (Ag hl hd (rel.put k rv) dd')
 ·subst ey eH
  cases (show u=Value.ref b from ry)
  obtain⟨z,hd,xs,rel,dd⟩:=JO I.hok e
  have hz:xs.length≤sizeLine:=by rw[← Paired.length rel]; exact z
  have hl:(putK kvs k v).length≤sizeLine:=by have:=ug kvs k v; omega
  refine wpAny_setItem_heap (hsz:=hz) (tupleKind_room_in1 hu) (wm I.hok eb) dd fun h' dd' hs=>h _ ?_
  obtain⟨q,es,ep,hq,h2,h3,h4,_,h5⟩:=dd'
  refine yt I (by rw[e]; exact True.intro) hs ⟨q,hq⟩ ⟨hl,hd,_,(rel.put k eb rv).keeps fun c ys ec=>?_,q,es,ep,hq,h2,h3,h4,h5⟩
  rw[er (C4 ec e (fun z=>nomatch z))]
  exact ec
end
def Jo (i:Expr):Prop:=∀ ov iv,subscripted i false ov iv=operate [ov,iv] (getItem ov iv)
theorem G5 {prog:Program} {w:World} {A:Around} {E:Value→Shared→Prop} {s:Shared} {env:Env} {value slice:Expr} {pos:Pos} {T id:String} {Q:Value→Shared→Prop}
  (hl:typeLookup (.type T) "__getitem__"=pure (some (.builtin id))) (hs:Jo slice)
  (h:wpAny (model prog w) A (eval value env) (fun o s₁=>wpAny (model prog w) A (eval slice env) (fun i s₂=>s₂.TypeIs o T∧wpAny (model prog w) A (getItem o i) Q E s₂) E s₁) E s) :
  wpAny (model prog w) A (eval (.Subscript value slice pos) env) Q E s:=by
 refine Subscript_ (wpAny_mono h (fun o s₁ h₁=>wpAny_mono h₁ (fun i s₂ h₂=>?_) fun _ _ x=>x) fun _ _ x=>x)
 obtain⟨hT,h₂⟩:=h₂
 unfold subscriptTail
 refine wpAny_bind ?_
 rw[getitemInPython_of_ne hT.not_modules]
 refine wpAny_bind (wpAny_specialOf hT hl ?_)
 have fin:wpAny (model prog w) A (subscripted slice false o i) (fun r s₃=>wpAny (model prog w) A (letTemporaryGo value o r >>= fun _=>pure r) Q E s₃) E s₂:=by
  rw[hs o i]
  exact wpAny_operating (wpAny_mono h₂ (fun r s₃ h₃=>wpAny_bind (wpAny_letTemporaryGo (wpAny_pure h₃))) fun _ _ x=>x)
 first
  | exact wpAny_pure (wpAny_bind fin)
  | exact wpAny_bind (wpAny_pure (wpAny_bind fin))
  | exact wpAny_bind fin
theorem BG {X:Cx} {pins:List (Addr×Obj)} {σ:St} {H:Hp} {s:Shared} {a:Addr} {y:V} {o:Option V} (I:Inv X pins σ H s) (g:DGet H a y o):s.TypeIs (.ref a) "dict":=by
 rcases g with ⟨kvs,k,e,_,_⟩ | ⟨kvs,k,b,e,_,_,_⟩
 ·obtain⟨_,_,vs,_,dd⟩:=vp I.hok e
  exact dd.typeIs
 ·obtain⟨_,_,xs,_,dd⟩:=wX I.hok e
  exact dd.typeIs
def GE (td ty:TE):TE:=fun σ H Q=>td σ H fun x H1=>ty σ H1 fun y H2=>∃ a v,x=.ref a∧DGet H2 a y (some v)∧Q v H2
def Cf (ty td:TE):TE:=fun σ H Q=>ty σ H fun y H1=>td σ H1 fun x H2=>∃ a o,x=.ref a∧DGet H2 a y o∧Q (.bl (!o.isSome)) H2
def GM (td ty tv:TE):TS:=fun D σ H=>tv σ H fun v H1=>td σ H1 fun x H2=>ty σ H2 fun y H3=>∃ a H4,x=.ref a∧DPut H3 a y v H4∧D.nx σ H4
section
variable {X:Cx} {o i e value:Expr} {pos pos' tpos:Pos} {td ty tv:TE}
theorem wU (hu:X.A.units+1<cLine) (ho:PE X o td) (hi:PE X i ty) (hs:Jo i):PE X (.Subscript o i pos) (GE td ty):=by
 intro pins s σ H Q I h
 refine G5 PySem.F.slot_dict_getitem.lookup hs (thn (ho pins s σ H _ I h) fun u s1 ⟨x,H1,I1,rx,q1⟩=>thn (hi pins s1 σ H1 _ I1 q1) fun iv s2 ⟨y,H2,I2,ry,a,v,ex,g,q2⟩=>?_)
 subst ex
 obtain rfl:u=Value.ref a:=rx
 exact⟨BG I2 g,Ea hu I2 g ry fun w' s3 I3 rw'=>⟨v,H2,I3,rw',q2⟩⟩
theorem EX (hu:X.A.units+1<cLine) (hi:PE X i ty) (ho:PE X o td):PC X .NotIn i o (Cf ty td):=by
 intro pins s σ H Q I h
 refine thn (hi pins s σ H _ I h) fun iv s1 ⟨y,H1,I1,ry,q1⟩=>thn (ho pins s1 σ H1 _ I1 q1) fun u s2 ⟨x,H2,I2,rx,a,ov,ex,g,q2⟩=>?_
 subst ex
 obtain rfl:u=Value.ref a:=rx
 exact HG hu I2 g ry fun s3 I3=>⟨.bl (!ov.isSome),H2,I3,rfl,q2⟩
theorem Ce (hu:X.A.units+1<cLine) (ho:PE X o td) (hi:PE X i ty) (hv:PE X value tv) (hs:swapsWith value (some (.Subscript o i pos')) pos.line X.env=pure false) :
  PS X (.Assign [.Subscript o i pos'] value pos) (GM td ty tv):=by
 intro pins s σ H D I h
 refine wpAny_Assign_Subscript (thn (hv pins s σ H _ I h) fun r s1 ⟨v,H1,I1,rv,q1⟩=>thn (ho pins s1 σ H1 _ I1 q1) fun u s2 ⟨x,H2,I2,rx,q2⟩=>thn (hi pins s2 σ H2 _ I2 q2) fun iv s3 ⟨y,H3,I3,ry,a,H4,ex,g,q3⟩=>?_) hs
 subst ex
 obtain rfl:u=Value.ref a:=rx
 exact EW hu I3 g ry rv fun s4 I4=>⟨σ,H4,I4,q3⟩
end
theorem Gk {P:Program} {w:World} {H:Hp} (h:Heap) (hb:sysModules<h.objs.size):ObjOk P w H (h.push { cls:=.type "dict",data:=.dict #[] }) h.objs.size (.dK []) :=
 ⟨Nat.zero_le _,beq_eq_false_iff_ne.mpr (Ne.symm (Nat.ne_of_lt hb)),[],.nil,Heap.DictOf.new h⟩
def DR:TE:=fun _ H Q=>∀ p,H p=none→Q (.ref p) (upd H p (.dK []))
section
variable {X:Cx} {pos:Pos}
theorem FE:PE X (.Dict [] [] pos) DR:=fun pins s σ H Q I h =>
 wpAny_Dict_empty ⟨.ref s.heap.objs.size,_,I.laid (a:=s.heap.objs.size) (o:=.dK []) (t':=s.toks) (fun _ _ q=>Heap.get?_push_of_some _ q) (Nat.le_refl _) (Gk s.heap I.big),rfl,h _ (I.hok.fresh (Nat.le_refl _))⟩
end
structure M1 (X:Cx) (o:Expr) (m:Str) (apos:Pos) (e:Expr) (cpos:Pos):Prop where
 base:attributeBase o m X.env (eval o X.env)=eval o X.env
 few:((backTo cpos (starEach [e] X.env)).all (fun x=>!x.1) && (backToKw cpos (keywordEach [] X.env)).all (fun x=>x.1.isSome)
  && decide (([e]:List Expr).length+([]:List Keyword).length+(if ([]:List Keyword).isEmpty then 0 else 1)<30))=true
 line:(apos.endLine == cpos.line)=true
 trees:backTo cpos (starEach [e] X.env)=[(false,eval e X.env)]
structure M2 (X:Cx) (o:Expr) (m:Str) (apos:Pos) (e f:Expr) (cpos:Pos):Prop where
 base:attributeBase o m X.env (eval o X.env)=eval o X.env
 few:((backTo cpos (starEach [e,f] X.env)).all (fun x=>!x.1) && (backToKw cpos (keywordEach [] X.env)).all (fun x=>x.1.isSome)
  && decide (([e,f]:List Expr).length+([]:List Keyword).length+(if ([]:List Keyword).isEmpty then 0 else 1)<30))=true
 line:(apos.endLine == cpos.line)=true
 trees:backTo cpos (starEach [e,f] X.env)=[(false,eval e X.env),(false,eval f X.env)]
def IsD (H:Hp) (a:Addr):Prop:=(∃ kvs,Rd H a (.dK kvs))∨∃ kvs,Rd H a (.dT kvs)
theorem DI {X:Cx} {pins:List (Addr×Obj)} {σ:St} {H:Hp} {s:Shared} {a:Addr} (I:Inv X pins σ H s) (d:IsD H a) :
  s.TypeIs (.ref a) "dict"∧(∀ b,Value.ref a=.ref b→∃ ob,s.heap.get? b=some ob∧ob.dict=none)∧(a == sysModules)=false:=by
 rcases d with ⟨kvs,e⟩ | ⟨kvs,e⟩
 ·obtain⟨_,hd,vs,_,dd⟩:=vp I.hok e
  refine⟨dd.typeIs,fun b q=>?_,hd⟩
  cases q
  obtain⟨ob,_,_,h1,h2,_⟩:=dd
  exact⟨ob,h1,h2.2.1⟩
 ·obtain⟨_,hd,xs,_,dd⟩:=wX I.hok e
  refine⟨dd.typeIs,fun b q=>?_,hd⟩
  cases q
  obtain⟨ob,_,_,h1,h2,_⟩:=dd
  exact⟨ob,h1,h2.2.1⟩
section
variable {X:Cx} {pins:List (Addr×Obj)} {σ:St} {H:Hp} {s:Shared} {a:Addr} {y d:V} {u r:Value} {o:Option V} {A:Around} {E:Value→Shared→Prop}
theorem Jf {Q:Value→Shared→Prop} (hu:A.units+1<cLine) (I:Inv X pins σ H s) (g:DGet H a y o) (ry:RelV y u) (rd:RelV d r) (h:∀ w' s',Inv X pins σ H s'→RelV (o.getD d) w'→Q w' s') :
  wpAny (model X.prog X.w) A (call (.builtin "dict.get") [.ref a,u,r]) Q E s:=by
 rcases g with ⟨kvs,k,e,ey,l⟩ | ⟨kvs,k,b,e,ey,eb,l⟩
 ·subst ey
  obtain⟨z,hd,vs,rel,dd⟩:=vp I.hok e
  refine call_meetsIn PySem.F.slot_dict_get dd.typeIs PySem.F.entry_dict_get (PySem.F.args_dict_get_3 _ _ _) (meets_dict_get_default (nj X.prog X.w) a (vY ry) hd r) ⟨_,dd.mapOf,h _ _ (I.tok _) ?_⟩
  rw[l]
  exact (rel.val k).getD rd
 ·subst ey
  cases (show u=Value.ref b from ry)
  obtain⟨z,hd,xs,rel,dd⟩:=wX I.hok e
  refine call_meetsIn PySem.F.slot_dict_get dd.typeIs PySem.F.entry_dict_get (PySem.F.args_dict_get_3 _ _ _) (meetsH_dict_get_default (tupleKind (nj X.prog X.w)) a b hd r) ⟨tupleKind_room_in1 hu,k,xs,wm I.hok eb,dd,h _ _ (I.tok _) ?_⟩
  rw[l]
  exact (rel.val k).getD rd
end
def Ey (td ty tx:TE):TE:=fun σ H Q=>td σ H fun x H1=>∃ a,x=.ref a∧IsD H1 a∧ty σ H1 fun y H2=>tx σ H2 fun z H3=>∃ o,DGet H3 a y o∧Q (o.getD z) H3
section
variable {X:Cx} {o e f:Expr} {apos cpos:Pos} {td ty tx:TE}
theorem Fb (hu:X.A.units+1<cLine) (ho:PE X o td) (he:PE X e ty) (hf:PE X f tx) (m:M2 X o "get" apos e f cpos):PE X (.Call (.Attribute o "get" apos) [e,f] [] cpos) (Ey td ty tx):=by
 intro pins s σ H Q I h
 refine wpAny_Call_method m.base m.few m.line PySem.F.plainAttrs_dict PySem.F.slot_dict_get PySem.F.type_dict_get (thn (ho pins s σ H _ I h) fun u s1 ⟨x,H1,I1,rx,a,ex,d,q1⟩=>?_)
 subst ex
 obtain rfl:u=Value.ref a:=rx
 obtain⟨t1,t2,_⟩:=DI I1 d
 refine⟨t1,t2,?_⟩
 rw[m.trees]
 refine Calls.callWith_builtin rfl (Calls.evalArgs_plain (Calls.spliced_cons (thn (he pins s1 σ H1 _ I1 q1) fun iv s2 ⟨y,H2,I2,ry,q2⟩ =>
  Calls.spliced_cons (thn (hf pins s2 σ H2 _ I2 q2) fun fv s3 ⟨z,H3,I3,rz,ov,g,q3⟩=>Calls.spliced_nil ?_))))
 exact Jf hu I3 g ry rz fun w' s4 I4 rw'=>⟨_,H3,I4,rw',q3⟩
end
section
variable {κ:Type} [DecidableEq κ]
theorem xY {kvs:List (κ×V)} {k:κ} (h:valV kvs k=none):¬ k∈kvs.map (·.1):=by
 intro m
 obtain⟨p,hp,e⟩:=List.mem_map.mp m
 have q:(kvs.any fun kv=>decide (kv.1=k))=true:=List.any_eq_true.mpr ⟨p,hp,decide_eq_true e⟩
 rw[ur,h] at q
 exact absurd q (by simp)
theorem yW {kvs:List (κ×V)} {k:κ} {v:V} (h:valV kvs k=some v):k∈kvs.map (·.1):=by
 have q:(kvs.any fun kv=>decide (kv.1=k))=true:=by
  rw[ur,h]
  all_goals rfl
 obtain⟨p,hp,e⟩:=List.any_eq_true.mp q
 exact List.mem_map.mpr ⟨p,hp,of_decide_eq_true e⟩
theorem wR:∀ {l:List κ} {k:κ},l.Nodup→¬ k∈l→(l++[k]).Nodup
 | [],k,_,_=>by simp
 | a::r,k,h,hk=>by
  obtain⟨h1,h2⟩:=List.nodup_cons.mp h
  show (a::(r++[k])).Nodup
  refine List.nodup_cons.mpr ⟨fun m=>?_,wR h2 fun m=>hk (List.mem_cons.mpr (Or.inr m))⟩
  rcases List.mem_append.mp m with q | q
  ·exact h1 q
  ·exact hk (List.mem_cons.mpr (Or.inl (List.mem_singleton.mp q).symm))
theorem HE {kvs:List (κ×V)} {k:κ} (v:V) (hn:(kvs.map (·.1)).Nodup) (h:valV kvs k=none):((putK kvs k v).map (·.1)).Nodup:=by
 rw[v7 v h,List.map_append]
 exact wR hn (xY h)
end
def KEnt (P:Params):List DictEntry→List (Str×V)→Prop
 | [],[]=>True
 | e::es,kv::r=>(∃ t,e.key=.str kv.1 t)∧e.hash=PyData.keyHash P kv.1∧RelV kv.2 e.val∧KEnt P es r
 | _,_=>False
structure KDct (P:Params) (K:PySem.W.Frag) (a:Addr) (kvs:List (Str×V)):Prop where
 sm:(a == sysModules)=false
 nd:(kvs.map (·.1)).Nodup
 ob:∃ es ep,K.lookup a=some ⟨.type "dict",none,.dict es ep,#[]⟩∧KEnt P es.toList kvs
end L2
namespace PySem
open Sem (wp)
namespace DictL
section
variable {prog:Program} {w:World} {A:Around} {E:Value→Shared→Prop} {s:Shared}
theorem Ho:typeLookup (.type "list") (Str.ofString "__getattribute__")=pure (some (.builtin "list.__getattribute__")):=by kernel_rfl
theorem zu:typeLookup (.type "list") (Str.ofString "keys")=pure none:=by kernel_rfl
theorem Hh {l:Addr} {xs:Array Value} {n:Nat} {sl:Array (Option Value)} {t:Tok} {R:Result→Shared→Prop} (ho:s.heap.get? l=some { cls:=.type "list",dict:=none,data:=.seq xs n,slots:=sl }) (hh:A.handled=none)
  (h:∀ h' tk e,s.heap.NewAttrErr h' e (.ref l) (Str.ofString "keys")→R (.error (.ref e)) { s with heap:=h',toks:=tk }):codeAny (model prog w) A (.call (.builtin "list.__getattribute__") ⟨[.ref l,.str (Str.ofString "keys") t],[]⟩) R s :=
 codeAny_call_builtin F.slot_list_getattribute.plain am_entry_list_getattribute (F.slot_list_getattribute.check _ _ _ _ _ _ _ _ ⟨_,ho,rfl⟩ (F.args_list_getattribute_2 _ _)
  (meets_getattribute_miss_list l xs n sl (Str.ofString "keys") t zu (by decide) (by decide) prog w A R s ⟨ho,hh,h⟩))
theorem yP {l:Addr} {xs:Array Value} {n:Nat} {sl:Array (Option Value)} {Q:Option Value→Shared→Prop} (ho:s.heap.get? l=some { cls:=.type "list",dict:=none,data:=.seq xs n,slots:=sl }) (hh:A.handled=none)
  (h:∀ h' tk,(∀ b o,s.heap.get? b=some o→h'.get? b=some o)→Q none { s with heap:=h',toks:=tk }):wpAny (model prog w) A (getAttr? (.ref l) (Str.ofString "keys")) Q E s:=by
 have hT:s.TypeIs (.ref l) "list":=⟨_,ho,rfl⟩
 unfold getAttr? mkText getAttrBy? getAttrBy getAttrByItsOwn hookBefore callGetattribute getattributeRaised
 have h1:=Ho
 have h2:=zu
 wp_walk
 refine wpAny_of_eq (F.slot_list_getattribute.bind _) ?_
 dsimp only
 refine wpAny_call (Hh ho hh fun h' tk e ne=>?_)
 obtain⟨kp,nw,t,u,he⟩:=ne
 have h3:=sub_AttributeError
 have h4:=am_list_getattr_none
 dsimp only
 unfold hookBehind hookOrError attributeErrorLeaves
 wp_walk
 exact h h' tk kp
end
theorem pair_items {M:Model} {A:Around} {E:Value→Shared→Prop} {s:Shared} {b:Addr} {o:Obj} {m:Nat} {x y:Value} {Q:List Value→Shared→Prop} (ho:s.heap.get? b=some o) (hc:o.cls=.type "tuple") (hd:o.data=.seq #[x,y] m) (h:Q [x,y] s):wpAny M A (Builtin.Dict.pairItems (.ref b)) Q E s:=by
 unfold Builtin.Dict.pairItems
 have hT:s.TypeIs (.ref b) "tuple":=⟨_,ho,hc⟩
 refine wpAny_bind (wpAny_typeOf hT ?_)
 rw[if_pos (by decide)]
 refine wpAny_bind (wpAny_seqItems ho hd (wpAny_pure h))
theorem plain_loop:plainId "dict.update.loop"=true:=by decide +kernel
theorem entry_loop:entryFor table "dict.update.loop"=some Builtin.«dict.update.loop»:=entryFor_of_tree (by kernel_rfl)
section
variable {prog:Program} {w:World} {A:Around} {R:Result→Shared→Prop} {I:Addr} {fp wr:List Addr} {n:Nat} {P:Nat→Value→Prop} {St:Nat→Heap→Prop} {K:Type} [DecidableEq K] {knd:KeyKind prog w K}
theorem Df (kvs:List (K×Value)) (k:K) (v:Value):(stored kvs k v).length≤kvs.length+1:=by
 unfold stored
 split <;> simp
def Co (n:Nat) (tb:Nat→Addr) (ku u:Nat→Value) (h:Heap):Prop:=∀ i,i<n→∃ o m,h.get? (tb i)=some o∧o.cls=.type "tuple"∧o.data=.seq #[ku i,u i] m
theorem xg (W:Walks prog w A.in1 I fp wr n P St) (a:Addr) (ha:a ∉ fp) (hw:a ∉ wr) (tb:Nat→Addr) (ku u:Nat→Value) (kk:Nat→K) (hval:∀ i v,P i v→v=.ref (tb i)) (hk:∀ i,i<n→knd.is (kk i) (ku i)=true) (ht:∀ i,i<n→tb i ∉ a::wr) :
  ∀ (k i:Nat) (s:Shared) (kvs:List (K×Value)) (c:Int) (tk0:Tok),n-i=k→i≤n→St i s.heap→Co n tb ku u s.heap →
  s.heap.DictOf knd a kvs→kvs.length+k≤sizeLine →
  (∀ h' tk,h'.DictOf knd a (((List.range n).drop i).foldl (fun q j=>stored q (kk j) (u j)) kvs)→(∀ b o,b ∉ a::wr→s.heap.get? b=some o→h'.get? b=some o)→R (.ok (.ret .none)) { s with heap:=h',toks:=tk }) →
  codeAny (model prog w) A (.builtin "dict.update.loop" ⟨[.ref a,.ref I,.int c tk0,.none],[]⟩) R s:=by
 intro k
 induction k with
 | zero =>
  intro i s kvs c tk0 hk' hi hst hT hS hb hR
  have hin:i=n:=by omega
  subst hin
  refine codeAny_builtin entry_loop ?_
  rw[Around.under_plainId plain_loop _]
  show wpAny _ A.in1 (pyNext (.ref I) >>= _) _ _ s
  refine wpAny_bind (W.done s _ _ hst fun h' tk hk'=>?_)
  dsimp only
  unfold Builtin.Dict.addKeywords
  wp_walk
  obtain⟨o,es,ep,ho,r⟩:=hS
  refine hR h' tk ?_ fun b o hbw e=>hk' b o (fun z=>hbw (List.mem_cons_of_mem _ z)) e
  rw[List.drop_of_length_le (by simp)]
  exact⟨o,es,ep,hk' a o hw ho,r⟩
 | succ k ih =>
  intro i s kvs c tk0 hk' hi hst hT hS hb hR
  have hlt:i<n:=by omega
  have hd:(List.range n).drop i=i::(List.range n).drop (i+1):=by
   rw[List.drop_eq_getElem_cons (by simpa using hlt)]; simp
  refine codeAny_builtin entry_loop ?_
  rw[Around.under_plainId plain_loop _]
  show wpAny _ A.in1 (pyNext (.ref I) >>= _) _ _ s
  refine wpAny_bind (W.item i s _ _ hlt hst fun v h' tk hP hst' hkp=>?_)
  obtain rfl:=hval i v hP
  obtain⟨o,m,ho,hc,hd2⟩:=hT i hlt
  have ho':=hkp _ _ (fun z=>ht i hlt (List.mem_cons_of_mem _ z)) ho
  obtain⟨od,es,ep,hod,rr⟩:=hS
  have hS':h'.DictOf knd a kvs:=⟨od,es,ep,hkp a od hw hod,rr⟩
  dsimp only
  refine wpAny_bind (wpAny_holding (wpAny_bind (wpAny_tryCatch (pair_items ho' hc hd2 ?_))))
  dsimp only
  refine wpAny_holding (wpAny_dictSet_pairs (hk i hlt) hS' (fun h2 hS2 hsb=>?_) (by omega))
  refine wpAny_pure ⟨plainId_quiet plain_loop _,ih (i+1) _ (stored kvs (kk i) (u i)) _ _ (by omega) hlt ?_ (fun j hj=>?_) hS2 ?_ fun h3 tk3 hS3 hk3=>?_⟩
  ·exact W.frame _ _ _ hst' fun b hbf o e=>hsb.2 b (fun z=>ha (z ▸ hbf)) ▸ e
  ·obtain⟨o,m,h1,h2,h3⟩:=hT j hj
   refine⟨o,m,?_,h2,h3⟩
   have e1:=hkp _ _ (fun z=>ht j hj (List.mem_cons_of_mem _ z)) h1
   exact (hsb.2 _ (fun z=>ht j hj (z ▸ List.mem_cons_self ..))).trans e1
  ·have:=Df kvs (kk i) (u i)
   omega
  ·have:=hR h3 tk3
   rw[hd,List.foldl_cons] at this
   refine this hS3 fun b o hbw e=>hk3 b o hbw ((hsb.2 b (fun z=>hbw (z ▸ List.mem_cons_self ..))).trans (hkp b o (fun z=>hbw (List.mem_cons_of_mem _ z)) e))
end
section
variable {prog:Program} {w:World} {A:Around} {E:Value→Shared→Prop} {s:Shared} {K:Type} [DecidableEq K] {knd:KeyKind prog w K}
theorem BI {l d:Addr} {xs:Array Value} {n:Nat} {sl:Array (Option Value)} {Q:PySem.Fin→Shared→Prop} (ho:s.heap.get? l=some { cls:=.type "list",dict:=none,data:=.seq xs n,slots:=sl }) (hh:A.handled=none)
  (h:∀ (h':Heap) (tk:Nat),(∀ b o,s.heap.get? b=some o→h'.get? b=some o)→True→Q (.again (.builtin "dict.update.loop" ⟨[.ref d,.ref h'.objs.size,rawInt 0,.none],[]⟩)) { s with heap:=h'.push { cls:=.type "list_iterator",data:=.fields #[.ref l,rawInt 0] },toks:=tk }) :
  wpAny (model prog w) A (Builtin.Dict.updateFrom "dict.__init__" d (.ref l) [] .none) Q E s:=by
 unfold Builtin.Dict.updateFrom
 refine wpAny_bind (wpAny_typeOf ⟨_,ho,rfl⟩ ?_)
 dsimp only
 rw[if_pos (by decide)]
 refine wpAny_bind (yP ho hh fun h' tk kp=>?_)
 rw[if_pos (by rfl)]
 have hl':h'.IsList l xs:=⟨_,kp _ _ ho,rfl,n,rfl⟩
 wp_walk using wpAny_pyIter_list hl'
 exact h h' tk kp trivial
theorem xm {M:Model} {self x:Value} {Q:Unit→Shared→Prop} (hT:s.TypeIs self "dict") (h:Q () s):wpAny M A (Builtin.Dict.notOrdered "__init__" ⟨[self,x],[]⟩) Q E s:=by
 unfold Builtin.Dict.notOrdered
 refine wpAny_bind (wpAny_typeOf (show s.TypeIs (([self,x]:List Value).headD .none) "dict" from hT) ?_)
 rw[if_neg (by decide)]
 exact wpAny_pure h
set_option maxHeartbeats 4000000 in
theorem call_dict_pairs {l:Addr} {its:List Value} {tb:Nat→Addr} {ku u:Nat→Value} {kk:Nat→K} {Q:Value→Shared→Prop} (hh:A.handled=none) (hl:∃ n sl,s.heap.get? l=some { cls:=.type "list",dict:=none,data:=.seq its.toArray n,slots:=sl }) (hi:∀ (j:Nat) (v:Value),its[j]?=some v→v=.ref (tb j)) (hp:Co its.length tb ku u s.heap) (hk:∀ i,i<its.length→knd.is (kk i) (ku i)=true) (hb:its.length≤sizeLine)
  (h:∀ h' tk,h'.DictOf knd s.heap.objs.size ((List.range its.length).foldl (fun q j=>stored q (kk j) (u j)) [])→(∀ b o,s.heap.get? b=some o→h'.get? b=some o)→Q (.ref s.heap.objs.size) { s with heap:=h',toks:=tk }) :
  wpAny (model prog w) A (call (.type "dict") [.ref l]) Q E s:=by
 obtain⟨n,sl,hl⟩:=hl
 obtain⟨c,tl,hmro⟩:=F.kt_called_dict.mro
 have hmade:=F.kt_called_dict.made
 have hsub:=F.kt_called_dict.sub
 refine wpAny_call (codeAny_of_tree ?_)
 show wpAny _ _ (callAny (.type "dict") _) _ _ _
 refine wpAny_pure ⟨Code.quiet_builtin _ (by decide +kernel),codeAny_builtin F.entry_type_call ?_⟩
 rw[Around.under_plain (weight_type_call_type "dict" [.ref l] []) rfl]
 have h1:=F.kt_called_dict.notType
 have h2:=F.kt_called_dict.canCreate
 have hct:=F.kt_typeCall_dict_1 (.ref l)
 repeat (any_goals (first | assumption | wp_step))
 refine codeAny_mono (kt_code_dict_new (E:=E) (.ref l) (Q₁:=fun obj s₁=>obj=.ref s.heap.objs.size∧s₁={ s with heap:=s.heap.push { cls:=.type "dict",data:=.dict #[] } }) ⟨rfl,rfl⟩) fun r s₁ hr=>?_
 cases r with
 | error e=>exact hr
 | ok fl =>
  cases fl with
  | ret obj =>
   obtain⟨rfl,rfl⟩:=hr
   have hS:(s.heap.push { cls:=.type "dict",data:=.dict #[] }).get? s.heap.objs.size=some { cls:=.type "dict",data:=.dict #[] }:=Heap.get?_push_size _ rfl
   have hT:Shared.TypeIs { s with heap:=s.heap.push { cls:=.type "dict",data:=.dict #[] } } (.ref s.heap.objs.size) "dict":=⟨_,hS,rfl⟩
   have hli:=F.kt_called_dict.init.lookup
   have hbi:=F.kt_called_dict.init.bind (.ref s.heap.objs.size)
   repeat (any_goals (first | assumption | wp_step))
   refine codeAny_mono (codeAny_call_builtin (R:=wants (fun r s₂=>r=.none∧Q (.ref s.heap.objs.size) s₂) E) F.kt_called_dict.init.plain F.entry_dict_init (F.slot_dict_init.check _ _ _ _ _ _ _ _ hT (F.args_dict_init_2 _ _) ?_)) fun r₂ s₂ hr₂=>?_
   ·have ho':(s.heap.push { cls:=.type "dict",data:=.dict #[] }).get? l=some { cls:=.type "list",dict:=none,data:=.seq its.toArray n,slots:=sl }:=Heap.get?_push_of_some _ hl
    have hlt:l<s.heap.objs.size:=Heap.lt_size hl
    have hsz:(s.heap.push { cls:=.type "dict",data:=.dict #[] }).objs.size=s.heap.objs.size+1:=Heap.size_push ..
    unfold Builtin.«dict.__init__» Builtin.Dict.selfAndRest Builtin.Dict.notOrdered Builtin.Dict.addrOf Builtin.Dict.updateCommon
    refine wpAny_bind (wpAny_bind (xm hT ?_))
    dsimp only
    refine wpAny_bind (wpAny_pure (wpAny_pure ?_))
    dsimp only
    refine BI (d:=s.heap.objs.size) ho' hh fun h' tk kp _=>?_
    have kp':∀ b o,s.heap.get? b=some o→h'.get? b=some o:=fun b o e=>kp b o (Heap.get?_push_of_some _ e)
    have lt':s.heap.objs.size<h'.objs.size:=Heap.lt_size (kp _ _ hS)
    refine⟨plainId_quiet plain_loop _,?_⟩
    refine xg (knd:=knd) (Walks.list (A:=A.in1.in1) hh _ l (show l≠h'.objs.size from Nat.ne_of_lt (Nat.lt_trans hlt lt')) its.toArray) s.heap.objs.size ?_ ?_ tb ku u kk (fun j v hP=>hi j v (by simpa using hP)) (fun i h=>hk i (by simpa using h)) ?_ its.toArray.size 0 _ [] 0 0 (Nat.sub_zero _) (Nat.zero_le _) ⟨⟨_,Heap.get?_push_size _ rfl,rfl,rfl⟩,?_⟩ ?_ ?_ ?_ ?_
    ·intro hm
     rcases List.mem_cons.mp hm with e | hm
     ·exact absurd e (Nat.ne_of_lt lt')
     ·exact absurd (List.mem_singleton.mp hm) (Nat.ne_of_gt hlt)
    ·exact fun hm=>absurd (List.mem_singleton.mp hm) (Nat.ne_of_lt lt')
    ·intro i hi2 hm
     obtain⟨o,m,ho2,_⟩:=hp i (by simpa using hi2)
     have lt2:=Heap.lt_size ho2
     rcases List.mem_cons.mp hm with e | hm
     ·exact absurd e (Nat.ne_of_lt lt2)
     ·exact absurd (List.mem_singleton.mp hm) (Nat.ne_of_lt (Nat.lt_trans lt2 lt'))
    ·exact⟨_,Heap.get?_push_of_some _ (kp' _ _ hl),rfl,n,rfl⟩
    ·exact fun i hi2=>let ⟨o,m,a,b,c⟩:=hp i (by simpa using hi2); ⟨o,m,Heap.get?_push_of_some _ (kp' _ _ a),b,c⟩
    ·exact⟨_,#[],0,Heap.get?_push_of_some _ (kp _ _ hS),⟨rfl,rfl,rfl⟩,rfl,fun e he=>by simp at he,.nil,.nil⟩
    ·simpa using hb
    ·intro h2 tk2 hD hk2
     refine⟨rfl,h h2 tk2 (by simpa using hD) fun b o e=>hk2 b o (fun hm=>?_) (Heap.get?_push_of_some _ (kp' _ _ e))⟩
     have lt2:=Heap.lt_size e
     rcases List.mem_cons.mp hm with z | hm
     ·exact absurd z (Nat.ne_of_lt lt2)
     ·exact absurd (List.mem_singleton.mp hm) (Nat.ne_of_lt (Nat.lt_trans lt2 lt'))
   ·cases r₂ with
    | error e=>exact hr₂
    | ok fl₂ =>
     cases fl₂ with
     | ret r =>
      obtain⟨rfl,hq⟩:=hr₂
      repeat (any_goals (first | assumption | wp_step))
     | _=>exact hr₂.elim
  | _=>exact hr.elim
end
end DictL
end PySem
namespace L2
open PySem PySem.Spec PyProof.Rows
def vM (kvs:List (Key×V)):List (Key×V):=kvs.foldl (fun q kv=>putK q kv.1 kv.2) []
theorem EI (kvs:List (Key×V)):(vM kvs).length≤kvs.length:=by
 have:∀ (kvs q:List (Key×V)),(kvs.foldl (fun q kv=>putK q kv.1 kv.2) q).length≤q.length+kvs.length:=by
  intro kvs
  induction kvs with
  | nil=>intro q; exact Nat.le_refl _
  | cons a l ih =>
   intro q
   have h1:=ih (putK q a.1 a.2)
   have h2:=ug q a.1 a.2
   rw[List.foldl_cons,List.length_cons]
   omega
 have:=this kvs []
 simpa [vM] using this
section
variable {X:Cx}
theorem ye (hc:X.calm=true):rQ X (.type "dict") (fun xs H Q=>∃ (p:Addr) (ps:List Addr) (kvs:List (Key×V)),xs=[.ref p]∧SqL X.K H p (ps.map V.ref)∧ps.length=kvs.length∧(∀ (j:Nat) (a:Addr) (kv:Key×V),ps[j]?=some a→kvs[j]?=some kv→SqT X.K H a [kV kv.1,kv.2])∧∀ d,H d=none→Q (.ref d) (upd H d (.dK (vM kvs)))):=by
 intro pins s σ H xs us Q I r h
 obtain⟨p,ps,kvs,rfl,hq,hl,ht,q⟩:=h
 obtain⟨u,rfl,rx⟩:=vals1 r
 cases rx
 obtain⟨its,r',⟨o,n,e,c,dn,dt⟩,hz⟩:=I.list hq
 have len:=r'.length
 rw[List.length_map] at len hz
 obtain⟨g,hg⟩:=Classical.axiomOfChoice (r:=fun (j:Nat) (g:Addr×Key×Value×Value)=>∀ a kv,ps[j]?=some a→kvs[j]?=some kv→g.1=a∧g.2.1=kv.1∧(∃ o m,s.heap.get? a=some o∧o.cls=.type "tuple"∧o.data=.seq #[g.2.2.1,g.2.2.2] m)∧RelV (kV kv.1) g.2.2.1∧RelV kv.2 g.2.2.2) (fun j=>by
  by_cases hj:j<ps.length
  ·have e1:ps[j]?=some ps[j]:=List.getElem?_eq_getElem hj
   have e2:kvs[j]?=some (kvs[j]'(by omega)):=List.getElem?_eq_getElem (by omega)
   obtain⟨its2,rv,⟨o2,h1,h2,m2,h3⟩,_⟩:=I.tuple (ht j _ _ e1 e2)
   cases rv with
   | cons ra rv =>
    cases rv with
    | cons rb rv =>
     cases rv with
     | nil=>exact⟨(ps[j],(kvs[j]'(by omega)).1,_,_),fun a kv h4 h5=>by
       rw[e1] at h4
       rw[e2] at h5
       injection h4 with h4
       injection h5 with h5
       subst h4 h5
       exact⟨rfl,rfl,⟨o2,m2,h1,h2,h3⟩,ra,rb⟩⟩
  ·exact⟨(0,.inl 0,.none,.none),fun a kv h4=>absurd (List.getElem?_eq_some_iff.mp h4).1 hj⟩)
 have at_:∀ j,j<ps.length→∃ a kv,ps[j]?=some a∧kvs[j]?=some kv:=fun j hj=>⟨_,_,List.getElem?_eq_getElem hj,List.getElem?_eq_getElem (by omega)⟩
 have nn:its.length=ps.length:=len.symm
 obtain⟨cls,dd,data,sl⟩:=o
 simp only at c dn dt
 subst c dn dt
 refine PySem.DictL.call_dict_pairs (knd:=nj X.prog X.w) (tb:=fun j=>(g j).1) (ku:=fun j=>(g j).2.2.1) (u:=fun j=>(g j).2.2.2) (kk:=fun j=>(g j).2.1) (I.ok.hd hc) ⟨n,sl,e⟩ (fun j v ev=>?_) (fun j hj=>?_) (fun j hj=>?_) (by rw[nn]; exact hz) fun h' tk hD hk=>?_
 ·obtain⟨hj,e'⟩:=List.getElem?_eq_some_iff.mp ev
  obtain⟨a,kv,h1,h2⟩:=at_ j (by omega)
  obtain⟨x,hx,rv⟩:=u7 r' hj
  rw[List.getElem?_map,h1] at hx
  injection hx with hx
  subst hx
  rw[← e',(show its[j]=Value.ref a from rv),(hg j a kv h1 h2).1]
 ·obtain⟨a,kv,h1,h2⟩:=at_ j (by omega)
  obtain⟨g1,_,⟨o,m,h3,h4,h5⟩,_⟩:=hg j a kv h1 h2
  exact⟨o,m,(show s.heap.get? (g j).1=some o by rw[g1]; exact h3),h4,h5⟩
 ·obtain⟨a,kv,h1,h2⟩:=at_ j (by omega)
  obtain⟨_,g2,_,g3,_⟩:=hg j a kv h1 h2
  show (nj X.prog X.w).is (g j).2.1 (g j).2.2.1=true
  rw[g2]
  exact vY g3
 ·have rel:∀ m,m≤kvs.length→KV ((kvs.take m).foldl (fun q kv=>putK q kv.1 kv.2) []) ((List.range m).foldl (fun q j=>stored q (g j).2.1 (g j).2.2.2) []):=by
   intro m
   induction m with
   | zero=>intro _; exact .nil
   | succ m ih =>
    intro hm
    have e2:kvs[m]?=some (kvs[m]'(by omega)):=List.getElem?_eq_getElem (by omega)
    obtain⟨_,g2,_,_,g4⟩:=hg m (ps[m]'(by omega)) _ (List.getElem?_eq_getElem (by omega)) e2
    rw[List.range_succ,List.foldl_append,List.take_succ,e2,List.foldl_append]
    show KV (putK _ _ _) (stored _ _ _)
    rw[g2]
    exact (ih (by omega)).put _ g4
  have rel':KV (vM kvs) ((List.range its.length).foldl (fun q j=>stored q (g j).2.1 (g j).2.2.2) []):=by
   have:=rel kvs.length (Nat.le_refl _)
   rw[List.take_length] at this
   rw[nn,hl]
   exact this
  have hd:(s.heap.objs.size == sysModules)=false:=by
   have:=I.big
   exact beq_false_of_ne fun z=>by rw[z] at this; exact absurd this (Nat.lt_irrefl _)
  exact⟨.ref s.heap.objs.size,_,I.laid (o:=.dK (vM kvs)) hk (Nat.le_refl _) (Ag (by have:=EI kvs; omega) hd rel' hD),rfl,q _ (I.hok.fresh (Nat.le_refl _))⟩
end
end L2
namespace PySem
open Sem (wp)
namespace DictE
section
variable {prog:Program} {w:World} {A:Around} {E:Value→Shared→Prop} {s:Shared} {K:Type} [DecidableEq K] {knd:KeyKind prog w K}
theorem xm {M:Model} {self x:Value} {Q:Unit→Shared→Prop} (hT:s.TypeIs self "dict") (h:Q () s):wpAny M A (Builtin.Dict.notOrdered "__eq__" ⟨[self,x],[]⟩) Q E s:=by
  unfold Builtin.Dict.notOrdered
  first
    | (refine wpAny_bind (wpAny_typeOf (show s.TypeIs (([self,x]:List Value).headD .none) "dict" from hT) ?_)
       rw[if_neg (by decide)]
       exact wpAny_pure h)
    | (rw[if_neg (by decide)]
       exact wpAny_pure h)
    | (rw[if_pos (by decide)]
       refine wpAny_bind (wpAny_typeOf (show s.TypeIs (([self,x]:List Value).headD .none) "dict" from hT) ?_)
       rw[if_neg (by decide)]
       exact wpAny_pure h)
    | exact wpAny_pure h
end
end DictE
end PySem
namespace PySem
open Sem (wp)
open PyProof.Rows
namespace SortD
section
variable {prog:Program} {w:World} {A:Around} {E:Value→Shared→Prop} {s:Shared} {K:Type} [DecidableEq K] {knd:KeyKind prog w K}
theorem check_sorted {M:Model} {x:Value} {Q:Unit→Shared→Prop} (h:Q () s):wpAny M A (checkBuiltinCall "sorted" ⟨[x],[]⟩) Q E s:=by
 unfold checkBuiltinCall
 rw[kind_sorted]
 exact wpAny_of_eq (args_sorted1 x) h
end
end SortD
end PySem
namespace L2
open PySem PySem.Spec PyProof.Rows
theorem DP:bootBuiltins "dict"=some (.type "dict"):=by decide +kernel
theorem xx {X:Cx} {K:PySem.W.Frag} (h:X.K=K):rQ X (.type "list") (fun xs H Q=>∃ p ys,xs=[.ref p]∧SqL K H p ys∧∀ l,H l=none→Q (.ref l) (upd H l (.lst ys))):=by
 subst h
 exact tS
end L2
namespace L2
open PySem PySem.Spec PyProof.Rows
open PySem.Builtin PySem.Builtin.ObjectAttr PySem.Builtin.Getset_descriptor
open PySem.W (Frag Looks InstAt looks_findIn looks_specialIn looks_takesIn looks_mroIn looks_subIn looks_typeIn looks_clsIn)
def EV:List Value→Bool
 | .ref _::r=>EV r
 | l=>l == bmVE
def xOver (K:Frag) (C:Addr):Bool:=(PySem.W.clsIn K C).any fun cd=>EV cd.mro && cd.hasDict
structure XFld (K:Frag) (C:Addr):Prop where
 sa:PySem.W.findIn K (.ref C) "__setattr__"=some (some (.builtin "object.__setattr__"))
 ov:xOver K C=true
 xc:XCls K C
end L2
namespace L2
open PySem PySem.Spec PyProof.Rows
open PySem.W (Frag Looks InstAt looks_findIn looks_specialIn looks_takesIn looks_mroIn looks_subIn looks_typeIn looks_clsIn tailIn nsOkIn nsIn)
def excInI (K:Frag) (C fI:Addr):Bool:=match K.lookup C with
 | some ⟨.type "type",_,.cls cd,sl⟩=>(match cd.mro,sl.toList with
  | .ref C'::bm,[_,_,_,_,some (.builtin n),_]=>C' == C && n == "ValueError.__new__" && !cd.hasDel && tailIn K bmVE bm && nsOkIn K cd.ns && nsIn K cd.ns "__init__" == some (some (.ref fI))
  | _,_=>false)
 | _=>false
end L2
namespace L2
open PySem PySem.Spec PyProof.Rows
open PySem.W (Frag)
def loose:HO→Prop
 | .ext _=>True
 | .xd _=>True
 | _=>False
structure XUp (K:Frag) (mg:Str→Option Value) (x:Str) (T:Addr):Prop where
 at_:mg x=some (.ref T)
 ga:PySem.W.specialIn K (.ref T) "__getattribute__"=some (some (.builtin "type.__getattribute__"))
 rd:PySem.W.readsIn K T (.type "type")=true
 fi:PySem.W.findCls K (.ref T) (.type "type") "__init__"=some (.val (.builtin "ValueError.__init__"))
end L2
namespace L2
open PySem PySem.Spec PyProof.Rows
open PySem.W (Frag)
structure XMk (P:Program) (w:World) (K:Frag) (mg:Str→Option Value) (base:Heap) (x:Str) (C:Addr) (k:Nat) (ps:List Str) (sp:Sp):Prop where
 ex:∃ f fd,excInI K C f=true∧PySem.W.isFn K (.ref f)=true∧FnOk P w K mg base CX0 k f fd ps sp∧Binds K fd ps []
 at_:mg x=some (.ref C)
 kp:PySem.W.keepIn K (.ref C)=true
end L2
namespace L2
open PySem PySem.Spec PyProof.Rows
open PySem.W (Frag envX kla_fn kla_obj)
structure LamSc (sc:Scope) (x y:Str):Prop where
 kind:sc.kind=.function
 co:sc.isCoroutine=false
 gen:sc.isGenerator=false
 own:sc.names.lookup x=some .local
 free:sc.names.lookup y=some .free
 nocell:∀ z∈sc.names,z.2≠.cell
 only:∀ z∈sc.names,z.2=.free→z.1=y
def J0 (c:Addr) (qual:Str):HO:=.ext (fun h=>h.CodeRec (.ref c) qual)
def LamTab (H:Hp) (P:Addr) (pos:Pos) (qual:Str):Prop:=H P=some (.tbl #[])∨∃ c,H P=some (.tbl #[rawInt pos.line,rawInt pos.col,.ref c])∧H c=some (J0 c qual)
end L2
namespace L2
open PySem PySem.Spec PyProof.Rows
open PySem.W (Frag envX kla_fn kla_obj)
def KpT (H H':Hp):Prop:=∀ b u,H b=some u→(∀ ps,u≠.tbl ps)→H' b=some u
theorem KpT.trans {H H' H'':Hp} (a:KpT H H') (b:KpT H' H''):KpT H H'':=fun x u h n=>b x u (a x u h n) n
theorem KpT.tup {K:Frag} {H H':Hp} {a:Addr} {xs:List V} (e:KpT H H') (h:SqT K H a xs):SqT K H' a xs:=by
 rcases h with (h | ⟨o,h⟩) | h
 ·exact .inl (.inl (e _ _ h fun _ z=>by cases z))
 ·exact .inl (.inr ⟨o,e _ _ h fun _ z=>by cases z⟩)
 ·exact .inr h
theorem KpT.none {H H':Hp} {b:Addr} (e:KpT H H') (n:H' b=none):H b=none∨∃ ps,H b=some (.tbl ps):=by
 cases q:H b with
 | none=>exact .inl rfl
 | some u =>
  by_cases z:∃ ps,u=.tbl ps
  ·obtain⟨ps,rfl⟩:=z
   exact .inr ⟨ps,rfl⟩
  ·rw[e b u q fun ps w=>z ⟨ps,w⟩] at n
   cases n
theorem LamTab.tbl {H:Hp} {P:Addr} {pos:Pos} {qual:Str} (h:LamTab H P pos qual):∃ ps,H P=some (.tbl ps):=by
 rcases h with z | ⟨c',z,_⟩
 ·exact⟨_,z⟩
 ·exact⟨_,z⟩
theorem LamTab.upd {H:Hp} {P l:Addr} {pos:Pos} {qual:Str} {xs:List V} {o:HO} (h:LamTab H P pos qual) (hl:H l=some (.lst xs)):LamTab (upd H l o) P pos qual:=by
 rcases h with z | ⟨c',z,zc⟩
 ·exact .inl (by rw[er (fun e=>by rw[e,hl] at z; cases z)]; exact z)
 ·exact .inr ⟨c',by rw[er (fun e=>by rw[e,hl] at z; cases z)]; exact z,by rw[er (fun e=>by rw[e,hl] at zc; cases zc)]; exact zc⟩
end L2
namespace L2
open PySem PySem.Spec PyProof.Rows
def ItK (a:Addr) (o:Obj) (kvs:List (Key×V)):It:=⟨fun i H=>i<kvs.length∧H a=some (.frz o (.dK kvs)),fun i H x H'=>H'=H∧∃ k v,kvs[i]?=some (k,v)∧x=kV k,fun i H=>kvs.length≤i∧H a=some (.frz o (.dK kvs))⟩
theorem yS {k:Key} {u:Value} (h:vU k u=true):RelV (kV k) u:=by
 rcases nP h with ⟨i,t,rfl,rfl⟩ | ⟨x,t,rfl,rfl⟩
 ·exact⟨t,rfl⟩
 ·exact⟨t,rfl⟩
theorem KV.at {κ:Type}:∀ {kvs:List (κ×V)} {vs:List (κ×Value)},KV kvs vs→∀ {i:Nat} {k:κ} {v:Value},vs[i]?=some (k,v)→∃ x,kvs[i]?=some (k,x)∧RelV x v
 | _,_,.nil,_,_,_,h=>by simp at h
 | _,_,.cons (a:=p) r t,0,k,v,h=>by
  simp at h
  subst h
  have e:p.1=k:=r.1
  exact⟨p.2,by rw[← e]; rfl,r.2⟩
 | _,_,.cons r t,i+1,k,v,h=>KV.at t (by simpa using h)
theorem KV.len {κ:Type}:∀ {kvs:List (κ×V)} {vs:List (κ×Value)},KV kvs vs→kvs.length=vs.length
 | _,_,.nil=>rfl
 | _,_,.cons _ t=>congrArg Nat.succ (KV.len t)
theorem Au {P:Program} {w:World} {H:Hp} {h:Heap} {a:Addr} {o:Obj} {kvs:List (Key×V)} (x:ObjOk P w H h a (.frz o (.dK kvs))):∃ (vs:List (Key×Value)) (es:Array DictEntry) (ep:Nat),o.data=.dict es ep∧KV kvs vs∧h.DictAt (nj P w) a vs ep:=by
 obtain⟨e,_,_,vs,r,o',es,ep,e',x',d',c⟩:=x
 rw[e] at e'
 cases e'
 exact⟨vs,es,ep,d',r,o,es,e,x',d',c⟩
theorem CF {P:Program} {w:World} {K:PySem.W.Frag} {tg:Expr} (a it:Addr) (o:Obj) (kvs:List (Key×V)):Turn P w K tg (ItK a o kvs) [it] it (fun i h=>∃ es ep,o.data=.dict es ep∧h.IsKeyIter it a i kvs.length ep) where
 mem:=by simp
 obj:=fun i h st b hb=>by
  have e:b=it:=by simpa using hb
  subst e
  obtain⟨_,_,_,o,e,c,d⟩:=st
  exact⟨o,e,fun v z=>by rw[d] at z; cases z⟩
 keep:=fun i h h' st k=>by
  obtain⟨es,ep,e,st⟩:=st
  exact⟨es,ep,e,st.at fun o e=>k it (by simp) o e⟩
 item:=by
  intro X hP hw hK hc i pins s σ H E I hf st hg
  subst hP hw hK
  obtain⟨hi,hH⟩:=hg
  obtain⟨es,ep,ed,st⟩:=st
  obtain⟨vs,es',ep',ed',r,da⟩:=Au (I.hok a _ hH)
  rw[ed] at ed'
  cases ed'
  have len:=KV.len r
  obtain⟨f0,f1,f2,f3,f4,f5⟩:=hf it (by simp)
  have hx:vs[i]?=some ((vs[i]'(by omega)).1,(vs[i]'(by omega)).2):=List.getElem?_eq_getElem _
  obtain⟨x,hx2,rx⟩:=KV.at r hx
  rw[len] at st
  refine wpAny_pyNext_dict_item st da hx fun key h' hkey st' sb=>?_
  have I1:Inv X pins σ H { s with heap:=h' }:=I.turned (t':=s.toks) (fun b o hb e=>(sb.2 b hb).trans e) f0 f1 f3 f4 f5
  obtain⟨oi,e,c,d⟩:=id st'
  exact⟨key,rfl,zK (s:={ s with heap:=h' }) e c d (by decide) ⟨_,H,I1,yS hkey,⟨rfl,_,_,hx2,rfl⟩,⟨es,ep,ed,by rw[len]; exact st'⟩,fun b hb=>(hf b hb).1⟩⟩
 done:=by
  intro X hP hw hK hc i pins s σ H E I hf st hg
  subst hP hw hK
  obtain⟨hi,hH⟩:=hg
  obtain⟨es,ep,ed,st⟩:=st
  obtain⟨vs,es',ep',ed',r,da⟩:=Au (I.hok a _ hH)
  rw[ed] at ed'
  cases ed'
  have len:=KV.len r
  rw[len] at st
  obtain⟨f0,f1,f2,f3,f4,f5⟩:=hf it (by simp)
  exact wpAny_pyNext_dict_end (I.ok.hd hc) st da (by simp; omega) fun h' eb=>⟨rfl,I.turned (t':=s.toks) (fun b o hb e=>eb b o hb e) f0 f1 f3 f4 f5⟩
 self:=fun _ _ _ _ _ st h=>by
  obtain⟨_,_,_,st⟩:=st
  exact wpAny_pyIter_keyiter st h
theorem Inv.frozen {X:Cx} {pins:List (Addr×Obj)} {σ:St} {H:Hp} {s:Shared} {a:Addr} {o:Obj} {kvs:List (Key×V)} (I:Inv X pins σ H s) (hd:H a=some (.dK kvs)) (ho:s.heap.get? a=some o):Inv X pins σ (upd H a (.frz o (.dK kvs))) s:=by
 have ne:∀ b u,H b=some u→u≠.dK kvs→b≠a:=fun b u q n z=>by rw[z,hd] at q; cases q; exact n rfl
 have J:=I.un (t':=s.toks) (h':=s.heap) (H':=upd H a (.frz o (.dK kvs))) ⟨fun b o e _ _ _=>e,fun b o e _ _ _=>⟨o.slots,e⟩,fun b o e n _=>by rw[er (fun z=>by rw[z,hd] at n; cases n)]; exact n,fun b o e _=>⟨o,e⟩,fun b xs q=>by rw[er (ne b _ q (by intro z; cases z))]; exact q,
  fun b ob u q=>by rw[er (ne b _ q (by intro z; cases z))]; exact q,fun b ps q=>⟨#[],by rw[er (ne b _ q (by intro z; cases z)),q]; simp⟩⟩ fun b u q=>?_
 ·exact J
 ·by_cases z:b=a
  ·subst z
   rw[cY] at q
   cases q
   exact⟨ho,(I.hok b _ hd).stay (fun _ _ _ q=>q) (fun d q=>by rw[er (ne d _ q (by intro z; cases z))]; exact q) fun d xs q=>by rw[er (ne d _ q (by intro z; cases z))]; exact q⟩
  ·rw[er z] at q
   exact (I.hok b u q).stay (fun _ _ _ q=>q) (fun d q=>by rw[er (ne d _ q (by intro z; cases z))]; exact q) fun d xs q=>by rw[er (ne d _ q (by intro z; cases z))]; exact q
def EO (td:TE):TI:=fun σ H R=>td σ H fun x H1=>∃ a kvs,x=.ref a∧Rd H1 a (.dK kvs)∧∀ o H2,H2 a=some (.frz o (.dK kvs))→(∀ b,b≠a→H2 b=H1 b)→R (ItK a o kvs) H2
theorem xJ {X:Cx} {tg l:Expr} {tl:TE} (hl:PE X l tl):PI X tg l (EO tl):=by
 intro pins s σ H R I h
 refine thn (hl pins s σ H _ I h) fun v s1 ⟨x,H1,I1,r1,q1⟩=>?_
 obtain⟨a,kvs,e,hq,q⟩:=q1
 subst e
 cases r1
 have fz:∃ o H2,Inv X pins σ H2 s1∧H2 a=some (.frz o (.dK kvs))∧∀ b,b≠a→H2 b=H1 b:=by
  rcases hq with hq | ⟨o,hq⟩
  ·obtain⟨o,ho⟩:=(I1.hok a _ hq).here
   exact⟨o,_,I1.frozen hq ho,cY,fun b hb=>er hb⟩
  ·exact⟨o,H1,I1,hq,fun b _=>rfl⟩
 obtain⟨o,H2,I2,hH,hoth⟩:=fz
 have sa:(a == sysModules)=false:=(I2.hok a _ hH).2.2.1
 obtain⟨vs,es,ep,ed,r,da⟩:=Au (I2.hok a _ hH)
 have len:=KV.len r
 refine wpAny_pyIter_dict sa da ?_
 refine⟨s1.heap.objs.size,[s1.heap.objs.size],_,_,H2,rfl,I2.kept (t':=s1.toks) fun b o e=>Heap.get?_push_of_some _ e,CF a _ o kvs,⟨es,ep,ed,_,Heap.get?_push_size _ rfl,rfl,by rw[len]; rfl⟩,fun b hb=>?_,q o H2 hH hoth⟩
 have e:b=s1.heap.objs.size:=by simpa using hb
 subst e
 exact I2.fpOk (Nat.le_refl _) (I2.hok.fresh (Nat.le_refl _))
theorem C8 {D:Ends} {σ:St} {H:Hp} {g:TG} {tb:TS} {a:Addr} {o:Obj} (kvs:List (Key×V)) (Pv:Nat→St→Hp→Prop) (h0:Pv 0 σ H) (hl:∀ i σ H,i≤kvs.length→Pv i σ H→H a=some (.frz o (.dK kvs)))
  (hs:∀ i k v σ H,kvs[i]?=some (k,v)→Pv i σ H→g (kV k) σ H fun σ2 H2=>tb { D with nx:=Pv (i+1),ct:=Pv (i+1),bk:=D.nx } σ2 H2) (hd:∀ σ H,Pv kvs.length σ H→D.nx σ H):AQ (ItK a o kvs) g tb D σ H:=by
 refine⟨fun i m σ H=>m=kvs.length-i∧i≤kvs.length∧Pv i σ H,⟨_,rfl,Nat.zero_le _,h0⟩,fun i m σ H ⟨hm,hi,p⟩=>?_⟩
 by_cases e:i=kvs.length
 ·subst e
  exact .inl ⟨⟨Nat.le_refl _,hl _ _ _ hi p⟩,hd _ _ p⟩
 ·refine .inr ⟨⟨by omega,hl _ _ _ hi p⟩,Pv (i+1),fun σ' H' p'=>⟨kvs.length-(i+1),by omega,rfl,by omega,p'⟩,fun x H' hy=>?_⟩
  obtain⟨rfl,k,v,hx,rfl⟩:=hy
  exact hs i k v σ H' hx p
end L2
namespace Srt
open PySem PyProof.Rows
structure MS where
 q:List Nat
 pd:List (Nat×Nat×Nat)
 g:Nat
structure SX where
 prog:Program
 w:World
 A:Around
 E:Value→Shared→Prop
 s:Shared
 κ:SortKind
 item:Nat→Keyed
 cmp:Nat→Nat→Bool
 n:Nat
 lt:∀ (i j:Nat),i<n→j<n→∀ (Q:Bool→Shared→Prop) (E':Value→Shared→Prop),Q (cmp i j) s→wpAny (model prog w) A (keyLt' κ (item i).1 (item j).1) Q E' s
def SX.arr (X:SX) (q:List Nat):Array Keyed:=(q.map X.item).toArray
def SX.emb (X:SX) (m:MS):SortSt:=SortSt.mk' X.κ (X.arr m.q) m.pd.toArray m.g none
structure FM (X:SX) {α β:Type} (c:StateT SortSt Sem α) (r:β→α) where
 p:MS→Option (β×MS)
 h:∀ m b m',p m=some (b,m')→∀ Q:α→SortSt→Prop,Q (r b) (X.emb m')→wpS (model X.prog X.w) X.A X.E X.s c Q (X.emb m)
section
variable {X:SX} {α β γ δ:Type}
def FM.mod {f:SortSt→SortSt} (f':MS→MS) (e:∀ m,f (X.emb m)=X.emb (f' m)):FM X (_root_.modify f:StateT SortSt Sem PUnit) (id:PUnit→PUnit) where
 p m:=some (⟨⟩,f' m)
 h m b m' hp Q hq:=by
  obtain⟨rfl,rfl⟩:=Prod.mk.inj (Option.some.inj hp)
  exact wpS_modify (by rw[e]; exact hq)
def Dh (r:β→α):ForInStep β→ForInStep α
 | .done b=>.done (r b)
 | .yield b=>.yield (r b)
def FM.loopP {r:β→α} {f:Nat→α→StateT SortSt Sem (ForInStep α)} (F:∀ i b,FM X (f i (r b)) (Dh r)):List Nat→β→MS→Option (β×MS)
 | [],b,m=>some (b,m)
 | i::l,b,m=>match (F i b).p m with
  | none=>none
  | some (.done b',m')=>some (b',m')
  | some (.yield b',m')=>FM.loopP F l b' m'
theorem FM.loopH {r:β→α} {f:Nat→α→StateT SortSt Sem (ForInStep α)} (F:∀ i b,FM X (f i (r b)) (Dh r)):∀ (l:List Nat) (b:β) (m:MS) (b':β) (m':MS),FM.loopP F l b m=some (b',m')→∀ Q:α→SortSt→Prop,Q (r b') (X.emb m')→wpS (model X.prog X.w) X.A X.E X.s (forIn l (r b) f) Q (X.emb m)
 | [],b,m,b',m',hp,Q,hq=>by
  obtain⟨rfl,rfl⟩:=Prod.mk.inj (Option.some.inj hp)
  rw[List.forIn_nil]; exact wpS_pure hq
 | i::l,b,m,b',m',hp,Q,hq=>by
  rw[List.forIn_cons]
  unfold FM.loopP at hp
  cases hx:(F i b).p m with
  | none=>rw[hx] at hp; exact nomatch hp
  | some y =>
   obtain⟨z,m1⟩:=y
   rw[hx] at hp
   refine wpS_bind ((F i b).h m z m1 hx _ ?_)
   cases z with
   | done b1 =>
    obtain⟨rfl,rfl⟩:=Prod.mk.inj (Option.some.inj hp)
    exact wpS_pure hq
   | yield b1=>exact FM.loopH F l b1 m1 b' m' hp Q hq
def FM.range {r:β→α} {a e:Nat} {a0:α} {f:Nat→α→StateT SortSt Sem (ForInStep α)} (b0:β) (e0:a0=r b0) (F:∀ i b,FM X (f i (r b)) (Dh r)):FM X (forIn [a:e] a0 f) r where
 p m:=FM.loopP F (List.range' a (e-a)) b0 m
 h m b m' hp Q hq:=by
  subst e0
  rw[Std.Legacy.Range.forIn_eq_forIn_range']
  have hsz:([a:e]:Std.Legacy.Range).size=e-a:=by simp [Std.Legacy.Range.size]
  show wpS (model X.prog X.w) X.A X.E X.s (forIn (List.range' a ([a:e]:Std.Legacy.Range).size 1) (r b0) f) Q (X.emb m)
  rw[hsz]
  exact FM.loopH F _ b0 m b m' hp Q hq
theorem FF (q:List Nat) (k:Nat):(X.arr q).push (X.item k)=X.arr (q++[k]):=by
 unfold SX.arr; rw[List.push_toArray,List.map_append]; rfl
theorem HB (p q:List Nat):X.arr p++X.arr q=X.arr (p++q):=by
 unfold SX.arr; rw[List.append_toArray,List.map_append]
theorem Hv (q:List Nat) (i j:Nat):(X.arr q).extract i j=X.arr ((q.drop i).take (j-i)):=by
 unfold SX.arr; rw[List.extract_toArray,List.extract_eq_take_drop,List.map_take,List.map_drop]
theorem HC (q:List Nat):(X.arr q).reverse=X.arr q.reverse:=by
 unfold SX.arr; rw[List.reverse_toArray,List.map_reverse]
abbrev Lr (X:SX) {ρ:Type} (b:Option (List Nat)×List Nat×ρ):Option (Array Keyed)×Array Keyed×ρ:=(b.1.map X.arr,X.arr b.2.1,b.2.2)
abbrev Hr (X:SX) {ρ:Type} (b:Option (List Nat)×Nat×Nat×List Nat×ρ):Option (Array Keyed)×Nat×Nat×Array Keyed×ρ:=(b.1.map X.arr,b.2.1,b.2.2.1,X.arr b.2.2.2.1,b.2.2.2.2)
theorem Hy (x:Nat):#[X.item x]=X.arr [x]:=rfl
local macro_rules | `(tactic| decreasing_trivial)=>`(tactic| ((try simp only [Lr,Hr,FF,Hv,Hy,HC,HB]) <;> with_reducible rfl))
local macro_rules | `(tactic| trivial)=>`(tactic| (repeat' first
 | refine FM.bind (FM.elem _ _) fun _=>?_
 | refine FM.bind (FM.lt _ _) fun _=>?_
 | refine FM.bind (FM.gallop _ _ _ _ _ _) fun _=>?_
 | refine FM.bind FM.rule fun _=>?_
 | refine FM.bind (FM.setG _) fun _=>?_
 | exact FM.doneS _ _ (by decreasing_trivial) (by decreasing_trivial)
 | exact FM.doneN _ (by decreasing_trivial)
 | exact FM.yieldN _ (by decreasing_trivial)
 | refine FM.ite ?_ ?_))
local macro_rules | `(tactic| trivial)=>`(tactic| (repeat' first
 | refine FM.bind (FM.elem _ _) fun _=>?_
 | refine FM.bind (FM.lt _ _) fun _=>?_
 | refine FM.bind (FM.gallop _ _ _ _ _ _) fun _=>?_
 | refine FM.bind FM.rule fun _=>?_
 | refine FM.bind (FM.setG _) fun _=>?_
 | exact FM.doneS' _ _ (by decreasing_trivial) (by decreasing_trivial)
 | exact FM.doneN' _ (by decreasing_trivial)
 | exact FM.yieldN' _ (by decreasing_trivial)
 | refine FM.ite ?_ ?_))
end
end Srt
namespace L2
open PySem PySem.Spec PyProof.Rows
def Gz (K:PySem.W.Frag):V→V→Hp→VK→Prop:=fun o i H Q=>∃ (p:Addr) (xs:List V) (k:Nat) (v:V),o=.ref p∧i=.int k∧SqL K H p xs∧xs[k]?=some v∧Q v H
theorem xH {X:Cx}:Ih X (Gz X.K):=by
 intro pins s σ H o i ov iv Q I ro ri h
 obtain⟨p,xs,k,v,rfl,rfl,hq,hx,q⟩:=h
 cases ro
 obtain⟨t,rfl⟩:=ri
 obtain⟨its,r,pl,hz⟩:=I.list hq
 obtain⟨w,ew,rw'⟩:=r.get hx
 have hl:=r.length
 have hn:=vF
 have hk:k<its.length:=(List.getElem?_eq_some_iff.mp ew).1
 exact wpAny_getItem_list pl.isList (by omega) (by omega) (by simpa using ew) ⟨v,H,I,rw',q⟩
section
variable {X:Cx} {pins:List (Addr×Obj)} {σ:St} {H:Hp} {s:Shared} {a:Addr} {kvs:List (Key×V)} {k:Key} {u r:Value} {A:Around} {E:Value→Shared→Prop}
theorem FZ {x:V} {Q:Value→Shared→Prop} (I:Inv X pins σ H s) (e:H a=some (.dK kvs)) (ry:RelV (kV k) u) (rx:RelV x r) (hz:kvs.length<sizeLine) (h1:∀ v w' s',valV kvs k=some v→Inv X pins σ H s'→RelV v w'→Q w' s')
  (h2:valV kvs k=none→∀ s',Inv X pins σ (upd H a (.dK (putK kvs k x))) s'→Q r s'):wpAny (model X.prog X.w) A (call (.builtin "dict.setdefault") [.ref a,u,r]) Q E s:=by
 obtain⟨z,hd,vs,rel,dd⟩:=Gw I.hok e
 have hl:(putK kvs k x).length≤sizeLine:=by have:=ug kvs k x; omega
 refine call_meetsIn PySem.F.slot_dict_setdefault dd.typeIs PySem.F.entry_dict_setdefault (PySem.F.args_dict_setdefault_3 _ _ _) (kt_meets_setdefault (nj X.prog X.w) a (vY ry) hd r) ⟨vs,dd,by rw[← rel.length]; exact z,fun w' hw=>?_,fun hn h' dd' hs=>?_⟩
 ·cases hv:valV kvs k with
  | none =>
   have:valueAt vs k=none:=RelO.none_of (by rw[← hv]; exact rel.val k)
   rw[this] at hw
   cases hw
  | some v =>
   obtain⟨w2,hw2,rw2⟩:=RelO.some_of (v:=v) (o:=valueAt vs k) (by rw[← hv]; exact rel.val k)
   rw[hw] at hw2
   cases hw2
   exact h1 v _ _ hv (I.tok _) rw2
 ·have hv:valV kvs k=none:=by
   cases hv:valV kvs k with
   | none=>rfl
   | some v =>
    obtain⟨w2,hw2,_⟩:=RelO.some_of (v:=v) (o:=valueAt vs k) (by rw[← hv]; exact rel.val k)
    rw[hn] at hw2
    cases hw2
  have he:∃ q,h'.get? a=some q:=let ⟨q,_,_,hq,_⟩:=dd'; ⟨q,hq⟩
  exact h2 hv _ (yt I (by rw[e]; exact True.intro) hs he (Ag hl hd (rel.put k rx) dd'))
end
def Ar (td ty tx:TE):TE:=fun σ H Q=>td σ H fun x H1=>∃ a,x=.ref a∧IsD H1 a∧ty σ H1 fun y H2=>tx σ H2 fun z H3=>∃ kvs k,H3 a=some (.dK kvs)∧y=kV k∧kvs.length<sizeLine ∧
 (∀ v,valV kvs k=some v→Q v H3)∧(valV kvs k=none→Q z (upd H3 a (.dK (putK kvs k z))))
section
variable {X:Cx} {o e f:Expr} {apos cpos:Pos} {td ty tx:TE}
theorem C5 (ho:PE X o td) (he:PE X e ty) (hf:PE X f tx) (m:M2 X o "setdefault" apos e f cpos):PE X (.Call (.Attribute o "setdefault" apos) [e,f] [] cpos) (Ar td ty tx):=by
 intro pins s σ H Q I h
 refine wpAny_Call_method m.base m.few m.line PySem.F.plainAttrs_dict PySem.F.slot_dict_setdefault PySem.F.type_dict_setdefault (thn (ho pins s σ H _ I h) fun u s1 ⟨x,H1,I1,rx,a,ex,d,q1⟩=>?_)
 subst ex
 obtain rfl:u=Value.ref a:=rx
 obtain⟨t1,t2,_⟩:=DI I1 d
 refine⟨t1,t2,?_⟩
 rw[m.trees]
 refine Calls.callWith_builtin rfl (Calls.evalArgs_plain (Calls.spliced_cons (thn (he pins s1 σ H1 _ I1 q1) fun iv s2 ⟨y,H2,I2,ry,q2⟩ =>
  Calls.spliced_cons (thn (hf pins s2 σ H2 _ I2 q2) fun fv s3 ⟨z,H3,I3,rz,kvs,k,ea,ey,hz,qa,qb⟩=>Calls.spliced_nil ?_))))
 subst ey
 exact FZ I3 ea ry rz hz (fun v w' s4 hv I4 rw'=>⟨v,H3,I4,rw',qa v hv⟩) fun hn s4 I4=>⟨z,_,I4,rz,qb hn⟩
end
end L2
namespace PySem
open Sem (wp)
open PyProof.Rows
namespace SortD
section
variable {prog:Program} {w:World} {A:Around} {E:Value→Shared→Prop} {s:Shared} {K:Type} [DecidableEq K] {knd:KeyKind prog w K}
theorem sort_intsB {B:Addr} {vs:List Value} {ns:List Int} {n:Nat} {Q:Value→Shared→Prop} (hB:s.heap.get? B=some (seqObj "list" vs.toArray n)) (hS:IntsAre vs ns) (hn:vs.length<64)
  (h:∀ out ns',IntsAre out.toList ns'→ns'.Perm ns→ns'.Pairwise (·≤·)→Q .none { s with heap:=sortedHeap s.heap B vs out }):wpAny (model prog w) A (call (.builtin "list.sort") [.ref B]) Q E s:=by
 refine wpAny_call (codeAny_call_builtin F.slot_list_sort.plain entry_list_sort (F.slot_list_sort.check _ _ _ _ _ _ _ _ ⟨_,hB,rfl⟩ (args_list_sort _) ?_))
 exact list_sort_tree hB hS hn fun out ns' h1 h2 h3=>h _ _ h1 h2 h3
theorem intsAre_of:∀ {vs:List Value} {ns:List Int},vs.length=ns.length→(∀ (i:Nat) (v:Value) (x:Int),vs[i]?=some v→ns[i]?=some x→∃ t,v=.int x t)→IntsAre vs ns
 | [],[],_,_=>.nil
 | v::vs,x::ns,hl,h=>by
  obtain⟨t,rfl⟩:=h 0 v x rfl rfl
  exact .cons x t (intsAre_of (by simpa using hl) fun i v x h1 h2=>h (i+1) v x (by simpa using h1) (by simpa using h2))
 | [],_::_,h,_=>by simp at h
 | _::_,[],h,_=>by simp at h
theorem call_sorted_dictI {d:Addr} {kvs:List (K×Value)} {ns:List Int} {Q:Value→Shared→Prop} (hh:A.handled=none) (hs:(d == sysModules)=false) (hD:s.heap.DictOf knd d kvs) (hl:ns.length=kvs.length) (hn:kvs.length<64)
  (hk:∀ (i:Nat) (k:K) (v x:Value) (y:Int),kvs[i]?=some (k,x)→ns[i]?=some y→knd.is k v=true→∃ t,v=.int y t)
  (h:∀ (h1 h':Heap) (tk:Nat) (out:Array Value) (e:Nat) (ns':List Int),(∀ b o,s.heap.get? b=some o→h1.get? b=some o)→(∀ b o,h1.get? b=some o→h'.get? b=some o)→h'.get? h1.objs.size=some (seqObj "list" out e)→IntsAre out.toList ns'→ns'.Perm ns→ns'.Pairwise (·≤·)→Q (.ref h1.objs.size) { s with heap:=h',toks:=tk }) :
  wpAny (model prog w) A (call (.builtin "sorted") [.ref d]) Q E s:=by
 obtain⟨o,es,ep,g1,x1,e1,k1,p1,nd⟩:=hD
 refine wpAny_call (codeAny_call_builtin plain_sorted entry_sorted (check_sorted ?_))
 unfold Builtin.sorted
 refine wpAny_bind (wpAny_of_eq (a:=()) rfl ?_)
 refine wpAny_bind (W.kdu_collect (W.kdl_dict (knd:=knd) (kvs:=kvs) (ep:=ep) hs) hh ⟨o,es,g1,x1,e1,k1,p1,nd⟩ (Nat.le_trans (Nat.le_of_lt hn) (by decide)) fun h1 tk1 acc kp hacc=>?_)
 obtain⟨za,ha⟩:=hacc
 have la:acc.toList.length=ns.length:=by rw[Array.length_toList,za,hl]
 have hS:IntsAre acc.toList ns:=intsAre_of la fun i v y h1 h2=>by
  rw[Array.getElem?_toList] at h1
  obtain⟨k,x,e2,e3⟩:=ha i v h1
  exact hk i k v x y e2 h2 e3
 refine wpAny_bind (wpAny_newList (hsz:=Nat.le_trans (m:=64) (by rw[la]; omega) (by decide)) ?_)
 have hB:(h1.push { cls:=Value.type "list",data:=Data.seq acc.toList.toArray }).get? h1.objs.size=some (seqObj "list" acc.toList.toArray 0):=Heap.get?_push_size _ rfl
 refine wpAny_bind (wpAny_holding (sort_intsB (B:=h1.objs.size) hB hS (by rw[la]; omega) fun out ns' s1 s2 s3=>wpAny_pure ?_))
 obtain⟨e,he⟩:=sortedHeap_at (out:=out) hB
 refine h h1 _ _ out e ns' kp (fun b o hb1=>?_) he s1 s2 s3
 have lb:=Heap.lt_size hb1
 rw[sortedHeap_old (Nat.ne_of_lt lb) (by rw[Heap.size_push]; exact Nat.lt_succ_of_lt lb)]
 exact Heap.get?_push_of_some _ hb1
end
end SortD
end PySem
namespace L2
open PySem PySem.Spec PyProof.Rows
theorem AL:∀ {xs:List V} {its:List Value},its.length=xs.length→(∀ (j:Nat) (v:Value),its[j]?=some v→∃ x,xs[j]?=some x∧RelV x v)→Vals xs its
 | [],[],_,_=>.nil
 | x::xs,v::its,hl,h=>by
  obtain⟨x',e,r⟩:=h 0 v rfl
  cases e
  exact .cons r (AL (by simpa using hl) fun j u hu=>by simpa using h (j+1) u (by simpa using hu))
 | [],_::_,hl,_=>by simp at hl
 | _::_,[],hl,_=>by simp at hl
section
variable {X:Cx}
theorem BR (hc:X.calm=true):rQ X (.type "list") (fun xs H Q=>∃ (a:Addr) (kvs:List (Key×V)),xs=[.ref a]∧Rd H a (.dK kvs)∧∀ l,H l=none→Q (.ref l) (upd H l (.lst (kvs.map fun kv=>kV kv.1)))):=by
 intro pins s σ H xs us Q I r h
 obtain⟨a,kvs,rfl,hd,q⟩:=h
 obtain⟨u,rfl,rx⟩:=vals1 r
 cases rx
 obtain⟨z,sa,vs,rel,dd⟩:=vp I.hok hd
 obtain⟨ep,hat⟩:=dd.dictAt
 have len:=KV.len rel
 refine PySem.W.kdl_call (PySem.W.kdl_dict (knd:=nj X.prog X.w) (kvs:=vs) (ep:=ep) sa) (I.ok.hd hc) hat (by omega) fun h' tk acc c hk hS hacc=>?_
 refine⟨.ref _,_,I.laid (o:=.lst (kvs.map fun kv=>kV kv.1)) hk (Nat.le_refl _) ⟨by rw[List.length_map]; exact z,acc.toList,c,AL (by rw[Array.length_toList,hacc.1,List.length_map]; omega) (fun j v hv=>?_),hS⟩,rfl,q _ (I.hok.fresh (Nat.le_refl _))⟩
 obtain⟨k,x,hx,hkey⟩:=hacc.2 j v (by rw[← Array.getElem?_toList]; exact hv)
 obtain⟨y,hy,_⟩:=KV.at rel hx
 exact⟨kV k,by rw[List.getElem?_map,hy]; rfl,yS hkey⟩
end
section
variable {X:Cx}
theorem BH {ns:List Int} (h:0<ns.length):ns.getD (argBest (fun i j=>decide (ns.getD i 0<ns.getD j 0)) (ns.length-1)) 0∈ns∧(∀ a∈ns,ns.getD (argBest (fun i j=>decide (ns.getD i 0<ns.getD j 0)) (ns.length-1)) 0≤a)∧argBest (fun i j=>decide (ns.getD i 0<ns.getD j 0)) (ns.length-1)<ns.length:=by
 obtain⟨h1,h2⟩:=argBest_lt (fun i=>ns.getD i 0) (ns.length-1)
 have hb:argBest (fun i j=>decide (ns.getD i 0<ns.getD j 0)) (ns.length-1)<ns.length:=by
  have:argBest (fun i j=>decide (ns.getD i 0<ns.getD j 0)) (ns.length-1)≤ns.length-1:=h1
  omega
 refine⟨?_,fun a ha=>?_,hb⟩
 ·generalize argBest _ _=k at hb
  have e:ns.getD k 0=ns[k]:=by simp [List.getD,hb]
  rw[e]
  exact List.getElem_mem hb
 ·obtain⟨j,hj,rfl⟩:=List.getElem_of_mem ha
  have:=h2 j (by omega)
  have e:ns.getD j 0=ns[j]:=by simp [List.getD,hj]
  rw[← e]
  exact this
theorem EH (hc:X.calm=true):rQ X (.builtin "min") (fun xs H Q=>∃ (p:Addr) (ns:List Int),xs=[.ref p]∧SqL X.K H p (ns.map V.int)∧0<ns.length∧∀ m,m∈ns→(∀ a∈ns,m≤a)→Q (.int m) H):=by
 intro pins s σ H xs us Q I r h
 obtain⟨p,ns,rfl,hq,hn,q⟩:=h
 obtain⟨u,rfl,rx⟩:=vals1 r
 cases rx
 obtain⟨b1,b2,b3⟩:=BH hn
 obtain⟨its,r',pl,hz⟩:=I.list hq
 have hl:=pl.isList
 have hlt:p<s.heap.objs.size:=by obtain⟨_,e,_⟩:=hl; exact Heap.lt_size e
 have len:=r'.length
 rw[List.length_map] at len
 refine call_min_walk (wpAny_pyIter_list hl ⟨_,_,_,_,_,_,(fun i j=>decide (ns.getD i 0<ns.getD j 0)),rfl,Walks.list (A:=X.A.in1) (I.ok.hd hc) s.heap.objs.size p (Nat.ne_of_lt hlt) its.toArray,⟨⟨_,Heap.get?_push_size _ rfl,rfl,rfl⟩,hl.push _⟩,?_,?_,?_,?_⟩)
 ·intro b hb
  show b<(s.heap.push _).objs.size
  rw[Heap.size_push]
  rcases List.mem_cons.mp hb with rfl | hb
  ·exact Nat.lt_succ_self _
  ·rcases List.mem_cons.mp hb with rfl | hb
   ·exact Nat.lt_succ_of_lt hlt
   ·cases hb
 ·rw[List.size_toArray,← len]
  exact hn
 ·refine CmpOf.ints_lt (fun i=>ns.getD i 0) fun i v hP=>?_
  have hP':its[i]?=some v:=by simpa using hP
  obtain⟨hi,e⟩:=List.getElem?_eq_some_iff.mp hP'
  rw[← e]
  exact w6 r' hi
 ·intro v h' tk hP hk
  have hP':its[argBest (fun i j=>decide (ns.getD i 0<ns.getD j 0)) (ns.length-1)]?=some v:=by
   rw[List.size_toArray,← len] at hP
   simpa using hP
  obtain⟨hi,e⟩:=List.getElem?_eq_some_iff.mp hP'
  obtain⟨t,e2⟩:=w6 r' hi
  exact⟨.int _,H,I.kept (old_kept hk),⟨t,by rw[← e,e2]⟩,q _ b1 b2⟩
end
theorem xj {D a:Addr} {o:Obj} {g:TG} {tt:TT} {te:TE} {Q:VK} {τ:St} {H:Hp} (kvs:List (Key×V)) (Pv:Nat→St→Hp→Prop) (h0:Pv 0 τ H) (hl:∀ i τ H,i≤kvs.length→Pv i τ H→H a=some (.frz o (.dK kvs)))
  (hs:∀ i k v τ H (R:St→Hp→Prop),kvs[i]?=some (k,v)→Pv i τ H→(∀ τ' H',Pv (i+1) τ' H'→R τ' H')→t9 D g tt te (kV k) τ H R) (hd:∀ τ H,Pv kvs.length τ H→Q (.ref D) H):uL D (ItK a o kvs) g tt te Q τ H:=by
 refine⟨fun i m τ H=>m=kvs.length-i∧i≤kvs.length∧Pv i τ H,⟨kvs.length,by simp,Nat.zero_le _,h0⟩,?_⟩
 rintro i m τ H2 ⟨rfl,hi,p⟩
 by_cases e:i=kvs.length
 ·subst e
  exact .inl ⟨⟨Nat.le_refl _,hl _ _ _ hi p⟩,hd _ _ p⟩
 ·refine .inr ⟨⟨by omega,hl _ _ _ hi p⟩,fun x H' hy=>?_⟩
  obtain⟨rfl,k,v,hx,rfl⟩:=hy
  exact hs i k v τ _ (fun τ' H'=>∃ m',m'<kvs.length-i∧m'=kvs.length-(i+1)∧i+1≤kvs.length∧Pv (i+1) τ' H') hx p fun τ' H' p'=>⟨_,by omega,rfl,by omega,p'⟩
theorem vS:∀ {vs:List Value} {ns:List Int},IntsAre vs ns→Vals (ns.map V.int) vs
 | _,_,.nil=>.nil
 | _,_,.cons y t h=>.cons ⟨t,rfl⟩ (vS h)
section
variable {X:Cx}
theorem zw (hc:X.calm=true):rQ X (.builtin "sorted") (fun xs H Q=>∃ (a:Addr) (kvs:List (Key×V)) (ns:List Int),xs=[.ref a]∧Rd H a (.dK kvs)∧kvs.map (·.1)=ns.map (Sum.inl:Int→Key)∧ns.length<64∧∀ (l:Addr) (ns':List Int),H l=none→ns'.Perm ns→ns'.Pairwise (·≤·)→Q (.ref l) (upd H l (.lst (ns'.map V.int)))):=by
 intro pins s σ H xs us Q I r h
 obtain⟨a,kvs,ns,rfl,hd,hk,hn,q⟩:=h
 obtain⟨u,rfl,rx⟩:=vals1 r
 cases rx
 obtain⟨_,sa,vs,rel,dd⟩:=vp I.hok hd
 have ek:=rel.keys
 have l1:ns.length=vs.length:=by
  have:=congrArg List.length (hk.symm.trans ek)
  simpa using this
 refine PySem.SortD.call_sorted_dictI (knd:=nj X.prog X.w) (ns:=ns) (I.ok.hd hc) sa dd l1 (by omega) (fun i k v x y h1 h2 h3=>?_) fun h1 h' tk out e ns' kp kp2 he hS hp hs=>?_
 ·have:(vs.map (·.1))[i]?=some (Sum.inl y:Key):=by rw[← ek,hk,List.getElem?_map,h2]; rfl
  rw[List.getElem?_map,h1] at this
  injection this with this
  have hk2:k=.inl y:=this
  subst hk2
  exact (yS (k:=.inl y) (u:=v) h3:RelV (kV (.inl y)) v)
 ·have I1:Inv X pins σ H { s with heap:=h1,toks:=tk }:=I.kept kp
  have len:ns'.length≤sizeLine:=Nat.le_trans (m:=64) (by rw[hp.length_eq]; omega) (by decide)
  exact⟨.ref h1.objs.size,_,I1.laid (t':=tk) (o:=.lst (ns'.map V.int)) kp2 (Nat.le_refl _) ⟨by rw[List.length_map]; exact len,out.toList,e,vS hS,by simpa using he⟩,rfl,q _ _ (I1.hok.fresh (Nat.le_refl _)) hp hs⟩
end
theorem DW (its:List Value):slicePick its.toArray none none (some (-1))=its.reverse.toArray:=by
 unfold slicePick
 rw[← HT.pick_turn its]
 congr 1
 simp only [sliceBounds,Option.getD_some,show ¬ ((-1:Int) > 0) by decide,if_false]
 unfold sliceRange
 simp only [show ¬ ((-1:Int) > 0) by decide,if_false]
 rw[List.filterMap_map]
 have e:(if ((its.toArray.size:Nat):Int)-1 > -1 then (((its.toArray.size:Nat):Int)-1 - -1 - -1-1) / (- -1) else 0).toNat=its.length:=by
  have e1:(-(-1):Int)=1:=by decide
  rw[e1,Int.ediv_one,List.size_toArray]
  split <;> omega
 rw[e]
 refine congrArg (fun f=>List.filterMap f (List.range its.length)) ?_
 funext k
 show its.toArray[(((its.toArray.size:Nat):Int)-1 + -1 * (k:Int)).toNat]?=_
 rw[List.size_toArray,Int.mul_comm]
def Er (K:PySem.W.Frag):V→Hp→VK→Prop:=fun x H Q=>∃ a xs,x=.ref a∧SqL K H a xs∧∀ p,H p=none→Q (.ref p) (upd H p (.lst xs.reverse))
def AA (K:PySem.W.Frag) (te:TE) (ts:TO):TE:=fun σ H Q=>te σ H fun x H1=>ts σ H1 fun o H2=>o=some (-1)∧Er K x H2 Q
theorem AX {X:Cx} {e st:Expr} {te:TE} {ts:TO} {pos p2:Pos} (he:PE X e te) (hs:PO X (some st) ts):PE X (.Subscript e (.Slice none none (some st) p2) pos) (AA X.K te ts):=by
 intro pins s σ H Q I h
 refine Subscript_ (thn (he pins s σ H _ I h) fun v s1 ⟨x,H1,I1,r1,q1⟩=>?_)
 refine wpAny_Slice ?_
 rw[evalPart_none]
 refine wpAny_pure ?_
 refine wpAny_pure ?_
 refine thn (hs pins s1 σ H1 _ I1 q1) fun vs s3 ⟨o,H3,I3,po,q3⟩=>?_
 obtain⟨rfl,a,xs,rfl,hx,q⟩:=q3
 cases r1
 have I4:Inv X pins σ H3 { s3 with heap:=s3.heap.push { cls:=.type "slice",data:=.fields #[.none,.none,vs] } }:=I3.kept (t':=s3.toks) fun b ob q=>Heap.get?_push_of_some _ q
 obtain⟨its,r,ht,hz⟩:=I4.list hx
 have hlen:=r.length
 show wpAny (model X.prog X.w) X.A (subscriptTail e (.Slice none none (some st) p2) (.ref a) (.ref s3.heap.objs.size)) (EP X pins σ Q) X.xe { s3 with heap:=s3.heap.push { cls:=.type "slice",data:=.fields #[.none,.none,vs] } }
 refine tail_any (ops:=[.ref a,.ref s3.heap.objs.size]) ht.isList.typeIs slot_list_getitem.lookup ?_ (by with_unfolding_all rfl)
 refine wpAny_getItem_list_slice ht.isList (Heap.IsSliceOf.new ..) .none .none po (by decide) ?_ (by rw[List.size_toArray]; omega)
 rw[DW]
 refine⟨.ref _,_,I4.laid (t':=s3.toks) (o:=.lst xs.reverse) (fun b ob q=>Heap.get?_push_of_some _ q) (Nat.le_refl _) ?_,rfl,q _ (I4.hok.fresh (Nat.le_refl _))⟩
 exact⟨by rw[List.length_reverse]; exact hz,_,0,r.reverse,Heap.get?_push_size _ rfl⟩
abbrev rP (h:Heap) (T:Addr) (a b c:Value):Prop:=h.get? T=some { cls:=.type "tuple",data:=.seq #[a,b,c] }
structure Apart3 (z TI TO i1 i2 i3:Addr) (f1 f2 f3:List Addr):Prop where
 zTI:z≠TI
 zTO:z≠TO
 TITO:TI≠TO
 TI1:TI≠i1
 TI2:TI≠i2
 TI3:TI≠i3
 m1:i1∈f1
 m2:i2∈f2
 m3:i3∈f3
 z1:z ∉ f1
 z2:z ∉ f2
 z3:z ∉ f3
 t1:TO ∉ f1
 t2:TO ∉ f2
 t3:TO ∉ f3
 i12:i1 ∉ f2
 i13:i1 ∉ f3
 i21:i2 ∉ f1
 i23:i2 ∉ f3
 i31:i3 ∉ f1
 i32:i3 ∉ f2
section
variable {prog:Program} {w:World} {A:Around} {E:Value→Shared→Prop} {s:Shared} {z TI TO i1 i2 i3:Addr} {f1 f2 f3:List Addr} {n1 n2 n3 k:Nat} {P1 P2 P3:Nat→Value→Prop} {S1 S2 S3:Nat→Heap→Prop}
theorem yC {T:Addr} {a b c x:Value} {k:Nat} {Q:Unit→Shared→Prop} (hT:rP s.heap T a b c) (h:∀ h',h'.get? T=some { cls:=.type "tuple",data:=.seq ((#[a,b,c]:Array Value).setIfInBounds k x) }→Heap.SameBut T s.heap h'→Q () { s with heap:=h' }) :
  wpAny (model prog w) A (updateSeq T (·.setIfInBounds k x)) Q E s:=by
 refine wpAny_updateSeq hT rfl (h _ ?_ (Heap.SameBut.update ..))
 rw[Heap.get?_update_self _ hT rfl]
 simp [Obj.mapSeq]
theorem DN {a b c:Value} {Q:Value→Shared→Prop} (D1:Draws prog w A i1 f1 n1 P1 S1) (D2:Draws prog w A i2 f2 n2 P2 S2) (D3:Draws prog w A i3 f3 n3 P3 S3) (ap:Apart3 z TI TO i1 i2 i3 f1 f2 f3)
  (hz:IsZip s.heap z TI TO .none) (hTI:rP s.heap TI (.ref i1) (.ref i2) (.ref i3)) (hTO:rP s.heap TO a b c) (st1:S1 k s.heap) (st2:S2 k s.heap) (st3:S3 k s.heap) (h1:k<n1) (h2:k<n2) (h3:k<n3)
  (hQ:∀ h' tk x y v,P1 k x→P2 k y→P3 k v→IsZip h' z TI TO (rawInt s.heap.objs.size)→rP h' TO x y v→S1 (k+1) h'→S2 (k+1) h'→S3 (k+1) h'→rP h' s.heap.objs.size x y v →
   (∀ c o,c≠z→c≠TO→c≠i1→c≠i2→c≠i3→s.heap.get? c=some o→h'.get? c=some o)→Q (.ref s.heap.objs.size) { s with heap:=h',toks:=tk }) :
  wpAny (model prog w) A (Builtin.«zip.__next__» ⟨[.ref z],[]⟩) (fun fin s'=>∃ v,fin=.done (.ret v)∧Q v s') E s:=by
 show wpAny _ _ (field (.ref z) 2 >>= _) _ _ _
 refine wpAny_bind (wpAny_field hz rfl (x:=.bool false) rfl ?_)
 show wpAny _ _ (field (.ref z) 3 >>= _) _ _ _
 refine wpAny_bind (wpAny_field hz rfl (x:=.ref TI) rfl ?_)
 refine wpAny_bind (wpAny_seqItems hTI rfl ?_)
 show wpAny _ _ (Builtin.SmallTypes.ownedTupleIsFree (.ref z) >>= _) _ _ _
 refine wpAny_bind ?_
 unfold Builtin.SmallTypes.ownedTupleIsFree
 refine wpAny_bind (wpAny_field hz rfl (x:=.none) rfl (wpAny_pure ?_))
 simp only [if_true]
 refine wpAny_bind (wpAny_rule (wpAny_bind (wpAny_field hz rfl (x:=.ref TO) rfl (wpAny_bind (wpAny_setField_rec hz (by simp) fun g1 hz1 s1=>?_)))))
 replace hz1:IsZip g1 z TI TO .ellipsis:=hz1
 refine wpAny_bind ?_
 simp only [List.zipIdx_cons,List.zipIdx_nil,List.forIn_cons,List.forIn_nil]
 have nTO1:TO≠i1:=(kT ap.m1 ap.t1).symm
 have nTO2:TO≠i2:=(kT ap.m2 ap.t2).symm
 have nTO3:TO≠i3:=(kT ap.m3 ap.t3).symm
 have nz1:z≠i1:=(kT ap.m1 ap.z1).symm
 have nz2:z≠i2:=(kT ap.m2 ap.z2).symm
 have nz3:z≠i3:=(kT ap.m3 ap.z3).symm
 refine wpAny_bind (wpAny_bind (wpAny_onRaise ?_))
 show wpAny _ _ (Builtin.SmallTypes.nextOf (.ref i1) >>= _) _ _ _
 refine wpAny_bind (D1.item k _ _ _ h1 (gI D1 st1 s1.extBut ap.z1) fun x g2 tk2 px st1' s2=>wpAny_pure ?_)
 have hTO2:rP g2 TO a b c:=s2.extBut _ _ nTO1 (s1.extBut _ _ ap.zTO.symm hTO)
 refine wpAny_bind (wpAny_seqItems hTO2 rfl (wpAny_bind (yC hTO2 fun g3 hTO3 s3=>wpAny_bind (wpAny_letGo (wpAny_pure ?_)))))
 replace hTO3:rP g3 TO x b c:=hTO3
 refine wpAny_bind (wpAny_bind (wpAny_onRaise ?_))
 show wpAny _ _ (Builtin.SmallTypes.nextOf (.ref i2) >>= _) _ _ _
 refine wpAny_bind (D2.item k _ _ _ h2 (gI D2 (gI D2 (gI D2 st2 s1.extBut ap.z2) s2.extBut ap.i12) s3.extBut ap.t2) fun y g4 tk4 py st2' s4=>wpAny_pure ?_)
 have hTO4:rP g4 TO x b c:=s4.extBut _ _ nTO2 hTO3
 refine wpAny_bind (wpAny_seqItems hTO4 rfl (wpAny_bind (yC hTO4 fun g5 hTO5 s5=>wpAny_bind (wpAny_letGo (wpAny_pure ?_)))))
 replace hTO5:rP g5 TO x y c:=hTO5
 refine wpAny_bind (wpAny_bind (wpAny_onRaise ?_))
 show wpAny _ _ (Builtin.SmallTypes.nextOf (.ref i3) >>= _) _ _ _
 refine wpAny_bind (D3.item k _ _ _ h3 (gI D3 (gI D3 (gI D3 (gI D3 (gI D3 st3 s1.extBut ap.z3) s2.extBut ap.i13) s3.extBut ap.t3) s4.extBut ap.i23) s5.extBut ap.t3) fun v g6 tk6 pv st3' s6=>wpAny_pure ?_)
 have hTO6:rP g6 TO x y c:=s6.extBut _ _ nTO3 hTO5
 refine wpAny_bind (wpAny_seqItems hTO6 rfl (wpAny_bind (yC hTO6 fun g7 hTO7 s7=>wpAny_bind (wpAny_letGo (wpAny_pure (wpAny_pure ?_))))))
 replace hTO7:rP g7 TO x y v:=hTO7
 refine wpAny_bind (wpAny_seqItems hTO7 rfl (wpAny_bind (wpAny_newTuple ?_)))
 have hsz:g7.objs.size=s.heap.objs.size:=by rw[s7.1,s6.1,s5.1,s4.1,s3.1,s2.1,s1.1]
 have hz7:IsZip g7 z TI TO .ellipsis:=s7.extBut _ _ ap.zTO (s6.extBut _ _ nz3 (s5.extBut _ _ ap.zTO (s4.extBut _ _ nz2 (s3.extBut _ _ ap.zTO (s2.extBut _ _ nz1 hz1)))))
 have k7:∀ c o,c≠z→c≠TO→c≠i1→c≠i2→c≠i3→s.heap.get? c=some o→g7.get? c=some o:=fun c o c1 c2 c3 c4 c5 e =>
  s7.extBut _ _ c2 (s6.extBut _ _ c5 (s5.extBut _ _ c2 (s4.extBut _ _ c4 (s3.extBut _ _ c2 (s2.extBut _ _ c3 (s1.extBut _ _ c1 e))))))
 have u1:S1 (k+1) g7:=gI D1 (gI D1 (gI D1 (gI D1 (gI D1 st1' s3.extBut ap.t1) s4.extBut ap.i21) s5.extBut ap.t1) s6.extBut ap.i31) s7.extBut ap.t1
 have u2:S2 (k+1) g7:=gI D2 (gI D2 (gI D2 st2' s5.extBut ap.t2) s6.extBut ap.i32) s7.extBut ap.t2
 have u3:S3 (k+1) g7:=gI D3 st3' s7.extBut ap.t3
 have zlt:z<g7.objs.size:=Heap.lt_size hz7
 show wpAny _ _ (Builtin.SmallTypes.ownedTupleHandOut (.ref z) (.ref g7.objs.size) >>= _) _ _ _
 refine wpAny_bind ?_
 unfold Builtin.SmallTypes.ownedTupleHandOut
 have hz8:IsZip (g7.push { cls:=.type "tuple",data:=.seq #[x,y,v] }) z TI TO .ellipsis:=Heap.get?_push_of_some _ hz7
 refine wpAny_bind (wpAny_setField_rec hz8 (by simp) fun g9 hz9 s9=>?_)
 replace hz9:IsZip g9 z TI TO (rawInt g7.objs.size):=hz9
 refine wpAny_setField_rec hz9 (by simp) fun gA hzA sA=>?_
 replace hzA:IsZip gA z TI TO (rawInt g7.objs.size):=hzA
 have up:∀ c o,c≠z→g7.get? c=some o→gA.get? c=some o:=fun c o c1 e=>sA.extBut _ _ c1 (s9.extBut _ _ c1 (Heap.get?_push_of_some _ e))
 have hTA:rP gA g7.objs.size x y v:=sA.extBut _ _ (Nat.ne_of_gt zlt) (s9.extBut _ _ (Nat.ne_of_gt zlt) (Heap.get?_push_size _ rfl))
 rw[hsz] at hzA hTA
 refine wpAny_pure ⟨_,rfl,?_⟩
 show Q (.ref g7.objs.size) _
 rw[hsz]
 exact hQ gA tk6 x y v px py pv hzA (up _ _ ap.zTO.symm hTO7) (D1.frame _ _ _ u1 fun b hb o q=>up b o (fun x=>ap.z1 (x ▸ hb)) q) (D2.frame _ _ _ u2 fun b hb o q=>up b o (fun x=>ap.z2 (x ▸ hb)) q) (D3.frame _ _ _ u3 fun b hb o q=>up b o (fun x=>ap.z3 (x ▸ hb)) q) hTA fun c o c1 c2 c3 c4 c5 e=>up c o c1 (k7 c o c1 c2 c3 c4 c5 e)
theorem FU {a b c:Value} {Q:Fin→Shared→Prop} (D1:Draws prog w A i1 f1 n1 P1 S1) (ap:Apart3 z TI TO i1 i2 i3 f1 f2 f3)
  (hz:IsZip s.heap z TI TO .none) (hTI:rP s.heap TI (.ref i1) (.ref i2) (.ref i3)) (hTO:rP s.heap TO a b c) (st1:S1 k s.heap) (hk:k=n1)
  (hE:∀ h' tk e,(∀ c o,c≠z→c≠TO→c≠i1→c≠i2→c≠i3→s.heap.get? c=some o→h'.get? c=some o)→(∃ o,h'.get? e=some o∧o.cls=.type "StopIteration")→E (.ref e) { s with heap:=h',toks:=tk }) :
  wpAny (model prog w) A (Builtin.«zip.__next__» ⟨[.ref z],[]⟩) Q E s:=by
 show wpAny _ _ (field (.ref z) 2 >>= _) _ _ _
 refine wpAny_bind (wpAny_field hz rfl (x:=.bool false) rfl ?_)
 show wpAny _ _ (field (.ref z) 3 >>= _) _ _ _
 refine wpAny_bind (wpAny_field hz rfl (x:=.ref TI) rfl ?_)
 refine wpAny_bind (wpAny_seqItems hTI rfl ?_)
 show wpAny _ _ (Builtin.SmallTypes.ownedTupleIsFree (.ref z) >>= _) _ _ _
 refine wpAny_bind ?_
 unfold Builtin.SmallTypes.ownedTupleIsFree
 refine wpAny_bind (wpAny_field hz rfl (x:=.none) rfl (wpAny_pure ?_))
 simp only [if_true]
 refine wpAny_bind (wpAny_rule (wpAny_bind (wpAny_field hz rfl (x:=.ref TO) rfl (wpAny_bind (wpAny_setField_rec hz (by simp) fun g1 hz1 s1=>?_)))))
 replace hz1:IsZip g1 z TI TO .ellipsis:=hz1
 refine wpAny_bind ?_
 simp only [List.zipIdx_cons,List.zipIdx_nil,List.forIn_cons,List.forIn_nil]
 refine wpAny_bind (wpAny_bind (wpAny_onRaise ?_))
 show wpAny _ _ (Builtin.SmallTypes.nextOf (.ref i1) >>= _) _ _ _
 have nz1:z≠i1:=(kT ap.m1 ap.z1).symm
 subst hk
 refine wpAny_bind (D1.done _ _ _ (gI D1 st1 s1.extBut ap.z1) fun g2 e s2 he=>?_)
 obtain⟨oe,hoe,hce⟩:=he
 have hz2:IsZip g2 z TI TO .ellipsis:=s2 _ _ nz1 hz1
 have hez:e≠z:=fun x=>by subst x; rw[hz2] at hoe; cases hoe; simp at hce
 exact wpAny_setField_rec hz2 (by simp) fun g3 _ s3=>hE g3 _ e (fun c o c1 _ c3 _ _ x=>s3.extBut _ _ c1 (s2 _ _ c3 (s1.extBut _ _ c1 x))) ⟨oe,s3.extBut _ _ hez hoe,hce⟩
abbrev zqA (h:Heap) (l:Addr):Heap:=h.push { cls:=.type "list_iterator",data:=.fields #[.ref l,.int 0 0] }
abbrev zqD (h:Heap) (l1 l2 l3:Addr):Heap:=(zqA (zqA (zqA h l1) l2) l3).push { cls:=.type "tuple",data:=.seq #[.ref h.objs.size,.ref (zqA h l1).objs.size,.ref (zqA (zqA h l1) l2).objs.size] }
abbrev zqE (h:Heap) (l1 l2 l3:Addr):Heap:=(zqD h l1 l2 l3).push { cls:=.type "tuple",data:=.seq #[.none,.none,.none] }
abbrev zqF (h:Heap) (l1 l2 l3:Addr):Heap:=(zqE h l1 l2 l3).push { cls:=.type "zip",data:=.fields #[.none,.bool false,.bool false,.ref (zqA (zqA (zqA h l1) l2) l3).objs.size,.ref (zqD h l1 l2 l3).objs.size] }
def B3 (h:Heap) (l1 l2 l3:Addr) (h':Heap):Prop:=IsZip h' (h.objs.size+5) (h.objs.size+3) (h.objs.size+4) .none∧rP h' (h.objs.size+3) (.ref h.objs.size) (.ref (h.objs.size+1)) (.ref (h.objs.size+2))∧rP h' (h.objs.size+4) .none .none .none ∧
 h'.IsListIter h.objs.size l1 0∧h'.IsListIter (h.objs.size+1) l2 0∧h'.IsListIter (h.objs.size+2) l3 0∧∀ c o,h.get? c=some o→h'.get? c=some o
theorem Gd (h:Heap) (l1 l2 l3:Addr):(zqE h l1 l2 l3).objs.size=h.objs.size+5∧B3 h l1 l2 l3 (zqF h l1 l2 l3):=by
 have a:(zqA h l1).objs.size=h.objs.size+1:=Heap.size_push ..
 have b:(zqA (zqA h l1) l2).objs.size=h.objs.size+2:=by rw[Heap.size_push,a]
 have c:(zqA (zqA (zqA h l1) l2) l3).objs.size=h.objs.size+3:=by rw[Heap.size_push,b]
 have d:(zqD h l1 l2 l3).objs.size=h.objs.size+4:=by rw[Heap.size_push,c]
 have e:(zqE h l1 l2 l3).objs.size=h.objs.size+5:=by rw[Heap.size_push,d]
 have p6:(zqF h l1 l2 l3).get? (zqE h l1 l2 l3).objs.size=some _:=Heap.get?_push_size _ rfl
 have p5:(zqF h l1 l2 l3).get? (zqD h l1 l2 l3).objs.size=some _:=Heap.get?_push_of_some _ (Heap.get?_push_size _ rfl)
 have p4:(zqF h l1 l2 l3).get? (zqA (zqA (zqA h l1) l2) l3).objs.size=some _:=Heap.get?_push_of_some _ (Heap.get?_push_of_some _ (Heap.get?_push_size _ rfl))
 have p3:(zqF h l1 l2 l3).get? (zqA (zqA h l1) l2).objs.size=some _:=Heap.get?_push_of_some _ (Heap.get?_push_of_some _ (Heap.get?_push_of_some _ (Heap.get?_push_size _ rfl)))
 have p2:(zqF h l1 l2 l3).get? (zqA h l1).objs.size=some _:=Heap.get?_push_of_some _ (Heap.get?_push_of_some _ (Heap.get?_push_of_some _ (Heap.get?_push_of_some _ (Heap.get?_push_size _ rfl))))
 have p1:(zqF h l1 l2 l3).get? h.objs.size=some _:=Heap.get?_push_of_some _ (Heap.get?_push_of_some _ (Heap.get?_push_of_some _ (Heap.get?_push_of_some _ (Heap.get?_push_of_some _ (Heap.get?_push_size _ rfl)))))
 rw[c,d,e] at p6
 rw[d] at p5
 rw[a,b,c] at p4
 rw[b] at p3
 rw[a] at p2
 exact⟨e,p6,p4,p5,⟨_,p1,rfl,rfl⟩,⟨_,p2,rfl,rfl⟩,⟨_,p3,rfl,rfl⟩,fun c o x=>Heap.get?_push_of_some _ (Heap.get?_push_of_some _ (Heap.get?_push_of_some _ (Heap.get?_push_of_some _ (Heap.get?_push_of_some _ (Heap.get?_push_of_some _ x)))))⟩
theorem zC (l1 l2 l3:Addr) (xs ys zs:Array Value) :
  Meets (Builtin.«zip.__new__» ⟨[.type "zip",.ref l1,.ref l2,.ref l3],[]⟩) (fun _ R s=>s.heap.IsList l1 xs∧s.heap.IsList l2 ys∧s.heap.IsList l3 zs∧R (.ok (.ret (.ref (zqE s.heap l1 l2 l3).objs.size))) { s with heap:=zqF s.heap l1 l2 l3 }) :=
 .of_wp fun prog w A R s h=>by
  obtain⟨hp,g,d,tk,os⟩:=s
  obtain⟨hl1,hl2,hl3,h⟩:=h
  have hsub:=sub_zip
  have hL1:Heap.IsList (Shared.heap ⟨hp,g,d,tk,os⟩) l1 xs:=hl1
  have hL2:Heap.IsList (Shared.heap ⟨zqA hp l1,g,d,tk,os⟩) l2 ys:=by
   obtain⟨o,ho,q⟩:=hl2
   exact⟨o,Heap.get?_push_of_some _ ho,q⟩
  have hL3:Heap.IsList (Shared.heap ⟨zqA (zqA hp l1) l2,g,d,tk,os⟩) l3 zs:=by
   obtain⟨o,ho,q⟩:=hl3
   exact⟨o,Heap.get?_push_of_some _ (Heap.get?_push_of_some _ ho),q⟩
  wp_walk using wpAny_pyIter_list hL1,wpAny_pyIter_list hL2,wpAny_pyIter_list hL3
  exact⟨_,rfl,h⟩
theorem yE (a b c:Value):checkTypeCall "zip" ⟨[a,b,c],[]⟩=pure ():=by kernel_rfl
theorem zz (a b c:Value):checkBuiltinCall "zip.__new__" ⟨[.type "zip",a,b,c],[]⟩=pure ():=by kernel_rfl
theorem A0 (a b c d:Value):argsOk "object.__init__" ⟨[a,b,c,d],[]⟩:=by
 unfold argsOk
 rw[signature?_of (id:="object.__init__") (n:=['_','_','t','i','n','i','_','_']) (o:=['t','c','e','j','b','o']) (by kernel_rfl) F.owner_object]
 kernel_rfl
theorem zU {l1 l2 l3:Addr} {xs ys zs:Array Value} {Q:Value→Shared→Prop} (hl1:s.heap.IsList l1 xs) (hl2:s.heap.IsList l2 ys) (hl3:s.heap.IsList l3 zs) (h:∀ h',B3 s.heap l1 l2 l3 h'→Q (.ref (s.heap.objs.size+5)) { s with heap:=h' }) :
  wpAny (model prog w) A (call (.type "zip") [.ref l1,.ref l2,.ref l3]) Q E s:=by
 obtain⟨e,N⟩:=Gd s.heap l1 l2 l3
 refine callType_new F.called_zip (by decide) (yE _ _ _) (zz _ _ _) (fun obj=>A0 obj _ _ _) F.entry_zip_new (zC l1 l2 l3 xs ys zs) ⟨hl1,hl2,hl3,?_⟩
 show _∧_
 rw[e]
 exact⟨⟨_,N.1,rfl⟩,h _ N⟩
end
theorem HS {P:Program} {w:World} {H:Hp} {h:Heap} {T:Addr} {a b c:V} {u v x:Value} {n:Nat} (ra:RelV a u) (rb:RelV b v) (rc:RelV c x) (e:h.get? T=some { cls:=.type "tuple",data:=.seq #[u,v,x] n }):ObjOk P w H h T (.tup [a,b,c]) :=
 ⟨show 3≤sizeLine by decide,[u,v,x],.cons ra (.cons rb (.cons rc .nil)),⟨_,e,rfl,_,rfl⟩,_,e,rfl⟩
def It3 (K:PySem.W.Frag) (a b c:Addr):It:=⟨fun i H=>∃ xs ys zs x y v,SqL K H a xs∧SqL K H b ys∧SqL K H c zs∧xs[i]?=some x∧ys[i]?=some y∧zs[i]?=some v,
 fun i H x H'=>∃ T u v t,H T=none∧x=.ref T∧H'=upd H T (.tup [u,v,t])∧(∀ xs,SqL K H a xs→xs[i]?=some u)∧(∀ ys,SqL K H b ys→ys[i]?=some v)∧∀ zs,SqL K H c zs→zs[i]?=some t,
 fun i H=>∃ xs,SqL K H a xs∧xs.length=i⟩
theorem DF {P:Program} {w:World} {K:PySem.W.Frag} {elts:List Expr} {kk:Nat} {pos:Pos} (a b c z TI TO i1 i2 i3:Addr) (ap:Apart3 z TI TO i1 i2 i3 [i1,a] [i2,b] [i3,c]) (ha:a≠i1) (hb:b≠i2) (hc3:c≠i3) :
  Turn P w K (.Tuple elts kk pos) (It3 K a b c) [z,TI,TO,i1,i2,i3] z (fun i h=>IsZip h z TI TO .none∧rP h TI (.ref i1) (.ref i2) (.ref i3)∧(∃ u v t,rP h TO u v t)∧h.IsListIter i1 a i∧h.IsListIter i2 b i∧h.IsListIter i3 c i) where
 mem:=by simp
 obj:=fun i h st d hd=>by
  obtain⟨hz,hTI,⟨u,v,t,hTO⟩,⟨o1,e1,_,d1⟩,⟨o2,e2,_,d2⟩,⟨o3,e3,_,d3⟩⟩:=st
  simp only [List.mem_cons,List.not_mem_nil,or_false] at hd
  rcases hd with rfl | rfl | rfl | rfl | rfl | rfl
  ·exact⟨_,hz,fun v z=>by cases z⟩
  ·exact⟨_,hTI,fun v z=>by cases z⟩
  ·exact⟨_,hTO,fun v z=>by cases z⟩
  ·exact⟨_,e1,fun v z=>by rw[d1] at z; cases z⟩
  ·exact⟨_,e2,fun v z=>by rw[d2] at z; cases z⟩
  ·exact⟨_,e3,fun v z=>by rw[d3] at z; cases z⟩
 keep:=fun i h h' st k=>by
  obtain⟨hz,hTI,⟨u,v,t,hTO⟩,h1,h2,h3⟩:=st
  exact⟨k _ (by simp) _ hz,k _ (by simp) _ hTI,⟨u,v,t,k _ (by simp) _ hTO⟩,h1.at fun o q=>k i1 (by simp) o q,h2.at fun o q=>k i2 (by simp) o q,h3.at fun o q=>k i3 (by simp) o q⟩
 item:=by
  intro X hP hw hK hc i pins s σ H E I hf st hg
  subst hP hw hK
  obtain⟨xs,ys,zs,x,y,v0,hq1,hq2,hq3,hx,hy,hv0⟩:=hg
  obtain⟨hz,hTI,⟨u,v,t,hTO⟩,h1,h2,h3⟩:=st
  obtain⟨t1,r1,p1,z1⟩:=I.list hq1
  obtain⟨t2,r2,p2,z2⟩:=I.list hq2
  obtain⟨t3,r3,p3,z3⟩:=I.list hq3
  obtain⟨u1,hu1,ru1⟩:=r1.get hx
  obtain⟨u2,hu2,ru2⟩:=r2.get hy
  obtain⟨u3,hu3,ru3⟩:=r3.get hv0
  have e1:t1.toArray[i]?=some u1:=by simpa using hu1
  have e2:t2.toArray[i]?=some u2:=by simpa using hu2
  have e3:t3.toArray[i]?=some u3:=by simpa using hu3
  have D1:=Draws.list (prog:=X.prog) (w:=X.w) (A:=X.A.in1) (show X.A.in1.handled=none from I.ok.hd hc) i1 a ha t1.toArray
  have D2:=Draws.list (prog:=X.prog) (w:=X.w) (A:=X.A.in1) (show X.A.in1.handled=none from I.ok.hd hc) i2 b hb t2.toArray
  have D3:=Draws.list (prog:=X.prog) (w:=X.w) (A:=X.A.in1) (show X.A.in1.handled=none from I.ok.hd hc) i3 c hc3 t3.toArray
  have hT:s.TypeIs (.ref z) "zip":=⟨_,hz,rfl⟩
  have lt:∀ {c:Addr} {o:Obj},s.heap.get? c=some o→c≠s.heap.objs.size:=fun e=>Nat.ne_of_lt (Heap.lt_size e)
  unfold pyNext
  refine wpAny_bind (wpAny_attempt (wpAny_callSpecial?_slot (name:=Str.ofString "__next__") hT F.slot_zip_next
   (wpAny_call_entry F.slot_zip_next hT F.entry_zip_next (DN D1 D2 D3 ap hz hTI hTO ⟨h1,p1.isList⟩ ⟨h2,p2.isList⟩ ⟨h3,p3.isList⟩ (Array.getElem?_eq_some_iff.mp e1).1 (Array.getElem?_eq_some_iff.mp e2).1 (Array.getElem?_eq_some_iff.mp e3).1
    fun h' tk x' y' v' px py pv a1 a2 s1 s2 s3 a5 hk=>wpAny_pure ⟨_,rfl,?_⟩) (F.args_zip_next_1 _))))
  rw[e1] at px
  cases px
  rw[e2] at py
  cases py
  rw[e3] at pv
  cases pv
  refine wpAny_letOwnedTupleGo_zip a1 fun g2 hz2 hs2=>?_
  have hT2:g2.get? s.heap.objs.size=some { cls:=.type "tuple",data:=.seq #[u1,u2,u3] }:=(hs2.2 _ (lt hz).symm).trans a5
  have hf':H s.heap.objs.size=none:=I.hok.fresh (Nat.le_refl _)
  have nzTI:=ap.zTI
  have nzTO:=ap.zTO
  have nz1:z≠i1:=(kT ap.m1 ap.z1).symm
  have nz2:z≠i2:=(kT ap.m2 ap.z2).symm
  have nz3:z≠i3:=(kT ap.m3 ap.z3).symm
  refine⟨.ref s.heap.objs.size,upd H s.heap.objs.size (.tup [x,y,v0]),?_,rfl,⟨_,x,y,v0,hf',rfl,rfl,fun ys hy=>by rw[I.list_inj hy hq1]; exact hx,fun ys hy'=>by rw[I.list_inj hy' hq2]; exact hy,fun ys hy'=>by rw[I.list_inj hy' hq3]; exact hv0⟩,
   ⟨hz2,hs2.extBut _ _ nzTI.symm (hk _ _ nzTI.symm ap.TITO ap.TI1 ap.TI2 ap.TI3 hTI),⟨_,_,_,hs2.extBut _ _ nzTO.symm a2⟩,s1.1.at fun o q=>hs2.extBut _ _ nz1.symm q,s2.1.at fun o q=>hs2.extBut _ _ nz2.symm q,s3.1.at fun o q=>hs2.extBut _ _ nz3.symm q⟩,fun d hd=>?_⟩
  ·exact I.drew (ch:=[z,TI,TO,i1,i2,i3]) (tk:=tk) hf (fun c o hc q=>hs2.extBut _ _ (fun e=>hc (by simp [e])) (hk c o (fun e=>hc (by simp [e])) (fun e=>hc (by simp [e])) (fun e=>hc (by simp [e])) (fun e=>hc (by simp [e])) (fun e=>hc (by simp [e])) q)) (Nat.le_refl _) (HS ru1 ru2 ru3 hT2)
  ·have hn:d≠s.heap.objs.size:=by
    obtain⟨o1,g1,_⟩:=h1
    obtain⟨o2,g2,_⟩:=h2
    obtain⟨o3,g3,_⟩:=h3
    simp only [List.mem_cons,List.not_mem_nil,or_false] at hd
    rcases hd with rfl | rfl | rfl | rfl | rfl | rfl
    ·exact lt hz
    ·exact lt hTI
    ·exact lt hTO
    ·exact lt g1
    ·exact lt g2
    ·exact lt g3
   rw[er hn]
   exact (hf d hd).1
 done:=by
  intro X hP hw hK hc i pins s σ H E I hf st hg
  subst hP hw hK
  obtain⟨xs,hq1,hi⟩:=hg
  obtain⟨hz,hTI,⟨u,v,t,hTO⟩,h1,h2,h3⟩:=st
  obtain⟨t1,r1,p1,z1⟩:=I.list hq1
  have l1:=r1.length
  have D1:=Draws.list (prog:=X.prog) (w:=X.w) (A:=X.A.in1) (show X.A.in1.handled=none from I.ok.hd hc) i1 a ha t1.toArray
  have hT:s.TypeIs (.ref z) "zip":=⟨_,hz,rfl⟩
  unfold pyNext
  refine wpAny_bind (wpAny_attempt (wpAny_callSpecial?_slot (name:=Str.ofString "__next__") hT F.slot_zip_next
   (wpAny_call_entry F.slot_zip_next hT F.entry_zip_next (FU D1 ap hz hTI hTO ⟨h1,p1.isList⟩ (by rw[List.size_toArray]; omega) fun h' tk e hk he=>?_) (F.args_zip_next_1 _))))
  obtain⟨o,ho,hc'⟩:=he
  refine wpAny_bind (wpAny_isInstance (T:="StopIteration") (b:=true) ⟨o,ho,hc'⟩ isSubtype_stop ?_)
  exact wpAny_pure ⟨rfl,I.turns (ch:=[z,TI,TO,i1,i2,i3]) (tk:=tk) hf fun c o hc q=>hk c o (fun e=>hc (by simp [e])) (fun e=>hc (by simp [e])) (fun e=>hc (by simp [e])) (fun e=>hc (by simp [e])) (fun e=>hc (by simp [e])) q⟩
 self:=fun A i s Q E st h=>wpAny_pyIter_zip st.1 h
theorem CI (n a b c:Nat) (ha:a<n) (hb:b<n) (hc:c<n):Apart3 (n+5) (n+3) (n+4) n (n+1) (n+2) [n,a] [n+1,b] [n+2,c]:=by
 constructor <;> first | simp only [List.mem_cons,List.not_mem_nil,or_false,true_or,not_or] | skip
 all_goals first | (exact trivial) | (intro h; have h':(_:Nat)=_:=h; omega) | (constructor <;> (intro h; have h':(_:Nat)=_:=h; omega))
def GT (K:PySem.W.Frag) (ta:TA):TI:=fun σ H R=>ta σ H fun vs H1=>∃ a b c,vs=[.ref a,.ref b,.ref c]∧(∃ xs,SqL K H1 a xs)∧(∃ ys,SqL K H1 b ys)∧(∃ zs,SqL K H1 c zs)∧R (It3 K a b c) H1
theorem G3 {X:Cx} {elts:List Expr} {kk:Nat} {tpos:Pos} {a b c:Expr} {ta:TA} {p pos:Pos} (hg:Gl X "zip") (hm:X.mg "zip"=none) (ha:PA X [a,b,c] ta) (hs:starEach [a,b,c] X.env=(false,eval a X.env)::starEach [b,c] X.env:=by rfl) (hs2:(backTo pos (starEach [b,c] X.env)).any (·.1)=false:=by rfl) :
  PI X (.Tuple elts kk tpos) (.Call (.Name "zip" p) [a,b,c] [] pos) (GT X.K ta):=by
 intro pins s σ H R I h
 refine Call_ (tX I hg hm GI (PyProof.Rows.callWith_type1 (thn (ha pos pins s σ H _ I h) fun us s1 ⟨vs,H1,I1,r1,q1⟩=>?_) hs hs2))
 obtain⟨l1,l2,l3,e,⟨xs,hq1⟩,⟨ys,hq2⟩,⟨zs,hq3⟩,q⟩:=q1
 subst e
 cases r1 with
 | cons r rr =>
  cases rr with
  | cons r' rr =>
   cases rr with
   | cons r'' rr =>
    cases rr
    cases r
    cases r'
    cases r''
    obtain⟨t1,v1,p1,z1⟩:=I1.list hq1
    obtain⟨t2,v2,p2,z2⟩:=I1.list hq2
    obtain⟨t3,v3,p3,z3⟩:=I1.list hq3
    have lt1:l1<s1.heap.objs.size:=by obtain⟨o,ho,_⟩:=p1.isList; exact Heap.lt_size ho
    have lt2:l2<s1.heap.objs.size:=by obtain⟨o,ho,_⟩:=p2.isList; exact Heap.lt_size ho
    have lt3:l3<s1.heap.objs.size:=by obtain⟨o,ho,_⟩:=p3.isList; exact Heap.lt_size ho
    refine zU p1.isList p2.isList p3.isList fun h' N=>?_
    obtain⟨hz,hTI,hTO,h1,h2,h3,hk⟩:=N
    refine wpAny_pyIter_zip hz ?_
    refine⟨_,[s1.heap.objs.size+5,s1.heap.objs.size+3,s1.heap.objs.size+4,s1.heap.objs.size,s1.heap.objs.size+1,s1.heap.objs.size+2],_,_,H1,rfl,I1.kept (t':=s1.toks) hk,
     DF l1 l2 l3 _ _ _ _ _ _ (CI _ _ _ _ lt1 lt2 lt3) (Nat.ne_of_lt lt1) (Nat.ne_of_lt (Nat.lt_succ_of_lt lt2)) (Nat.ne_of_lt (Nat.lt_succ_of_lt (Nat.lt_succ_of_lt lt3))),⟨hz,hTI,⟨_,_,_,hTO⟩,h1,h2,h3⟩,fun d hd=>?_,q⟩
    have le:s1.heap.objs.size≤d:=by
     simp only [List.mem_cons,List.not_mem_nil,or_false] at hd
     rcases hd with rfl | rfl | rfl | rfl | rfl | rfl
     ·exact Nat.le_add_right _ _
     ·exact Nat.le_add_right _ _
     ·exact Nat.le_add_right _ _
     ·exact Nat.le_refl _
     ·exact Nat.le_add_right _ _
     ·exact Nat.le_add_right _ _
    exact I1.fpOk le (I1.hok.fresh le)
theorem Do {K:PySem.W.Frag} {D a b c:Addr} {g:TG} {tt:TT} {te:TE} {Q:VK} {τ:St} {H:Hp} (xs ys zs:List V) (len:xs.length=ys.length) (len3:xs.length=zs.length) (Pv:Nat→St→Hp→Prop) (h0:Pv 0 τ H)
  (hl:∀ i τ H,i≤xs.length→Pv i τ H→SqL K H a xs∧SqL K H b ys∧SqL K H c zs)
  (hs:∀ i x y v T τ H (R:St→Hp→Prop),xs[i]?=some x→ys[i]?=some y→zs[i]?=some v→Pv i τ H→H T=none→(∀ τ' H',Pv (i+1) τ' H'→R τ' H')→t9 D g tt te (.ref T) τ (upd H T (.tup [x,y,v])) R) (hd:∀ τ H,Pv xs.length τ H→Q (.ref D) H):uL D (It3 K a b c) g tt te Q τ H:=by
 refine⟨fun i m τ H=>m=xs.length-i∧i≤xs.length∧Pv i τ H,⟨xs.length,by simp,Nat.zero_le _,h0⟩,?_⟩
 rintro i m τ H2 ⟨rfl,hi,p⟩
 obtain⟨q1,q2,q3⟩:=hl i τ H2 hi p
 by_cases hlt:i<xs.length
 ·have hx:xs[i]?=some xs[i]:=by simp [hlt]
  have hlt2:i<ys.length:=by omega
  have hy:ys[i]?=some ys[i]:=by simp [hlt2]
  have hlt3:i<zs.length:=by omega
  have hv:zs[i]?=some zs[i]:=by simp [hlt3]
  refine .inr ⟨⟨xs,ys,zs,_,_,_,q1,q2,q3,hx,hy,hv⟩,fun x H' y=>?_⟩
  obtain⟨T,u,v,t,hT,e1,e2,y1,y2,y3⟩:=y
  subst e1 e2
  exact hs i _ _ _ T τ _ (fun τ' H'=>∃ m',m'<xs.length-i∧m'=xs.length-(i+1)∧i+1≤xs.length∧Pv (i+1) τ' H') (y1 xs q1) (y2 ys q2) (y3 zs q3) p hT fun τ' H' p'=>⟨_,by omega,rfl,hlt,p'⟩
 ·have e:i=xs.length:=by omega
  subst e
  exact .inl ⟨⟨xs,q1,rfl⟩,hd τ H2 p⟩
def zZ (ta:TA):TE:=fun σ H Q=>ta σ H fun vs H1=>∃ n:Nat,vs=[.int (n:Int)]∧n≤1000∧∀ l,H1 l=none→Q (.ref l) (upd H1 l (.lst ((List.range n).map fun j:Nat=>V.int (j:Int))))
theorem C9 {X:Cx} {e:Expr} {t:TA} {p1 p2 pos1 pos2:Pos} (hc:X.calm=true) (hg1:Gl X "list") (hm1:X.mg "list"=none) (hg2:Gl X "range") (hm2:X.mg "range"=none) (ha:PA X [e] t)
  (hst:starEach [e] X.env=(false,eval e X.env)::starEach [] X.env) (hst2:starEach [.Call (.Name "range" p2) [e] [] pos2] X.env=(false,eval (.Call (.Name "range" p2) [e] [] pos2) X.env)::starEach [] X.env)
  (pl:∀ pos,(backTo pos (starEach [] X.env)).any (·.1)=false):PE X (.Call (.Name "list" p1) [.Call (.Name "range" p2) [e] [] pos2] [] pos1) (zZ t):=by
 intro pins s σ H Q I h
 refine wpAny_Call_Name_kw (tX I hg1 hm1 tM ?_)
 refine PyProof.Rows.callWith_type1 ?_ hst2 (pl _)
 rw[hst2]
 show wpAny _ _ (spliced ((false,eval (.Call (.Name "range" p2) [e] [] pos2) X.env)::backTo pos1 (starEach [] X.env))) _ _ s
 refine Calls.spliced_cons ?_
 refine wpAny_Call_Name_kw (tX I hg2 hm2 boot_range ?_)
 refine PyProof.Rows.callWith_type1 (thn (ha pos2 pins s σ H _ I h) fun us s1 ⟨vs,H1,I1,r1,n,e1,hn,q⟩=>?_) hst (pl _)
 subst e1
 obtain⟨u,rfl,rx⟩:=vals1 r1
 obtain⟨tk,rfl⟩:=rx
 refine call_range_1 (Calls.spliced_nil ?_)
 have I2:Inv X pins σ H1 { s1 with heap:=s1.heap.push { cls:=.type "range",data:=.fields #[.int 0 s1.toks,.int (n:Int) tk,.int 1 (s1.toks+1)] },toks:=s1.toks+1+1 }:=I1.kept fun b o e=>Heap.get?_push_of_some _ e
 refine call_list_range (n:=n) (I2.ok.hd hc) (IsRange.new ..) (small_one (by decide) (by decide) (by omega) (by omega)) (by rw[rangeSize_one]; split <;> omega) (Nat.le_trans hn (by decide)) fun h' tk' acc c hk hS hI=>?_
 have hf:=I2.hok.fresh (Nat.le_refl _)
 refine⟨.ref _,_,I2.laid (t':=tk') (o:=.lst ((List.range n).map fun j:Nat=>V.int (j:Int))) hk (Nat.le_refl _) ⟨?_,acc.toList,c,?_,by simpa using hS⟩,rfl,q _ hf⟩
 ·rw[List.length_map,List.length_range]
  exact Nat.le_trans hn (by decide)
 ·refine AL (by rw[Array.length_toList,hI.1,List.length_map,List.length_range]) fun j v hv=>?_
  have hj:j<n:=by
   have:=(List.getElem?_eq_some_iff.mp hv).1
   rw[Array.length_toList,hI.1] at this
   exact this
  obtain⟨t,et⟩:=hI.2 j v (by rw[← Array.getElem?_toList]; exact hv)
  refine⟨.int (j:Int),by rw[List.getElem?_map,List.getElem?_range hj]; rfl,t,?_⟩
  rw[et]
  congr 1
  omega
theorem uZ {X:Cx} {K:PySem.W.Frag} (h:X.K=K):OpR X (compareOp .In) (rIn K false):=by subst h; exact EG
end L2
namespace PySem
open Sem (wp)
namespace SetO
def ks (m:Nat):List Nat:=(List.range 6).filter fun k=>m.testBit k
def big (m:Nat):Bool:=decide (5≤(ks m).length)
def tb (m:Nat) (b led:Bool):SetTable:=⟨if b then 31 else 7,(ks m).toArray,#[],0,led,if b then 1 else 0,true⟩
def tbl (m:Nat) (led:Bool):SetTable:=tb m (big m) led
def pos (m k:Nat):Nat:=((ks m).takeWhile fun j=>decide (j<k)).length
def wi (m k:Nat):Nat:=m ||| 2 ^ k
theorem GY:∀ led:Bool,SetTable.fresh 0 0 led=tbl 0 led:=by decide +kernel
theorem Js:∀ m<64,∀ k:Nat,k<6→m.testBit k=false→∀ led:Bool,(tbl m led).freeSlot (k:Int)=some (k,false):=by decide +kernel
theorem JL:∀ m<64,∀ k<6,m.testBit k=false→∀ led:Bool,(tbl m led).put k=(tb (wi m k) (big m) led,pos m k):=by decide +kernel
theorem J8:∀ m<64,∀ k<6,m.testBit k=false→ks (wi m k)=(ks m).take (pos m k)++k::(ks m).drop (pos m k):=by decide +kernel
theorem IJ:∀ m<64,∀ k<6,m.testBit k=false→∀ led:Bool,(tb (wi m k) (big m) led).fits ((ks m).length+1)=true:=by decide +kernel
theorem C2:∀ m<64,∀ led:Bool,(tbl m led).fits (ks m).length=true:=by decide +kernel
theorem IP:∀ m<64,∀ k<6,m.testBit k=false→∀ led:Bool,(tb (wi m k) (big m) led).tooFull=(!big m && big (wi m k)):=by decide +kernel
theorem Ia:∀ m<64,∀ k<6,m.testBit k=false→(!big m && big (wi m k))=false→∀ led:Bool,tb (wi m k) (big m) led=tbl (wi m k) led:=by decide +kernel
set_option synthInstance.maxSize 2000 in
set_option synthInstance.maxHeartbeats 200000 in
theorem E8:∀ m<64,∀ k<6,m.testBit k=false→(!big m && big (wi m k))=true→∀ led:Bool,(tb (wi m k) (big m) led).relaid ((ks (wi m k)).map Int.ofNat).toArray (SetTable.grown (ks (wi m k)).length)=some (tbl (wi m k) led,(List.range (ks (wi m k)).length).toArray):=by decide +kernel
theorem Dr:∀ m<64,∀ k<6,wi m k<64:=by decide +kernel
theorem JY:∀ m<64,∀ k<6,m.testBit k=true→wi m k=m:=by decide +kernel
theorem GB:∀ m<64,∀ k<6,m.testBit k=true→k∈ks m:=by decide +kernel
theorem HX:∀ m<64,∀ i<7,i≤(ks m).length→SetTable.below (ks m).toArray (if i=0 then 0 else (ks m).getD (i-1) 0+1)=i:=by decide +kernel
theorem IU:∀ m<64,∀ k<6,∀ j<6,(wi m k).testBit j=(m.testBit j || decide (j=k)):=by decide +kernel
theorem f_len:∀ m<64,(ks m).length≤6:=by decide +kernel
theorem Eb:∀ k:Nat,k<6→hashInt (k:Int)=(k:Int):=by decide +kernel
theorem f_6:∀ m<64,∀ k∈ks m,k<6:=by decide +kernel
theorem f_nodup:∀ m<64,(ks m).Pairwise (· < ·):=by decide +kernel
end SetO
end PySem
namespace PySem
open Sem (wp)
namespace SetO
def Es (es:Array (Int×Value)) (l:List Nat):Prop:=es.toList.map (·.1)=l.map Int.ofNat∧∀ e∈es.toList,∃ t,e.2=.int e.1 t
def At (h:Heap) (a:Addr) (m:Nat) (led:Bool):Prop:=m<64∧∃ o es ep,h.get? a=some o∧o.ExactSet∧o.data=.set es ep (tbl m led)∧Es es (ks m)
theorem Es.size {es:Array (Int×Value)} {l:List Nat} (h:Es es l):es.size=l.length:=by
 have:=congrArg List.length h.1
 simpa using this
theorem Es.fsts {es:Array (Int×Value)} {l:List Nat} (h:Es es l):es.map (·.1)=(l.map Int.ofNat).toArray:=by
 rw[← h.1]
 cases es
 simp
theorem Es.elems {prog:Program} {w:World} {es:Array (Int×Value)} {l:List Nat} (h:Es es l) (h6:∀ k∈l,k<6):ElemsOf (intKind prog w) es.toList:=by
 intro e he
 obtain⟨t,et⟩:=h.2 e he
 have:e.1∈es.toList.map (·.1):=List.mem_map_of_mem he
 rw[h.1] at this
 obtain⟨k,hk,ek⟩:=List.mem_map.mp this
 refine⟨⟨e.1,?_,?_⟩,?_⟩
 ·rw[et]; simp [intKind,Value.isInt]
 ·rw[← ek]
  exact (Eb k (h6 k hk)).symm
 ·rw[et]; rfl
theorem Ec {m k:Nat} {led:Bool} {es:Array (Int×Value)} {x:Value} (hm:m<64) (hk:k<6) (hb:m.testBit k=false) (he:Es es (ks m)) :
  layNew (tbl m led) es (k:Int) x=(SetTable.insertAt es (pos m k) ((k:Int),x),tb (wi m k) (big m) led,false,false):=by
 have sz:(SetTable.insertAt es (pos m k) ((k:Int),x)).size=(ks m).length+1:=by
  have:=congrArg List.length (SetTable.toList_insertAt es (pos m k) ((k:Int),x))
  rw[Array.length_toList] at this
  rw[this,List.length_append,List.length_cons,List.length_take,List.length_drop,Array.length_toList,he.size]
  omega
 have ft:=IJ m hm k hk hb led
 unfold layNew
 rw[Js m hm k hk hb led]
 simp only [JL m hm k hk hb led,sz,SetTable.orStandIn,ft,if_true,Bool.not_true]
theorem Es.lay {m k:Nat} {es:Array (Int×Value)} {t:Nat} (hm:m<64) (hk:k<6) (hb:m.testBit k=false) (he:Es es (ks m)):Es (SetTable.insertAt es (pos m k) ((k:Int),.int (k:Int) t)) (ks (wi m k)):=by
 refine⟨?_,fun e h=>?_⟩
 ·rw[SetTable.toList_insertAt,List.map_append,List.map_cons,List.map_take,List.map_drop,he.1,J8 m hm k hk hb,List.map_append,List.map_cons,List.map_take,List.map_drop]
  rfl
 ·rw[SetTable.toList_insertAt] at h
  rcases List.mem_append.mp h with h | h
  ·exact he.2 e (List.mem_of_mem_take h)
  ·rcases List.mem_cons.mp h with rfl | h
   ·exact⟨t,rfl⟩
   ·exact he.2 e (List.mem_of_mem_drop h)
theorem FN {m k:Nat} {led:Bool} {es:Array (Int×Value)} (hm:m<64) (hk:k<6) (hb:m.testBit k=false) (hg:(!big m && big (wi m k))=true) (he:Es es (ks (wi m k))) :
  relayAll (tb (wi m k) (big m) led) es (SetTable.grown es.size)=(es,tbl (wi m k) led,false):=by
 unfold relayAll
 rw[he.fsts,he.size,E8 m hm k hk hb hg led]
 have e1:(List.range (ks (wi m k)).length).toArray.filterMap (es[·]?)=es:=by
  apply Array.toList_inj.mp
  rw[Array.toList_filterMap,← he.size]
  exact filterMap_getElem?_range es
 have c1:coversAll (List.range (ks (wi m k)).length).toArray (ks (wi m k)).length=true:=by
  unfold coversAll
  exact List.isPerm_iff.mpr (List.Perm.refl _)
 dsimp only
 rw[e1,c1,he.size,C2 (wi m k) (Dr m hm k hk) led]
 rfl
theorem At.stay {h h':Heap} {a:Addr} {m:Nat} {led:Bool} (x:At h a m led) (e:∀ o,h.get? a=some o→h'.get? a=some o):At h' a m led:=by
 obtain⟨hm,o,es,ep,ho,r⟩:=x
 exact⟨hm,o,es,ep,e o ho,r⟩
theorem DV {h:Heap} {a:Addr} {o:Obj} {es:Array (Int×Value)} {ep:Nat} {t:SetTable} (ho:h.get? a=some o) (hd:o.data=.set es ep t) (es':Array (Int×Value)) (t':SetTable) :
  (h.update a (Obj.putSet es' t')).get? a=some { o with data:=.set es' (ep+1) t' }:=by
 have:=Heap.get?_update_self (Obj.putSet es' t') ho (by rw[putSet_of es' t' hd]; rfl)
 rwa [putSet_of es' t' hd] at this
section
variable {prog:Program} {w:World} {A:Around} {E:Value→Shared→Prop} {s:Shared}
theorem add {a:Addr} {m k t:Nat} {led:Bool} {Q:Bool→Shared→Prop} (hk:k<6) (hS:At s.heap a m led) (h:∀ h' r,Heap.SameBut a s.heap h'→At h' a (wi m k) led→Q r { s with heap:=h' }) :
  wpAny (model prog w) A (setAddHashed a (.int (k:Int) t) (hashInt (k:Int))) Q E s:=by
 obtain⟨hm,o,es,ep,ho,hex,hd,he⟩:=id hS
 have hel:ElemsOf (intKind prog w) es.toList:=he.elems (f_6 m hm)
 have hz:=he.size
 have hl6:=f_len m hm
 have hf:(tbl m led).fits es.size=true:=by rw[hz]; exact C2 m hm led
 have hsb:es.size<scanBound:=Nat.lt_of_le_of_lt (m:=6) (by omega) (by decide)
 have hkey:(intKind prog w).is (k:Int) (.int (k:Int) t)=true:=by simp [intKind,Value.isInt]
 unfold setAddHashed setAddHashedIn
 refine wpAny_holding (s:=s) (wpAny_bind (wpAny_setState_of (s:=s) ho hd hf ?_))
 dsimp only
 rw[byScan_of (knd:=intKind prog w) (x:=.int (k:Int) t) rfl hsb hel,if_pos rfl]
 unfold setAddByScan
 refine wpAny_bind (wpAny_bind (wpAny_rule (s:=s) ?_))
 refine wpAny_bind (wpAny_setScan_of (knd:=intKind prog w) (k:=(k:Int)) hkey ho hd hf hel ?_)
 cases hb:m.testBit k with
 | true =>
  have hmem:(k:Int)∈es.toList.map (·.1):=by rw[he.1]; exact List.mem_map.mpr ⟨k,GB m hm k hk hb,rfl⟩
  obtain⟨e,hee,ek⟩:=List.mem_map.mp hmem
  obtain⟨t',et⟩:=he.2 e hee
  cases hr:List.findIdx? (fun e=>(intKind prog w).is (k:Int) e.2) es.toList with
  | none =>
   have:=List.findIdx?_eq_none_iff.mp hr e hee
   rw[et,ek] at this
   simp [intKind,Value.isInt] at this
  | some j =>
   dsimp only
   refine wpAny_pure (wpAny_pure ?_)
   have:=h s.heap false (Heap.SameBut.refl a s.heap)
   rw[JY m hm k hk hb] at this
   exact this hS
 | false =>
  have hno:List.findIdx? (fun e=>(intKind prog w).is (k:Int) e.2) es.toList=none:=by
   refine List.findIdx?_eq_none_iff.mpr fun e hee=>?_
   obtain⟨t',et⟩:=he.2 e hee
   have hm1:e.1∈es.toList.map (·.1):=List.mem_map_of_mem hee
   rw[he.1] at hm1
   obtain⟨j,hj,ej⟩:=List.mem_map.mp hm1
   have hjb:m.testBit j=true:=by simpa [ks] using (List.mem_filter.mp hj).2
   have:j≠k:=fun z=>by rw[z,hb] at hjb; cases hjb
   rw[et]
   simp only [intKind,Value.isInt]
   have ne:e.1≠(k:Int):=by rw[← ej]; intro z; exact this (Int.ofNat.inj z)
   simpa using ne
  rw[hno]
  dsimp only
  have hL:=Ec (led:=led) (x:=.int (k:Int) t) hm hk hb he
  rw[Eb k hk,hL]
  have he1:Es (SetTable.insertAt es (pos m k) ((k:Int),.int (k:Int) t)) (ks (wi m k)):=he.lay hm hk hb
  have hm1:=Dr m hm k hk
  generalize hes1:SetTable.insertAt es (pos m k) ((k:Int),.int (k:Int) t)=es1 at he1
  have hz1:=he1.size
  have hl1:=f_len _ hm1
  have hsz1:es1.size≤sizeLine:=Nat.le_trans (m:=6) (by omega) (by decide)
  dsimp only
  refine wpAny_bind (wpAny_pure ?_)
  rw[if_pos (show (tb (wi m k) (big m) led).plain=true from rfl)]
  refine wpAny_bind (wpAny_bind (m:=hashByValue 8 (.int (k:Int) t)) (wpAny_pure (wpAny_pure ?_)))
  simp only [if_true,Bool.not_false,Bool.true_and]
  rw[IP m hm k hk hb led]
  refine wpAny_bind (wpAny_storeSet_of ho hd ?_ hsz1)
  have ho1:=DV ho hd es1 (tb (wi m k) (big m) led)
  have sb1:=Heap.SameBut.update s.heap a (Obj.putSet es1 (tb (wi m k) (big m) led))
  cases hg:(!big m && big (wi m k)) with
  | true =>
   rw[if_pos rfl,FN hm hk hb hg he1]
   dsimp only
   refine wpAny_bind (wpAny_pure ?_)
   refine wpAny_bind (wpAny_storeSet_of (s:={ s with heap:=s.heap.update a (Obj.putSet es1 (tb (wi m k) (big m) led)) }) ho1 rfl ?_ hsz1)
   refine wpAny_pure (wpAny_pure (h _ _ (sb1.trans (Heap.SameBut.update _ a _)) ⟨hm1,_,es1,_,DV ho1 rfl es1 _,hex,rfl,he1⟩))
  | false =>
   have hsm:=Ia m hm k hk hb hg led
   rw[if_neg (by simp)]
   rw[hsm] at ho1 sb1 ⊢
   exact wpAny_pure (wpAny_pure (h _ _ sb1 ⟨hm1,_,es1,_,ho1,hex,rfl,he1⟩))
section
variable {R:Result→Shared→Prop} {I:Addr} {fp wr:List Addr} {n:Nat} {P:Nat→Value→Prop} {St:Nat→Heap→Prop}
theorem loop (W:Walks prog w A.in1 I fp wr n P St) (a:Addr) (ha:a ∉ fp) (hw:a ∉ wr) (led:Bool) (val:Nat→Nat) (h6:∀ i,i<n→val i<6) (hval:∀ i v,P i v→∃ t,v=.int (val i:Int) t):∀ (k i:Nat) (s:Shared) (m:Nat),n-i=k→i≤n→St i s.heap →
  At s.heap a m led →
  (∀ h' tk,At h' a (((List.range n).drop i).foldl (fun q j=>wi q (val j)) m) led→(∀ b o,b ∉ a::wr→s.heap.get? b=some o→h'.get? b=some o)→R (.ok (.ret .none)) { s with heap:=h',toks:=tk }) →
  codeAny (model prog w) A (.builtin "set.update.loop" ⟨[.ref a,.ref I],[]⟩) R s:=by
 intro k
 induction k with
 | zero =>
  intro i s m hk hi hst hS hR
  have hin:i=n:=by omega
  subst hin
  refine codeAny_builtin SetL.entry_loop ?_
  rw[Around.under_plainId SetL.plain_loop _]
  refine wpAny_bind (m:=pyNext (.ref I)) (W.done s _ _ hst fun h' tk hk'=>?_)
  refine wpAny_pure (hR h' tk ?_ fun b o hbw e=>hk' b o (fun z=>hbw (.tail _ z)) e)
  rw[List.drop_of_length_le (by simp)]
  exact hS.stay fun o ho=>hk' a o hw ho
 | succ k ih =>
  intro i s m hk hi hst hS hR
  have hlt:i<n:=by omega
  have hd:(List.range n).drop i=i::(List.range n).drop (i+1):=by
   rw[List.drop_eq_getElem_cons (by simpa using hlt)]; simp
  refine codeAny_builtin SetL.entry_loop ?_
  rw[Around.under_plainId SetL.plain_loop _]
  refine wpAny_bind (m:=pyNext (.ref I)) (W.item i s _ _ hlt hst fun v h' tk hP hst' hk'=>?_)
  obtain⟨t,rfl⟩:=hval i v hP
  have hS':At h' a m led:=hS.stay fun o ho=>hk' a o hw ho
  refine wpAny_bind (wpAny_holding ?_)
  unfold setAdd
  refine wpAny_holding (wpAny_bind ((intKind prog w).pyHash (k:=(val i:Int)) (by simp [intKind,Value.isInt]) ?_))
  refine add (h6 i hlt) hS' fun h2 r hsb hS2=>?_
  refine wpAny_pure ⟨plainId_quiet SetL.plain_loop _,ih (i+1) _ (wi m (val i)) (by omega) hlt ?_ hS2 fun h3 tk3 hS3 hk3=>?_⟩
  ·exact W.frame _ _ _ hst' fun b hbf o e=>hsb.extBut b o (fun z=>ha (z ▸ hbf)) e
  ·have:=hR h3 tk3
   rw[hd,List.foldl_cons] at this
   refine this hS3 fun b o hbw e=>hk3 b o hbw (hsb.extBut b o (fun z=>hbw (z ▸ List.mem_cons_self ..)) (hk' b o (fun z=>hbw (.tail _ z)) e))
end
end
end SetO
end PySem
namespace PySem
open Sem (wp)
namespace SetO
def ld (w:World):Bool:=!w.params.followText "set-order"
def nw (w:World):Obj:={ cls:=.type "set",dict:=none,data:=.set #[] 0 (.fresh 0 0 (ld w)) }
section
variable {prog:Program} {w:World} {A:Around} {E:Value→Shared→Prop} {s:Shared}
theorem zD {x:Value} {Q₁:Value→Shared→Prop}
  (h:Q₁ (.ref s.heap.objs.size) { s with heap:=s.heap.push (nw w) }) :
  codeAny (model prog w) A (.call (.builtin "set.__new__") ⟨[.type "set",x],[]⟩) (wants Q₁ E) s:=by
 refine codeAny_of_tree ?_
 show wpAny _ A.in1 (do checkBuiltinCall "set.__new__" ⟨[.type "set",x],[]⟩; again (.builtin "set.__new__" ⟨[.type "set",x],[]⟩)) _ _ s
 refine wpAny_bind (wpAny_of_eq (SetL.newCall_set_1 x) (wpAny_pure ⟨plainId_quiet F.plain_set_new _,codeAny_builtin F.entry_set_new ?_⟩))
 rw[Around.under_plainId F.plain_set_new _]
 unfold Builtin.«set.__new__» Builtin.Frozenset.newClass
 have hsub:=sub_set_self
 obtain⟨hp,g,d,tk,os⟩:=s
 dsimp only
 wp_walk
 refine wpAny_askSetting (wpAny_pure ?_)
 dsimp only
 simp only [newObj]
 refine wpAny_bind (wpAny_alloc (wpAny_pure ?_))
 exact wpAny_pure h
set_option maxHeartbeats 4000000 in
theorem call_setO {l:Addr} {its:List Value} {ns:List Nat} {Q:Value→Shared→Prop} (hh:A.handled=none) (hl:s.heap.IsList l its.toArray) (hi:∀ (j:Nat) (v:Value),its[j]?=some v→∃ t,v=.int (ns.getD j 0:Nat) t) (hn:its.length=ns.length) (h6:∀ k∈ns,k<6) 
  (h:∀ h' tk,At h' s.heap.objs.size (ns.foldl wi 0) (ld w)→(∀ b o,s.heap.get? b=some o→h'.get? b=some o)→Q (.ref s.heap.objs.size) { s with heap:=h',toks:=tk }) :
  wpAny (model prog w) A (call (.type "set") [.ref l]) Q E s:=by
 obtain⟨c,tl,hmro⟩:=F.called_set.mro
 have hmade:=F.called_set.made
 have hsub:=F.called_set.sub
 refine wpAny_call (codeAny_of_tree ?_)
 show wpAny _ _ (callAny (.type "set") _) _ _ _
 refine wpAny_pure ⟨Code.quiet_builtin _ (by decide +kernel),codeAny_builtin F.entry_type_call ?_⟩
 rw[Around.under_plain (weight_type_call_type "set" [.ref l] []) rfl]
 have h1:=F.called_set.notType
 have h2:=F.called_set.canCreate
 have hct:=SetL.typeCall_set_1 (.ref l)
 repeat (any_goals (first | assumption | wp_step))
 refine codeAny_mono (zD (E:=E) (Q₁:=fun obj s₁=>obj=.ref s.heap.objs.size∧s₁={ s with heap:=s.heap.push (nw w) }) ⟨rfl,rfl⟩) fun r s₁ hr=>?_
 cases r with
 | error e=>exact hr
 | ok fl =>
  cases fl with
  | ret obj =>
   obtain⟨rfl,rfl⟩:=hr
   have hS:(s.heap.push (nw w)).get? s.heap.objs.size=some (nw w):=Heap.get?_push_size _ rfl
   have hT:Shared.TypeIs { s with heap:=s.heap.push (nw w) } (.ref s.heap.objs.size) "set":=⟨_,hS,rfl⟩
   have hli:=F.called_set.init.lookup
   have hbi:=F.called_set.init.bind (.ref s.heap.objs.size)
   repeat (any_goals (first | assumption | wp_step))
   refine codeAny_mono (codeAny_call_builtin (R:=wants (fun r s₂=>r=.none∧Q (.ref s.heap.objs.size) s₂) E) F.called_set.init.plain F.entry_set_init (SetL.check_set_init1 hT ?_)) fun r₂ s₂ hr₂=>?_
   ·obtain⟨⟨cls,dd,data,sl⟩,ho,hc,nn,hd⟩:=hl.push (nw w)
    simp only at hc hd
    subst hc hd
    have f1:=SetL.sub_list_set
    have f2:=SetL.sub_list_frozenset
    unfold Builtin.«set.__init__» noKeywords
    have hl':Heap.IsList (s.heap.push (nw w)) l its.toArray:=hl.push _
    wp_walk using wpAny_loadPart' ho,wpAny_pyIter_list hl'
    have hlt:l<s.heap.objs.size:=by obtain⟨_,e,_⟩:=hl; exact Heap.lt_size e
    have hsz:(s.heap.push (nw w)).objs.size=s.heap.objs.size+1:=Heap.size_push ..
    have hS0:At (s.heap.push (nw w)) s.heap.objs.size 0 (ld w):=⟨by decide,_,#[],0,Heap.get?_push_size _ rfl,⟨rfl,rfl,rfl⟩,by rw[← GY]; rfl,rfl,fun e he=>by simp at he⟩
    refine loop (Walks.list (A:=A.in1.in1.in1) hh _ l (by show l≠(s.heap.push _).objs.size; rw[hsz]; exact Nat.ne_of_lt (Nat.lt_succ_of_lt hlt)) its.toArray) s.heap.objs.size ?_ ?_ (ld w) (fun j=>ns.getD j 0) ?_ (fun j v hP=>hi j v (by simpa using hP)) its.toArray.size 0 _ 0 (Nat.sub_zero _) (Nat.zero_le _) ⟨⟨_,Heap.get?_push_size _ rfl,rfl,rfl⟩,hl'.push _⟩ ?_ ?_
    ·show s.heap.objs.size ∉ [(s.heap.push _).objs.size,l]
     rw[hsz]
     intro hm
     rcases List.mem_cons.mp hm with e | hm
     ·exact absurd e (Nat.ne_of_lt (Nat.lt_succ_self _))
     ·exact absurd (List.mem_singleton.mp hm) (Nat.ne_of_gt hlt)
    ·show s.heap.objs.size ∉ [(s.heap.push _).objs.size]
     rw[hsz]
     simp
    ·intro i hi2
     rw[List.size_toArray,hn] at hi2
     have e:ns.getD i 0=ns[i]:=by simp [List.getD,hi2]
     show ns.getD i 0<6
     rw[e]
     exact h6 _ (List.getElem_mem hi2)
    ·exact hS0.stay fun o ho=>Heap.get?_push_of_some _ ho
    ·intro h' tk hS' hk
     have fe:((List.range its.toArray.size).drop 0).foldl (fun q j=>wi q (ns.getD j 0)) 0=ns.foldl wi 0:=by
      rw[List.drop_zero,List.size_toArray,hn,← List.foldl_map (f:=fun j=>ns.getD j 0)]
      congr 1
      apply List.ext_getElem (by simp)
      intro i h1 h2
      simp [List.getD,h2]
     rw[fe] at hS'
     refine wpAny_pure (wpAny_pure ⟨rfl,h h' tk hS' fun b o e=>hk b o (fun hm=>?_) (Heap.get?_push_of_some _ (Heap.get?_push_of_some _ e))⟩)
     have lb:=Heap.lt_size e
     have hm':b∈[s.heap.objs.size,(s.heap.push (nw w)).objs.size]:=hm
     rw[hsz] at hm'
     rcases List.mem_cons.mp hm' with z | z
     ·exact absurd lb (by rw[z]; exact Nat.lt_irrefl _)
     ·exact absurd lb (by rw[List.mem_singleton.mp z]; exact Nat.not_lt.mpr (Nat.le_succ _))
   ·cases r₂ with
    | error e=>exact hr₂
    | ok fl₂ =>
     cases fl₂ with
     | ret r =>
      obtain⟨rfl,hq⟩:=hr₂
      repeat (any_goals (first | assumption | wp_step))
     | _=>exact hr₂.elim
  | _=>exact hr.elim
end
end SetO
end PySem
namespace PySem
open Sem (wp)
open PyProof.Rows
namespace SetO
theorem slot_si_next:Slot "set_iterator" "__next__" "set_iterator.__next__" :=
 .of (owner:="set_iterator") (n:="__next__") (by rw[typeLookup_type,builtinLookup_eq_fast]; kernel_rfl) (by decide +kernel) (by decide +kernel) (by decide +kernel)
  (by first | exact .inl (by decide +kernel) | exact .inr (by decide +kernel)) (by rw[isSubtype_type]; kernel_rfl)
theorem wB:Slot "set_iterator" "__iter__" "set_iterator.__iter__" :=
 .of (owner:="set_iterator") (n:="__iter__") (by rw[typeLookup_type,builtinLookup_eq_fast]; kernel_rfl) (by decide +kernel) (by decide +kernel) (by decide +kernel)
  (by first | exact .inl (by decide +kernel) | exact .inr (by decide +kernel)) (by rw[isSubtype_type]; kernel_rfl)
theorem Af:Manifest.owners.lookup (String.ofList ['r','o','t','a','r','e','t','i','_','t','e','s'].reverse)=some Manifest.sig_set_iterator:=by kernel_rfl
theorem v8:entryFor table "set_iterator.__next__"=some Builtin.«set_iterator.__next__»:=entryFor_of_tree (by kernel_rfl)
theorem wF (a:Value):argsOk "set_iterator.__next__" ⟨[a],[]⟩:=by
 unfold argsOk; rw[signature?_of (id:="set_iterator.__next__") (n:=['_','_','t','x','e','n','_','_']) (o:=['r','o','t','a','r','e','t','i','_','t','e','s']) (by kernel_rfl) Af]; kernel_rfl
theorem AV (a:Value):argsOk "set_iterator.__iter__" ⟨[a],[]⟩:=by
 unfold argsOk; rw[signature?_of (id:="set_iterator.__iter__") (n:=['_','_','r','e','t','i','_','_']) (o:=['r','o','t','a','r','e','t','i','_','t','e','s']) (by kernel_rfl) Af]; kernel_rfl
theorem zG:entryFor table "set_iterator.__iter__"=some Builtin.«dict_keyiterator.__iter__» :=
 entryFor_alias (id':="dict_keyiterator.__iter__") (by kernel_rfl) (by first | rfl | decide +kernel | (unfold String.splitOn; simp +decide [String.splitOnAux])) (by decide +kernel) (by kernel_rfl)
theorem As:entryFor table "set.__iter__"=some Builtin.«frozenset.__iter__» :=
 entryFor_alias (id':="frozenset.__iter__") (by kernel_rfl) (by first | rfl | decide +kernel | (unfold String.splitOn; simp +decide [String.splitOnAux])) (by decide +kernel) (by kernel_rfl)
def itO (a:Addr) (sl i n ep:Nat):Obj:={ cls:=.type "set_iterator",data:=.fields #[rawInt sl,rawInt i,.ref a,rawInt n,rawInt ep] }
def wk (w:World) (a:Addr) (ep:Nat) (es:Array (Int×Value)):Array (Int×Value):=if w.params.followText "set-order"=true then pickOrder (w.params.setOrder a ep) es else es
def sl (w:World) (m i:Nat):Nat:=if w.params.followText "set-order"=true then 0 else if i=0 then 0 else (ks m).getD (i-1) 0+1
theorem B4 {α:Type} (f:Nat→Nat):∀ (n k:Nat) (l:List α) (out:Array α),n=l.length→(pickOrder.go f n k l out).toList.Perm (out.toList++l)
 | 0,k,l,out,h=>by
  have:l=[]:=List.length_eq_zero_iff.mp h.symm
  subst this
  simp [pickOrder.go]
 | n+1,k,l,out,h=>by
  have hi:f k % l.length<l.length:=Nat.mod_lt _ (by omega)
  unfold pickOrder.go
  rw[List.getElem?_eq_getElem hi]
  dsimp only
  refine (B4 f n (k+1) _ _ (by rw[List.length_eraseIdx_of_lt hi]; omega)).trans ?_
  rw[Array.toList_push,List.append_assoc]
  refine List.Perm.append_left _ ?_
  show (l[f k % l.length]::l.eraseIdx (f k % l.length)).Perm l
  rw[List.eraseIdx_eq_take_drop_succ]
  refine List.perm_middle.symm.trans ?_
  rw[← List.drop_eq_getElem_cons hi,List.take_append_drop]
theorem yM {w:World} {a:Addr} {ep:Nat} {es:Array (Int×Value)}:(wk w a ep es).toList.Perm es.toList:=by
 unfold wk
 split
 ·unfold pickOrder
  exact (B4 _ _ _ _ _ (by simp)).trans (by simp)
 ·exact List.Perm.refl _
theorem wV {w:World} {a:Addr} {ep:Nat} {es:Array (Int×Value)}:(wk w a ep es).size=es.size:=by
 have:=(yM (w:=w) (a:=a) (ep:=ep) (es:=es)).length_eq
 simpa using this
section
variable {prog:Program} {w:World} {A:Around} {E:Value→Shared→Prop} {s:Shared} {a:Addr} {o:Obj} {es:Array (Int×Value)} {ep m:Nat}
structure SO (w:World) (o:Obj) (es:Array (Int×Value)) (ep m:Nat):Prop where
 hm:m<64
 hex:o.ExactSet
 hd:o.data=.set es ep (tbl m (ld w))
 he:Es es (ks m)
theorem SO.fit (x:SO w o es ep m):(tbl m (ld w)).fits es.size=true:=by rw[x.he.size]; exact C2 m x.hm _
theorem walk_of {Q:Array (Int×Value)→Shared→Prop} (ht:w.params.followText "set-order"=true) (x:SO w o es ep m) (ho:s.heap.get? a=some o) (h:Q (wk w a ep es) s):wpAny (model prog w) A (setWalk a) Q E s:=by
 unfold setWalk
 refine wpAny_bind (wpAny_setState_of ho x.hd x.fit ?_)
 dsimp only
 unfold setsByText
 refine wpAny_bind (wpAny_bind (wpAny_askSetting (wpAny_pure ?_)))
 show wpAny _ _ (if w.params.followText "set-order"=true then _ else _) _ _ _
 rw[if_pos ht]
 refine wpAny_bind (wpAny_askSetting (wpAny_pure ?_))
 unfold wk at h
 rw[if_pos ht] at h
 exact h
theorem Cv {i:Nat} {Q:Option (Value×Nat)→Shared→Prop} (x:SO w o es ep m) (ho:s.heap.get? a=some o) (hi:i≤es.size) (h:Q (((wk w a ep es)[i]?).map fun e=>(e.2,sl w m (i+1))) s):wpAny (model prog w) A (setNext a (sl w m i) i ep) Q E s:=by
 unfold setNext
 refine wpAny_bind (wpAny_setState_of ho x.hd x.fit ?_)
 dsimp only
 unfold setsByText
 refine wpAny_bind (wpAny_bind (wpAny_askSetting (wpAny_pure ?_)))
 show wpAny _ _ (if w.params.followText "set-order"=true then _ else _) _ _ _
 by_cases ht:w.params.followText "set-order"=true
 ·rw[if_pos ht]
  refine wpAny_ite_split (fun z=>absurd z (by simp)) fun _=>?_
  refine wpAny_bind (walk_of ht x ho (wpAny_pure ?_))
  have e:sl w m (i+1)=sl w m i:=by unfold sl; rw[if_pos ht,if_pos ht]
  rw[e] at h
  exact h
 ·rw[if_neg ht]
  refine wpAny_ite_split (fun z=>absurd z (fun z=>Bool.noConfusion z)) fun _=>?_
  have hl:ld w=true:=by unfold ld; simpa using ht
  rw[hl]
  refine wpAny_bind ?_
  refine wpAny_ite_split (fun z=>absurd z (fun z=>Bool.noConfusion z)) fun _=>?_
  refine wpAny_pure (wpAny_pure ?_)
  have hz:=x.he.size
  have hl6:=f_len m x.hm
  have e1:SetTable.below (tbl m true).place (sl w m i)=i:=by
   unfold sl
   rw[if_neg ht]
   exact HX m x.hm i (by omega) (by omega)
  have e2:wk w a ep es=es:=by unfold wk; rw[if_neg ht]
  rw[e1]
  rw[e2] at h
  by_cases hlt:i<es.size
  ·have g1:es[i]?=some es[i]:=Array.getElem?_eq_getElem hlt
   have g2:(tbl m true).place[i]?=some ((ks m).getD i 0):=by
    show (ks m).toArray[i]?=_
    rw[List.getElem?_toArray,List.getElem?_eq_getElem (by omega)]
    simp [List.getD,show i<(ks m).length by omega]
   rw[g1,g2]
   rw[g1] at h
   have e3:sl w m (i+1)=(ks m).getD i 0+1:=by unfold sl; rw[if_neg ht,if_neg (by omega)]; rfl
   rw[e3] at h
   exact h
  ·have g1:es[i]?=none:=Array.getElem?_eq_none (by omega)
   rw[g1]
   rw[g1] at h
   exact h
theorem GV {Q:Value→Shared→Prop} (x:SO w o es ep m) (ho:s.heap.get? a=some o) (h:Q (.ref s.heap.objs.size) { s with heap:=s.heap.push (itO a (sl w m 0) 0 es.size ep) }):wpAny (model prog w) A (pyIter (.ref a)) Q E s:=by
 have hT:s.TypeIs (.ref a) "set":=⟨o,ho,x.hex.1⟩
 refine wpAny_pyIter_slot hT F.slot_set_iter (wpAny_call_entry F.slot_set_iter hT As ?_ (F.args_set_iter_1 _))
 unfold Builtin.«frozenset.__iter__»
 refine wpAny_bind (m:=Builtin.Frozenset.slot0 "__iter__" _) (wpAny_of_eq (a:=a) rfl ?_)
 unfold Builtin.Frozenset.sizeOf
 refine wpAny_bind (wpAny_bind (wpAny_setEntries_of ho x.hd x.fit (wpAny_pure ?_)))
 unfold setDrawn setsByText
 refine wpAny_bind (wpAny_bind (wpAny_setState_of ho x.hd x.fit ?_))
 refine wpAny_bind (wpAny_bind (wpAny_askSetting (wpAny_pure ?_)))
 refine wpAny_pure ?_
 refine wpAny_ite_split (fun z=>absurd z (by
  show ¬ ((!w.params.followText "set-order" && false)=true)
  simp)) fun _=>?_
 refine wpAny_bind (wpAny_pure ?_)
 refine wpAny_bind (wpAny_setEpoch_of ho x.hd x.fit ?_)
 have e0:sl w m 0=0:=by unfold sl; simp
 rw[e0] at h
 unfold newFields
 refine wpAny_bind (wpAny_newObj_type (wpAny_pure ⟨_,rfl,"set_iterator",_,⟨_,Heap.get?_push_size _ rfl,rfl⟩,slot_si_next.lookup,?_⟩))
 exact h
def ItX (h:Heap) (I a:Addr) (sl i n ep:Nat):Prop:=∃ o,h.get? I=some o∧o.cls=.type "set_iterator"∧o.data=.fields #[rawInt sl,rawInt i,.ref a,rawInt n,rawInt ep]
theorem ItX.typeIs {I:Addr} {p i n:Nat} (x:ItX s.heap I a p i n ep):s.TypeIs (.ref I) "set_iterator":=let ⟨o,ho,hc,_⟩:=x; ⟨o,ho,hc⟩
theorem Hz {I:Addr} {i:Nat} {e:Int×Value} {Q:Option Value→Shared→Prop} (x:SO w o es ep m) (ho:s.heap.get? a=some o) (hit:ItX s.heap I a (sl w m i) i es.size ep) (hi:(wk w a ep es)[i]?=some e)
  (hQ:∀ h',ItX h' I a (sl w m (i+1)) (i+1) es.size ep→Heap.SameBut I s.heap h'→Q (some e.2) { s with heap:=h' }):wpAny (model prog w) A (pyNext (.ref I)) Q E s:=by
 obtain⟨oI,hI,hc,hd⟩:=id hit
 have hlt:i<es.size:=by
  have:=(Array.getElem?_eq_some_iff.mp hi).1
  rwa [wV] at this
 unfold pyNext
 refine wpAny_bind (wpAny_attempt (wpAny_callSpecial?_slot (name:=Str.ofString "__next__") hit.typeIs slot_si_next
  (wpAny_call_entry slot_si_next hit.typeIs v8 ?_ (wF _))))
 unfold Builtin.«set_iterator.__next__»
 refine wpAny_bind (wpAny_of_eq (a:=(Value.ref I,[])) rfl ?_)
 try dsimp only
 refine wpAny_bind (wpAny_fieldsOf hI hd ?_)
 try dsimp only
 refine wpAny_bind (wpAny_setEntries_of ho x.hd x.fit ?_)
 refine wpAny_ite_split (fun z=>absurd z (by simp)) fun _=>?_
 refine wpAny_bind (m:=setNext a (Int.toNat (sl w m i)) (Int.toNat i) (Int.toNat ep)) (Cv (i:=i) (ep:=ep) x ho (Nat.le_of_lt hlt) ?_)
 rw[hi]
 show wpAny _ _ (setField (.ref I) 0 (rawInt (sl w m (i+1))) >>= fun _=>setField (.ref I) 1 (rawInt ((i:Int)+1)) >>= fun _=>ret e.2) _ _ _
 refine wpAny_bind (wpAny_setField hI hd (by simp) ?_)
 have hS:=Heap.get?_update_self (Obj.mapFields fun v=>v.setIfInBounds 0 (rawInt (sl w m (i+1)))) hI (Obj.isFreed_of_fields (Obj.data_mapFields hd _))
 have hd2:=Obj.data_mapFields hd fun v=>v.setIfInBounds 0 (rawInt (sl w m (i+1)))
 refine wpAny_bind (wpAny_setField (s:={ s with heap:=s.heap.update I (Obj.mapFields fun v=>v.setIfInBounds 0 (rawInt (sl w m (i+1)))) }) hS hd2 (by simp) ?_)
 have hS3:=Heap.get?_update_self (Obj.mapFields fun v=>v.setIfInBounds 1 (rawInt ((i:Int)+1))) hS (Obj.isFreed_of_fields (Obj.data_mapFields hd2 _))
 have hd3:=Obj.data_mapFields hd2 fun v=>v.setIfInBounds 1 (rawInt ((i:Int)+1))
 refine wpAny_pure ⟨e.2,rfl,wpAny_pure (hQ _ ⟨_,hS3,?_,?_⟩ ((Heap.SameBut.update _ _ _).trans (Heap.SameBut.update _ _ _)))⟩
 ·exact (Obj.cls_mapFields ..).trans ((Obj.cls_mapFields ..).trans hc)
 ·rw[hd3]
  simp
theorem Ic {I:Addr} {Q:Option Value→Shared→Prop} (hh:A.handled=none) (x:SO w o es ep m) (ho:s.heap.get? a=some o) (hit:ItX s.heap I a (sl w m es.size) es.size es.size ep)
  (hQ:∀ h',Heap.ExtBut I s.heap h'→Q none { s with heap:=h' }):wpAny (model prog w) A (pyNext (.ref I)) Q E s:=by
 obtain⟨oI,hI,hc,hd⟩:=id hit
 have hi:(wk w a ep es)[es.size]?=none:=Array.getElem?_eq_none (by rw[wV]; exact Nat.le_refl _)
 unfold pyNext
 refine wpAny_bind (wpAny_attempt (wpAny_callSpecial?_slot (name:=Str.ofString "__next__") hit.typeIs slot_si_next
  (wpAny_call_entry slot_si_next hit.typeIs v8 ?_ (wF _))))
 unfold Builtin.«set_iterator.__next__»
 refine wpAny_bind (wpAny_of_eq (a:=(Value.ref I,[])) rfl ?_)
 try dsimp only
 refine wpAny_bind (wpAny_fieldsOf hI hd ?_)
 try dsimp only
 refine wpAny_bind (wpAny_setEntries_of ho x.hd x.fit ?_)
 refine wpAny_ite_split (fun z=>absurd z (by simp)) fun _=>?_
 refine wpAny_bind (m:=setNext a (Int.toNat (sl w m es.size)) (Int.toNat es.size) (Int.toNat ep)) (Cv (i:=es.size) (ep:=ep) x ho (Nat.le_refl _) ?_)
 rw[hi]
 show wpAny _ _ (setField (.ref I) 2 .none >>= fun _=>newExc (.type "StopIteration") [] >>= fun v=>raiseNew v) _ _ _
 refine wpAny_bind (wpAny_setField hI hd (by simp) ?_)
 refine wpAny_bind ?_
 simp only [newExc,newTuple]
 refine wpAny_bind (wpAny_newObj_type ?_ (by size_fits))
 refine wpAny_bind (m:=firstArgMember _ _) (wpAny_of_eq (a:=Value.none) (by first | rfl | (simp only [firstArgMember]; rfl)) ?_)
 refine wpAny_newObj_type ?_ (by size_fits)
 simp only [raiseNew]
 refine wpAny_bind (wpAny_handled ?_)
 first | rw[show A.in1.handled=none from hh] | rw[hh]
 refine wpAny_bind (wpAny_pure (wpAny_throw ?_))
 refine wpAny_bind (wpAny_isInstance (T:="StopIteration") (b:=true) ⟨_,Heap.get?_push_size _ rfl,rfl⟩ isSubtype_stop ?_)
 refine wpAny_pure (hQ _ ((Heap.ExtBut.push (Heap.ExtBut.push (fun b o hb e=>?_) _) _)))
 exact (Heap.get?_update_other _ _ (Ne.symm hb)).trans e
theorem HV {I:Addr} {p i n:Nat} {Q:Value→Shared→Prop} (hit:ItX s.heap I a p i n ep) (h:Q (.ref I) s):wpAny (model prog w) A (pyIter (.ref I)) Q E s:=by
 refine wpAny_pyIter_slot hit.typeIs wB (wpAny_call_entry wB hit.typeIs zG ?_ (AV _))
 show wpAny _ _ (ret (.ref I)) _ _ s
 exact wpAny_pure ⟨_,rfl,"set_iterator",_,hit.typeIs,slot_si_next.lookup,h⟩
theorem G2 (hT:s.TypeIs (.ref a) "set") {Q:Bool→Shared→Prop} (h:Q false s):wpAny (model prog w) A (Builtin.List.listLengthHint (.ref a)) Q E s:=by
 unfold Builtin.List.listLengthHint
 refine wpAny_bind (wpAny_specialOf hT F.slot_set_len.lookup ?_)
 generalize hid:("set.__len__":String)=id0
 wp_delta
 rw[show splitId id0=some ("set","__len__") from by subst hid; decide +kernel]
 subst hid
 refine wpAny_bind (wpAny_isInstance (T:="set") (b:=true) hT (by rw[isSubtype_type]; kernel_rfl) ?_)
 refine wpAny_ite_split (fun hab=>absurd hab (by decide)) (fun _=>?_)
 refine wpAny_ite_split (fun _=>?_) (fun hab=>absurd (by decide +kernel) hab)
 refine wpAny_bind (wpAny_typeOf hT ?_)
 exact wpAny_pure h
theorem walks {I:Addr} (hh:A.handled=none) (hne:a≠I) (x:SO w o es ep m) :
  Walks prog w A I [I,a] [I] es.size (fun i v=>∃ e,(wk w a ep es)[i]?=some e∧v=e.2) (fun i h=>i≤es.size∧ItX h I a (sl w m i) i es.size ep∧h.get? a=some o) where
 sub:=fun b hb=>by simp at hb; simp [hb]
 frame:=fun _ _ _ y hk=>⟨y.1,let ⟨oI,h1,r⟩:=y.2.1; ⟨oI,hk I (by simp) _ h1,r⟩,hk a (by simp) _ y.2.2⟩
 item:=fun i s Q E hi y hQ=>by
  have g:(wk w a ep es)[i]?=some ((wk w a ep es)[i]'(by rw[wV]; exact hi)):=Array.getElem?_eq_getElem _
  exact Hz x y.2.2 y.2.1 g fun h' h1 h2=>hQ _ h' s.toks ⟨_,g,rfl⟩ ⟨hi,h1,(h2.2 a hne).trans y.2.2⟩ fun b o hb eo=>h2.extBut b o (fun h=>hb (by simp [h])) eo
 done:=fun s Q E y hQ=>Ic hh x y.2.2 y.2.1 fun h' he'=>hQ h' s.toks fun b o hb eo=>he' b o (fun h=>hb (by simp [h])) eo
 self:=fun _ _ _ _ y hQ=>HV y.2.1 hQ
theorem src (x:SO w o es ep m):W.KdlSrc prog w "set" a a es.size (fun i v=>∃ e,(wk w a ep es)[i]?=some e∧v=e.2) (fun h=>h.get? a=some o) where
 type:=fun s h=>⟨o,h,x.hex.1⟩
 there:=fun h e=>⟨Heap.lt_size e,Heap.lt_size e⟩
 keep:=fun h h' e k=>k a (.inl rfl) o e
 notList:=by decide
 notTuple:=by decide
 hint:=fun A E s Q h q=>G2 ⟨o,h,x.hex.1⟩ q
 iter:=fun A s hh ho=>⟨itO a (sl w m 0) 0 es.size ep,_,fun E Q q=>GV x ho q,walks hh (Nat.ne_of_lt (Heap.lt_size ho)) x,Nat.zero_le _,⟨_,Heap.get?_push_size _ rfl,rfl,rfl⟩,Heap.get?_push_of_some _ ho⟩
end
end SetO
end PySem
namespace PySem
open Sem (wp)
open PyProof.Rows
namespace SetO
theorem At.so {h:Heap} {w:World} {a:Addr} {m:Nat} (x:At h a m (ld w)):∃ o es ep,h.get? a=some o∧SO w o es ep m:=by
 obtain⟨hm,o,es,ep,ho,h1,h2,h3⟩:=x
 exact⟨o,es,ep,ho,hm,h1,h2,h3⟩
theorem DM:∀ {xs ys:List Int},xs.Perm ys→xs.Pairwise (·≤·)→ys.Pairwise (· < ·)→xs=ys:=by
 intro xs ys hp h1 h2
 exact hp.eq_of_pairwise (le:=(·≤·)) (fun a b _ _=>Int.le_antisymm) h1 (h2.imp fun h=>Int.le_of_lt h)
section
variable {prog:Program} {w:World} {A:Around} {E:Value→Shared→Prop} {s:Shared} {a:Addr} {m:Nat}
theorem call_sortedS {Q:Value→Shared→Prop} (hh:A.handled=none) (x:At s.heap a m (ld w))
  (h:∀ (h1 h':Heap) (tk:Nat) (out:Array Value) (e:Nat),(∀ b o,s.heap.get? b=some o→h1.get? b=some o)→(∀ b o,h1.get? b=some o→h'.get? b=some o)→h'.get? h1.objs.size=some (seqObj "list" out e)→IntsAre out.toList ((ks m).map Int.ofNat)→Q (.ref h1.objs.size) { s with heap:=h',toks:=tk }) :
  wpAny (model prog w) A (call (.builtin "sorted") [.ref a]) Q E s:=by
 obtain⟨o,es,ep,ho,y⟩:=x.so
 have hz:=y.he.size
 have h6:=f_len m y.hm
 refine wpAny_call (codeAny_call_builtin plain_sorted entry_sorted (SortD.check_sorted ?_))
 unfold Builtin.sorted
 refine wpAny_bind (wpAny_of_eq (a:=()) rfl ?_)
 refine wpAny_bind (W.kdu_collect (src y) hh ho (Nat.le_trans (m:=6) (by omega) (by decide)) fun h1 tk1 acc kp hacc=>?_)
 obtain⟨za,ha⟩:=hacc
 have pm:((wk w a ep es).toList.map (·.1)).Perm ((ks m).map Int.ofNat):=by
  rw[← y.he.1]
  exact (yM (w:=w) (a:=a) (ep:=ep) (es:=es)).map _
 have la:acc.toList.length=((wk w a ep es).toList.map (·.1)).length:=by rw[Array.length_toList,za,List.length_map,Array.length_toList,wV]
 have hS:IntsAre acc.toList ((wk w a ep es).toList.map (·.1)):=SortD.intsAre_of la fun i v z h1 h2=>by
  rw[Array.getElem?_toList] at h1
  obtain⟨e,e2,e3⟩:=ha i v h1
  rw[List.getElem?_map,Array.getElem?_toList,e2] at h2
  have h2':e.1=z:=by simpa using h2
  have hme:e∈es.toList:=(yM (w:=w) (a:=a) (ep:=ep) (es:=es)).mem_iff.mp (by
   have:=Array.mem_of_getElem? e2
   simpa using this)
  obtain⟨t,et⟩:=y.he.2 e hme
  exact⟨t,by rw[e3,et,h2']⟩
 have ln:acc.toList.length≤6:=by rw[la,pm.length_eq,List.length_map]; exact h6
 refine wpAny_bind (wpAny_newList (hsz:=Nat.le_trans ln (by decide)) ?_)
 have hB:(h1.push { cls:=Value.type "list",data:=Data.seq acc.toList.toArray }).get? h1.objs.size=some (seqObj "list" acc.toList.toArray 0):=Heap.get?_push_size _ rfl
 refine wpAny_bind (wpAny_holding (SortD.sort_intsB (B:=h1.objs.size) hB hS (by omega) fun out ns' s1 s2 s3=>wpAny_pure ?_))
 obtain⟨e,he⟩:=sortedHeap_at (out:=out) hB
 have hns:ns'=(ks m).map Int.ofNat:=DM (s2.trans pm) s3 (List.pairwise_map.mpr ((f_nodup m y.hm).imp fun h=>Int.ofNat_lt.mpr h))
 rw[hns] at s1
 refine h h1 _ _ out e kp (fun b o hb1=>?_) he s1
 have lb:=Heap.lt_size hb1
 rw[sortedHeap_old (Nat.ne_of_lt lb) (by rw[Heap.size_push]; exact Nat.lt_succ_of_lt lb)]
 exact Heap.get?_push_of_some _ hb1
end
theorem fold_lt:∀ {ns:List Nat} {m:Nat},m<64→(∀ k∈ns,k<6)→ns.foldl wi m<64
 | [],_,h,_=>h
 | k::ns,m,h,h6=>by
  rw[List.foldl_cons]
  exact fold_lt (Dr m h k (h6 k (.head _))) fun j hj=>h6 j (.tail _ hj)
theorem xO:∀ {ns:List Nat} {m j:Nat},m<64→j<6→(∀ k∈ns,k<6)→((ns.foldl wi m).testBit j=true↔m.testBit j=true∨j∈ns)
 | [],_,_,_,_,_=>by simp
 | k::ns,m,j,h,hj,h6=>by
  rw[List.foldl_cons,xO (Dr m h k (h6 k (.head _))) hj fun i hi=>h6 i (.tail _ hi),IU m h k (h6 k (.head _)) j hj,List.mem_cons]
  simp [or_assoc]
theorem fold_mem {ns:List Nat} (h6:∀ k∈ns,k<6) (j:Nat):j∈ks (ns.foldl wi 0)↔j∈ns:=by
 constructor
 ·intro h
  have h1:=List.mem_filter.mp h
  have hj:j<6:=List.mem_range.mp h1.1
  have:=(xO (m:=0) (by decide) hj h6).mp (by simpa using h1.2)
  simpa using this
 ·intro h
  have hj:=h6 j h
  exact GB _ (fold_lt (by decide) h6) j hj ((xO (m:=0) (by decide) hj h6).mpr (.inr h))
end SetO
end PySem
namespace L2
open PySem PySem.Spec PyProof.Rows
def Iq (K:PySem.W.Frag) (t:TA):TE:=fun σ H Q=>t σ H fun vs H1=>∃ (p:Addr) (ns:List Nat),vs=[.ref p]∧SqL K H1 p (ns.map fun n:Nat=>V.int (n:Int))∧(∀ n∈ns,n<6)∧∀ (l:Addr) (ns':List Nat),H1 l=none→ns'.Pairwise (· < ·)→(∀ j,j∈ns'↔j∈ns)→Q (.ref l) (upd H1 l (.lst (ns'.map fun n:Nat=>V.int (n:Int))))
theorem Ib:bootBuiltins "set"=some (.type "set"):=by decide +kernel
section
variable {X:Cx} {e:Expr} {t:TA} {p1 p2 pos1 pos2:Pos}
theorem Ac (hc:X.calm=true) (hg1:Gl X "sorted") (hm1:X.mg "sorted"=none) (hg2:Gl X "set") (hm2:X.mg "set"=none) (ha:PA X [e] t)
  (hst:starEach [e] X.env=(false,eval e X.env)::starEach [] X.env:=by rfl)
  (hst2:starEach [.Call (.Name "set" p2) [e] [] pos2] X.env=(false,eval (.Call (.Name "set" p2) [e] [] pos2) X.env)::starEach [] X.env:=by rfl)
  (pl:∀ pos,(backTo pos (starEach [] X.env)).any (·.1)=false:=by intro _; rfl):PE X (.Call (.Name "sorted" p1) [.Call (.Name "set" p2) [e] [] pos2] [] pos1) (Iq X.K t):=by
 intro pins s σ H Q I h
 refine wpAny_Call_Name_kw (tX I hg1 hm1 zV ?_)
 refine PyProof.Rows.callWith_builtin1 ?_ hst2 (pl _)
 rw[hst2]
 show wpAny _ _ (spliced ((false,eval (.Call (.Name "set" p2) [e] [] pos2) X.env)::backTo pos1 (starEach [] X.env))) _ _ s
 refine Calls.spliced_cons ?_
 refine wpAny_Call_Name_kw (tX I hg2 hm2 Ib ?_)
 refine PyProof.Rows.callWith_type1 (thn (ha pos2 pins s σ H _ I h) fun us s1 ⟨vs,H1,I1,r1,p,ns,e1,hq,h6,q⟩=>?_) hst (pl _)
 subst e1
 obtain⟨u,rfl,rx⟩:=vals1 r1
 cases rx
 have hh:X.A.handled=none:=I1.ok.hd hc
 obtain⟨its,r',pl',hz⟩:=I1.list hq
 have len:=r'.length
 rw[List.length_map] at len
 refine PySem.SetO.call_setO (ns:=ns) hh pl'.isList (fun j v ej=>?_) len.symm h6 fun h2 tk hS hk=>?_
 ·obtain⟨hj,e'⟩:=List.getElem?_eq_some_iff.mp ej
  have:=w6 (ns:=ns.map fun n:Nat=>(n:Int)) (by rw[List.map_map]; exact r') hj
  obtain⟨t,et⟩:=this
  refine⟨t,?_⟩
  rw[← e',et]
  have hj2:j<ns.length:=by omega
  simp [List.getD,hj2]
 ·refine Calls.spliced_nil ?_
  have I2:Inv X pins σ H1 { s1 with heap:=h2,toks:=tk }:=I1.kept hk
  refine PySem.SetO.call_sortedS hh hS fun h3 h4 tk2 out e4 kp kp2 he hI=>?_
  have I3:Inv X pins σ H1 { s1 with heap:=h3,toks:=tk2 }:=I2.kept kp
  have hm:=PySem.SetO.f_len _ (PySem.SetO.fold_lt (ns:=ns) (m:=0) (by decide) h6)
  have hv:Vals ((PySem.SetO.ks (ns.foldl PySem.SetO.wi 0)).map fun n:Nat=>V.int (n:Int)) out.toList:=by
   have:=vS hI
   rw[List.map_map] at this
   exact this
  exact⟨.ref h3.objs.size,_,I3.laid (t':=tk2) (o:=.lst _) kp2 (Nat.le_refl _) ⟨by rw[List.length_map]; exact Nat.le_trans hm (by decide),out.toList,e4,hv,by simpa using he⟩,rfl,q _ _ (I3.hok.fresh (Nat.le_refl _)) (PySem.SetO.f_nodup _ (PySem.SetO.fold_lt (by decide) h6)) (PySem.SetO.fold_mem h6)⟩
end
theorem EL {X:Cx} {K:PySem.W.Frag} {e st:Expr} {te:TE} {ts:TO} {pos p2:Pos} (hk:X.K=K) (he:PE X e te) (hs:PO X (some st) ts):PE X (.Subscript e (.Slice none none (some st) p2) pos) (AA K te ts):=by
 subst hk
 exact AX he hs
end L2
namespace Tb
open PySem L2 PyProof.Rows
abbrev Dc:=List (Str×Int)
def ks (d:Dc):List Str:=d.map (·.1)
def gt:Dc→Str→Int
 | [],_=>0
 | p::d,k=>if p.1=k then p.2 else gt d k
def sm (d:Dc):Int:=(d.map (·.2)).sum
def cs (rows:Dc) (s:Str):Int:=(rows.map fun p=>if p.1=s then p.2 else 0).sum
end Tb
namespace MthL
theorem first {ws:List Int} {w:Int} (h:w∈ws):∃ i,i<ws.length∧ws.getD i 0=w∧∀ j,j<i→ws.getD j 0≠w:=by
 induction ws with
 | nil=>cases h
 | cons a ws ih =>
  by_cases e:a=w
  ·exact⟨0,Nat.zero_lt_succ _,e,fun j hj=>absurd hj (Nat.not_lt_zero _)⟩
  ·obtain⟨i,h1,h2,h3⟩:=ih ((List.mem_cons.mp h).resolve_left fun z=>e z.symm)
   refine⟨i+1,Nat.succ_lt_succ h1,h2,fun j hj=>?_⟩
   cases j with
   | zero=>exact e
   | succ j=>exact h3 j (Nat.lt_of_succ_lt_succ hj)
theorem below {ws:List Int} (w:Int):(∀ o∈ws,0<o→w≤o)∨∃ v∈ws,0<v∧v<w∧∀ o∈ws,o<w→o≤v:=by
 induction ws with
 | nil=>exact .inl fun o ho=>by cases ho
 | cons a ws ih =>
  by_cases ha:0<a∧a<w
  ·rcases ih with ih | ⟨v,h1,h2,h3,h4⟩
   ·refine .inr ⟨a,List.mem_cons_self ..,ha.1,ha.2,fun o ho hl=>?_⟩
    rcases List.mem_cons.mp ho with rfl | ho
    ·exact Int.le_refl _
    ·by_cases h0:0<o
     ·have:=ih o ho h0
      omega
     ·omega
   ·by_cases hv:a≤v
    ·refine .inr ⟨v,List.mem_cons_of_mem _ h1,h2,h3,fun o ho hl=>?_⟩
     rcases List.mem_cons.mp ho with rfl | ho
     ·exact hv
     ·exact h4 o ho hl
    ·refine .inr ⟨a,List.mem_cons_self ..,ha.1,ha.2,fun o ho hl=>?_⟩
     rcases List.mem_cons.mp ho with rfl | ho
     ·exact Int.le_refl _
     ·have:=h4 o ho hl
      omega
  ·rcases ih with ih | ⟨v,h1,h2,h3,h4⟩
   ·refine .inl fun o ho h0=>?_
    rcases List.mem_cons.mp ho with rfl | ho
    ·omega
    ·exact ih o ho h0
   ·refine .inr ⟨v,List.mem_cons_of_mem _ h1,h2,h3,fun o ho hl=>?_⟩
    rcases List.mem_cons.mp ho with rfl | ho
    ·omega
    ·exact h4 o ho hl
end MthL
namespace Mth
def cell (ns:List Int) (k:Int):Int :=
 if k<(ns.length:Int) then ns.getD k.toNat 0 % 10 ^ 60
 else (if 0<(ns.length:Int) then ns.getD (k * 7 % (ns.length:Int)).toNat 0 % 10 ^ 60 * 48271+k * k * 69621 else 7919 * k+5) % 2147483647 * 16807 % 2147483629
def gcd (a b:Int):Int:=(Int.gcd a b:Nat)
structure IsShare (t b x y:Int):Prop where
 pos:0<y
 low:gcd x y=1
 eq:x * b=t * y
 le1:x.natAbs≤t.natAbs
 le2:y.natAbs≤b.natAbs
structure Low (T:Int×Int) (x y:Int):Prop where
 pos:0<y
 low:gcd x y=1
 eq:x * T.2=T.1 * y
end Mth
set_option maxHeartbeats 4000000
open PySem L2
local macro_rules | `(tactic| trivial)=>`(tactic| simp only [Cf,GM,DR,GE,Ey,EO,Ie,Ez,Ar,Jk,GJ,ipI,Gz,AA,Er,GT,zZ,Iq,JG,GS,DS,D9,iOr,FI,t9,slots,Option.getD_some,Option.getD_none,Jp,uV,Dw,vW,tOp,tUn,tC,Fg,tCB,GG,IG,zM,rI,rI0,rU,Jl,Ji,Gu,tB,JF,tOr,IE,GR,JH,Gv,EK,GD,GP,Iw,IA,GF,tSl,GQ,B0,E2,Gs,Ig,Jt,GL,tBM,BY,rEq,rNe,Il,FS,Fw,E5,De,Bl,Bk,Bt,A5,DE,Dm,C0,CP,CB,CK,Bq,Bx,BL,Bc,CH,Bv,BA,Bj,Bf,CJ,Bp,Bd,By,BE,CN,Bm,BD,BK,BP,CG,Bh,Bs,Bw,Bb,Iu,JS,Jz,Jq,CS,C7,CW,EU,EA,Dl,Dg,C6,Fv,Dj,CO,CU,EC,Et,decide_true,decide_false,HH,Gr,IK,GN,HU,Fy,HQ,Fo,DC,L2.start,cxK,Int.reduceToNat,List.map_cons,List.map_nil,List.length_cons,List.length_nil,Nat.reduceAdd,Nat.reduceSub,Nat.zero_add,List.replicate_succ,List.replicate_zero,List.cons_append,List.nil_append,List.append_nil,List.getElem?_cons_zero,List.getElem?_cons_succ,List.set_cons_zero,List.set_cons_succ,Option.some.injEq,V.int.injEq,V.bl.injEq,V.ref.injEq,V.str.injEq,V.ty.injEq,List.cons.injEq,exists_eq_left',exists_eq_left,exists_eq_right,exists_and_left,exists_and_right,and_true,true_and,and_assoc,exists_const,decide_eq_true_eq,Bool.not_eq_true',Bool.not_true,Bool.not_false,Bool.not_not,decide_eq_false_iff_not,ite_not,Bool.false_eq_true,if_true,if_false,reduceCtorEq,and_false,false_and,exists_false,or_false,false_or,↓reduceIte,eq_self,reduceIte])
local macro_rules | `(tactic| decreasing_trivial)=>`(tactic| first | exact Or.inl rfl | exact Or.inr (Or.inl rfl) | exact Or.inr (Or.inr rfl))
namespace My
open PySem L2
def zN (K:PySem.W.Frag):Sp:=fun vs H Q _=>∃ (a:Addr) (ns:List Int),vs=[.ref a]∧SqL K H a (ns.map V.int)∧ns.length≤63∧∀ H',Q (.bl true) H'
theorem uF {ns:List Int} {k:Int} (h0:0≤k) (h1:k<ns.length):atI (ns.map V.int) k=some (.int (ns.getD k.toNat 0)):=by
 have e:k=((k.toNat:Nat):Int):=by omega
 have h2:k.toNat<ns.length:=by omega
 have q:(ns.map V.int)[k.toNat]?=some (.int (ns.getD k.toNat 0)):=by
  rw[List.getElem?_map,List.getElem?_eq_getElem h2]
  simp [List.getD,h2]
 have:=oh q
 rw[← e] at this
 exact this
theorem Ds {n:Nat} {i:Int} (lo:-(10 ^ 61)≤i) (hi:i≤10 ^ 61) (hn:204≤n:=by decide):Bits n i:=(Bits.of (n:=204) (b:=10 ^ 61) lo hi (by decide)).mono hn
theorem fD {H:Hp} {p:Addr} (h:H p=none) (o:HO):Same H (upd H p o):=fun b u q=>by rw[er (mz q h)]; exact q
theorem Same.tup {K:PySem.W.Frag} {H H':Hp} {a:Addr} {xs:List V} (e:Same H H') (h:SqT K H a xs):SqT K H' a xs:=by
 rcases h with (h | ⟨o,h⟩) | h
 ·exact .inl (.inl (e _ _ h))
 ·exact .inl (.inr ⟨o,e _ _ h⟩)
 ·exact .inr h
theorem Io {n:Int} (h0:0≤n:=by decide) (h1:n≤1000000:=by decide):IY 10 n:=⟨h0,h1,by decide⟩
theorem Ay {i j:Int} (a:-(10 ^ 61)≤i) (b:i≤10 ^ 61) (c:-(10 ^ 61)≤j) (d:j≤10 ^ 61):CMulB i j:=⟨Ds a b,Ds c d⟩
theorem cdiv {i j:Int} (a:0<j) (b:j≤10 ^ 61):CDivB i j:=⟨a,Ds (by omega) b⟩
theorem getD_at {α:Type} {ws:List α} {j:Nat} {d:α} (h:j<ws.length):ws.getD j d=ws[j]:=by simp only [List.getD,List.getElem?_eq_getElem h,Option.getD_some]
theorem vC {n j:Nat} (h:j<n):ixN n (j:Int)=some j:=by
 unfold ixN
 rw[if_pos (by omega),if_pos (by omega)]
 rfl
theorem ki {K:PySem.W.Frag} {H:Hp} {p:Addr} (h:H p=none) (xs:List V):∃ H1,H1=upd H p (.tup xs)∧Same H H1∧SqT K H1 p xs:=⟨_,rfl,fD h _,SqT.of cY⟩
theorem DY {K:PySem.W.Frag} {H:Hp} {p:Addr} (h:H p=none) (xs:List V):∃ H1,H1=upd H p (.lst xs)∧Same H H1∧SqL K H1 p xs:=⟨_,rfl,fD h _,SqL.of cY⟩
theorem fS {H H':Hp} {l:Addr} (e:Same H H') (h:H l=none) (o:HO):Same H (upd H' l o):=fun b u hb=>by rw[er (mz hb h)]; exact e _ _ hb
def top (i:Nat):Stmt:=PySem.Challenge.pw_tariffgate_k66_said_otherwise.main.body.getD i (.Pass ⟨0,0,0,0⟩)
theorem bo:(("line":Str) == ("__debug__":Str))=false:=by decide
theorem bq:(("line":Str) == ("__classdict__":Str))=false:=by decide
theorem bD:(("flows":Str) == ("__debug__":Str))=false:=by decide
theorem bE:(("flows":Str) == ("__classdict__":Str))=false:=by decide
theorem bA:(("place":Str) == ("__debug__":Str))=false:=by decide
theorem bB:(("place":Str) == ("__classdict__":Str))=false:=by decide
theorem eZ:(("others":Str) == ("__debug__":Str))=false:=by decide
theorem fb:(("others":Str) == ("__classdict__":Str))=false:=by decide
theorem aT:(("entry":Str) == ("__debug__":Str))=false:=by decide
theorem aU:(("entry":Str) == ("__classdict__":Str))=false:=by decide
theorem iq:(("flow":Str) == ("__debug__":Str))=false:=by decide
theorem ir:(("flow":Str) == ("__classdict__":Str))=false:=by decide
theorem eD:(("other":Str) == ("__debug__":Str))=false:=by decide
theorem eE:(("other":Str) == ("__classdict__":Str))=false:=by decide
abbrev av:Stmt:=top 15
theorem dm:FnScope ["line","flows","place","others","entry","flow","other"] ["line","flows","place"] (defScope av):=⟨rfl,rfl,rfl,by decide +kernel,rfl,by decide +kernel,by decide +kernel⟩
theorem oo:Vis (defScope av) "line":=by decreasing_trivial
theorem oq:Vis (defScope av) "flows":=by decreasing_trivial
theorem ot:Vis (defScope av) "place":=by decreasing_trivial
theorem jp:Vis (defScope av) "others":=by decreasing_trivial
theorem ou:Loc (defScope av) "others":=by first | exact Or.inl rfl | exact Or.inr rfl
theorem jq:Vis (defScope av) "entry":=by decreasing_trivial
theorem oy:Loc (defScope av) "entry":=by first | exact Or.inl rfl | exact Or.inr rfl
theorem oz:Vis (defScope av) "flow":=by decreasing_trivial
theorem oA:Loc (defScope av) "flow":=by first | exact Or.inl rfl | exact Or.inr rfl
theorem oB:Vis (defScope av) "other":=by decreasing_trivial
theorem oC:Loc (defScope av) "other":=by first | exact Or.inl rfl | exact Or.inr rfl
theorem iO:(defScope av).names.lookup ("enumerate":Str)=some .globalImplicit:=by rfl
abbrev En:=List Nat×Int
def LnAt (K:PySem.W.Frag) (H:Hp) (l:Addr) (L:List En):Prop:=∃ us,SqL K H l us∧Paired (fun v (e:En)=>∃ t q,v=V.ref t∧SqT K H t [.ref q,.int e.2]∧SqL K H q (e.1.map fun j:Nat=>V.int (j:Int))) us L
theorem uQ {K:PySem.W.Frag} {H H':Hp} (e:Same H H'):∀ {us:List V} {L:List En},Paired (fun v (e:En)=>∃ t q,v=V.ref t∧SqT K H t [.ref q,.int e.2]∧SqL K H q (e.1.map fun j:Nat=>V.int (j:Int))) us L→Paired (fun v (e:En)=>∃ t q,v=V.ref t∧SqT K H' t [.ref q,.int e.2]∧SqL K H' q (e.1.map fun j:Nat=>V.int (j:Int))) us L
 | _,_,.nil=>.nil
 | _,_,.cons ⟨t,q,a,b,c⟩ r=>.cons ⟨t,q,a,Same.tup e b,e.seq c⟩ (uQ e r)
theorem LnAt.same {K:PySem.W.Frag} {H H':Hp} {l:Addr} {L:List En} (h:LnAt K H l L) (e:Same H H'):LnAt K H' l L:=by
 obtain⟨us,a,b⟩:=h
 exact⟨us,e.seq a,uQ e b⟩
theorem tT {K:PySem.W.Frag} {H:Hp}:∀ {us:List V} {L:List En} {i:Nat} {en:En},Paired (fun v (e:En)=>∃ t q,v=V.ref t∧SqT K H t [.ref q,.int e.2]∧SqL K H q (e.1.map fun j:Nat=>V.int (j:Int))) us L→L[i]?=some en→∃ t q,us[i]?=some (.ref t)∧SqT K H t [.ref q,.int en.2]∧SqL K H q (en.1.map fun j:Nat=>V.int (j:Int))
 | _,_,_,_,.nil,h=>by cases h
 | _,_,0,_,.cons ⟨t,q,a,b,c⟩ _,h=>by
  cases h
  exact⟨t,q,by rw[a]; rfl,b,c⟩
 | _,_,i+1,_,.cons _ r,h=>by
  rw[List.getElem?_cons_succ] at h
  obtain⟨t,q,a,b,c⟩:=tT r h
  exact⟨t,q,by rw[List.getElem?_cons_succ]; exact a,b,c⟩
theorem LnAt.get {K:PySem.W.Frag} {H:Hp} {l:Addr} {L:List En} {i:Nat} {en:En} (h:LnAt K H l L) (hi:L[i]?=some en):∃ us t q,SqL K H l us∧us[i]?=some (.ref t)∧SqT K H t [.ref q,.int en.2]∧SqL K H q (en.1.map fun j:Nat=>V.int (j:Int)):=by
 obtain⟨us,a,b⟩:=h
 obtain⟨t,q,c,d,e⟩:=tT b hi
 exact⟨us,t,q,a,c,d,e⟩
structure FlAt (H:Hp) (g:Addr) (rs:List Addr) (F:List (List Int)):Prop where
 top:H g=some (.lst (rs.map V.ref))
 len:rs.length=F.length
 row:∀ (e:Nat) (r:Addr) (fl:List Int),rs[e]?=some r→F[e]?=some fl→H r=some (.lst (fl.map V.int))
 nd:rs.Nodup
 ne:∀ r∈rs,r≠g
theorem FlAt.same {H H':Hp} {g:Addr} {rs:List Addr} {F:List (List Int)} (h:FlAt H g rs F) (e:Same H H'):FlAt H' g rs F:=⟨e _ _ h.top,h.len,fun i r fl a b=>e _ _ (h.row i r fl a b),h.nd,h.ne⟩
def fl (F:List (List Int)) (e j:Nat):Int:=(F.getD e []).getD j 0
def pl (L:List En) (e:Nat):List Nat:=(L.getD e ([],0)).1
def Led (L:List En) (F:List (List Int)) (j e o:Nat):Prop:=e<F.length∧0<fl F e j∧o∈pl L e
structure LedS (S:Nat→Nat→Prop) (kvs:List (Key×V)):Prop where
 out:∀ k v,valV kvs k=some v→∃ o e:Nat,k=.inl (o:Int)∧v=.int (e:Int)∧S e o
 all:∀ e o,S e o→∃ v,valV kvs (.inl (o:Int))=some v
 nd:(kvs.map (·.1)).Nodup
theorem LedS.weak {S S':Nat→Nat→Prop} {kvs:List (Key×V)} (h:LedS S kvs) (a:∀ e o,S e o→S' e o) (b:∀ e o,S' e o→S e o):LedS S' kvs :=
 ⟨fun k v q=>by obtain⟨o,e,x,y,z⟩:=h.out k v q; exact⟨o,e,x,y,a _ _ z⟩,fun e o s=>h.all e o (b _ _ s),h.nd⟩
theorem LedS.put {S S':Nat→Nat→Prop} {kvs:List (Key×V)} {e o:Nat} (h:LedS S kvs) (hn:valV kvs (.inl (o:Int))=none) (a:∀ e o,S e o→S' e o) (s:S' e o) (b:∀ e' o',S' e' o'→S e' o'∨o'=o):LedS S' (putK kvs (.inl (o:Int)) (.int (e:Int))):=by
 refine⟨fun k v q=>?_,fun e' o' s'=>?_,HE _ h.nd hn⟩
 ·rw[A3] at q
  by_cases z:k=.inl (o:Int)
  ·rw[if_pos z] at q
   cases q
   exact⟨o,e,z,rfl,s⟩
  ·rw[if_neg z] at q
   obtain⟨o',e',x,y,w⟩:=h.out k v q
   exact⟨o',e',x,y,a _ _ w⟩
 ·rw[A3]
  by_cases z:(Sum.inl (o':Int):Key)=.inl (o:Int)
  ·rw[if_pos z]
   exact⟨_,rfl⟩
  ·rw[if_neg z]
   rcases b _ _ s' with w | w
   ·exact h.all _ _ w
   ·exact absurd (by rw[w]) z
theorem LedS.stay {S S':Nat→Nat→Prop} {kvs:List (Key×V)} {o:Nat} {v:V} (h:LedS S kvs) (hv:valV kvs (.inl (o:Int))=some v) (a:∀ e o,S e o→S' e o) (b:∀ e' o',S' e' o'→S e' o'∨o'=o):LedS S' kvs :=
 ⟨fun k v q=>by obtain⟨o,e,x,y,z⟩:=h.out k v q; exact⟨o,e,x,y,a _ _ z⟩,fun e' o' s=>by
  rcases b _ _ s with w | w
  ·exact h.all _ _ w
  ·rw[w]
   exact⟨v,hv⟩,h.nd⟩
structure Siz (m:Nat) (L:List En) (F:List (List Int)):Prop where
 fl:F.length≤L.length
 l:L.length≤64
 row:∀ r∈F,r.length=m
 pl:∀ en∈L,en.1.length≤64∧∀ o∈en.1,o<m
 nd:∀ en∈L,en.1.Nodup
 m:m≤60
def Dy (K:PySem.W.Frag):Sp:=fun vs H Q _=>∃ (l g:Addr) (j m:Nat) (L:List En) (rs:List Addr) (F:List (List Int)),vs=[.ref l,.ref g,.int j]∧LnAt K H l L∧FlAt H g rs F∧Siz m L F∧j<m ∧
 ∀ (D:Addr) (kvs:List (Key×V)) (H':Hp),Same H H'→H D=none→H' D=some (.dK kvs)→LedS (Led L F j) kvs→Q (.ref D) H'
section
variable {P:Program} {w:World} {K:PySem.W.Frag} {mg:Str→Option Value} {base:Heap} {f:Addr} {fd:FuncData}
theorem Bu (F:Fun K "led_over" "led_over" av f fd) (M:Mg mg):FnOk P w K mg base CX0 1 f fd ["line","flows","place"] (Dy K):=by
 refine F.ok dm (fun vs H Q E h=>?_) (fun cdv A outer s H vs Q E hr h=>?_)
 ·obtain⟨l,g,j,m,L,rs,F',rfl,_⟩:=h
  rfl
 obtain⟨l,g,j,m,L,rs,Fl,rfl,hL,hF,sz,hj,q⟩:=h
 refine⟨_,(@dI _ _ _ _ _ (@ic _ _ 3 _ _ _ _ dm.nd rfl ou (@FE _ _) (fZ rfl) (.inl rfl)) (@dI _ _ _ _ _ (@pC _ _ _ _ _ _ _ _ PassesOwn.never rfl (@vZ _ _ _ _ _ _ _ _ iO M.m_enumerate (@bO _ _ _ _ _ (@cO _ 1 _ _ rfl oq bD bE) (@cT _) (cg rfl)) (by rfl)) (@uP _ _ _ _ _ _ rfl (@gS _ _ _ _ _ (@fj _ _ 4 _ dm.nd rfl oy (.inl rfl)) (@gS _ _ _ _ _ (@fj _ _ 5 _ dm.nd rfl oA (.inl rfl)) (@oW _) (by rfl)) (by rfl)) (by rfl) (by rfl)) (@eF _ _ _ (@nC _ _ _ _ _ _ _ _ (@kB _ _ _ _ _ _ _ _ (@vK _) (@gu _ _ _ _ _ _ _ (@iV _) (@cO _ 5 _ _ rfl oz iq ir) (@cO _ 2 _ _ rfl ot bA bB) (fun _ _=>rfl)) (@dw _ _ _ _) (i8 _)) (@eF _ _ _ (@pC _ _ _ _ _ _ _ _ PassesOwn.never rfl (@kL _ _ _ _ (@gu _ _ _ _ _ _ _ (@ni _) (@gu _ _ _ _ _ _ _ (@iV _) (@cO _ 0 _ _ rfl oo bo bq) (@cO _ 4 _ _ rfl jq aT aU) (fun _ _=>rfl)) (@dw _ _ _ _) (fun _ _=>rfl))) (@fj _ _ 6 _ dm.nd rfl oC (.inl rfl)) (@eF _ _ _ (@r8 _ _ _ _ (@C5 _ _ _ _ _ _ _ _ _ (@cO _ 3 _ _ rfl jp eZ fb) (@cO _ 6 _ _ rfl oB eD eE) (@cO _ 4 _ _ rfl jq aT aU) ⟨rfl,rfl,rfl,rfl⟩) (fZ rfl))) (by intro _; rfl))) (@m8 _))) (by intro _; rfl)) (@eF _ _ _ (@ia _ _ _ _ (@cO _ 3 _ _ rfl jp eZ fb))))),?_⟩
 trivial
 refine fun p hp=>⟨⟨_,SqL.of (fD hp _ _ _ hF.top)⟩,?_⟩
 obtain⟨Pv,hP⟩:∃ Pv:Nat→St→Hp→Prop,Pv=fun i σ H'=>∃ (kvs:List (Key×V)) (x y z:Option V),H' p=some (.dK kvs)∧LedS (fun e o=>e<i∧Led L Fl j e o) kvs∧kvs.length≤i * 64∧Same H H'∧σ=[some (.ref l),some (.ref g),some (.int j),some (.ref p),x,y,z]:=⟨_,rfl⟩
 refine DH (rs.map V.ref) Pv ?_ (fun i σ H' _ h=>by rw[hP] at h; obtain⟨_,_,_,_,_,_,_,e,_⟩:=h; exact SqL.of (e _ _ hF.top)) ?_ ?_
 ·rw[hP]
  exact⟨[],_,_,_,cY,⟨(fun k v z=>by cases z),(fun e o z=>by omega),List.nodup_nil⟩,Nat.zero_le _,fD hp _,rfl⟩
 ·intro i v T σ H' hi h hT
  rw[hP] at h
  obtain⟨kvs,x,y,z,d,led,lk,e,rfl⟩:=h
  rw[List.getElem?_map] at hi
  obtain⟨r,hr',rfl⟩:=Option.map_eq_some_iff.mp hi
  have li:i<Fl.length:=by rw[← hF.len]; exact (List.getElem?_eq_some_iff.mp hr').1
  trivial
  obtain⟨H2,gH,S2,T2⟩:=ki (K:=K) hT [V.int (i:Int),V.ref r]
  rw[← gH]
  clear gH
  have e2:=e.trans S2
  have d2:=S2 _ _ d
  obtain⟨row,hrow⟩:∃ row,Fl[i]?=some row:=⟨_,List.getElem?_eq_getElem li⟩
  have dr:=hF.row i r row hr' hrow
  have lrow:row.length=m:=sz.row row (List.mem_iff_getElem?.mpr ⟨_,hrow⟩)
  have hjr:atI (row.map V.int) (j:Int)=some (.int (row.getD j 0)):=uF (by omega) (by omega)
  have efl:fl Fl i j=row.getD j 0:=by
   unfold fl
   rw[show Fl.getD i []=row by simp [List.getD,hrow]]
  refine⟨_,T2,rfl,_,_,rfl,_,_,rfl,rfl,r,rfl,_,SqL.of (e2 _ _ dr),_,hjr,_,rfl,?_⟩
  by_cases hpos:0<row.getD j 0
  ·rw[if_pos hpos]
   have li2:i<L.length:=by have:=sz.fl; omega
   obtain⟨en,hen⟩:∃ en,L[i]?=some en:=⟨_,List.getElem?_eq_getElem li2⟩
   have epl:pl L i=en.1:=by
    unfold pl
    rw[show L.getD i ([],0)=en by simp [List.getD,hen]]
   obtain⟨us,t,q',a1,a2,a3,a4⟩:=hL.get hen
   obtain⟨len1,len2⟩:=sz.pl en (List.mem_iff_getElem?.mpr ⟨_,hen⟩)
   refine⟨us,(i:Int),rfl,e2.seq a1,_,oh a2,t,rfl,_,Same.tup e2 a3,_,rfl,q',rfl,⟨_,e2.seq a4⟩,?_⟩
   obtain⟨Pw,hW⟩:∃ Pw:Nat→St→Hp→Prop,Pw=fun k σ H3=>∃ (kvs:List (Key×V)) (z:Option V),H3 p=some (.dK kvs)∧LedS (fun e o=>(e<i∧Led L Fl j e o)∨(e=i∧o∈en.1.take k)) kvs∧kvs.length≤i * 64+k∧Same H H3∧σ=[some (.ref l),some (.ref g),some (.int j),some (.ref p),some (.int (i:Int)),some (.ref r),z]:=⟨_,rfl⟩
   refine sy (K:=K) (en.1.map fun j:Nat=>V.int (j:Int)) Pw ?_ (fun k σ H3 _ h=>by rw[hW] at h; obtain⟨_,_,_,_,_,e3,_⟩:=h; exact e3.seq a4) ?_ ?_
   ·rw[hW]
    exact⟨kvs,_,d2,led.weak (fun e o s=>.inl s) (fun e o s=>by
     rcases s with s | ⟨_,s⟩
     ·exact s
     ·rw[List.take_zero] at s; cases s),by omega,e2,rfl⟩
   ·intro k v σ H3 hk h
    rw[hW] at h
    obtain⟨kv3,z3,d3,led3,lk3,e3,rfl⟩:=h
    rw[List.getElem?_map] at hk
    obtain⟨o,ho,rfl⟩:=Option.map_eq_some_iff.mp hk
    have lk':k<en.1.length:=(List.getElem?_eq_some_iff.mp ho).1
    have et:en.1.take (k+1)=en.1.take k++[o]:=by
     rw[List.take_add_one,ho]
     rfl
    have up:∀ e o',((e<i∧Led L Fl j e o')∨(e=i∧o'∈en.1.take k))→((e<i∧Led L Fl j e o')∨(e=i∧o'∈en.1.take (k+1))):=fun e o' s=>by
     rcases s with s | ⟨s1,s2⟩
     ·exact .inl s
     ·exact .inr ⟨s1,by rw[et]; exact List.mem_append_left _ s2⟩
    have dn:∀ e o',((e<i∧Led L Fl j e o')∨(e=i∧o'∈en.1.take (k+1)))→((e<i∧Led L Fl j e o')∨(e=i∧o'∈en.1.take k))∨o'=o:=fun e o' s=>by
     rcases s with s | ⟨s1,s2⟩
     ·exact .inl (.inl s)
     ·rw[et] at s2
      rcases List.mem_append.mp s2 with s2 | s2
      ·exact .inl (.inr ⟨s1,s2⟩)
      ·exact .inr (List.mem_singleton.mp s2)
    have l6:=sz.l
    trivial
    refine⟨.inl ⟨_,.inl d3⟩,kv3,d3,.inl (o:Int),rfl,Nat.lt_of_lt_of_le (m:=5000) (by omega) (by decide),fun v hv=>?_,fun hn=>?_⟩
    ·rw[hW]
     exact⟨kv3,_,d3,led3.stay hv up dn,by omega,e3,rfl⟩
    ·rw[hW]
     refine⟨_,_,cY,led3.put hn up (.inr ⟨rfl,by rw[et]; exact List.mem_append_right _ (List.mem_singleton.mpr rfl)⟩) dn,?_,fS e3 hp _,rfl⟩
     have:=ug kv3 (.inl (o:Int)) (.int (i:Int))
     omega
   ·intro σ H3 h
    rw[hW] at h
    obtain⟨kv3,z3,d3,led3,lk3,e3,rfl⟩:=h
    rw[List.length_map,List.take_of_length_le (Nat.le_refl _)] at led3
    rw[List.length_map] at lk3
    rw[hP]
    refine⟨kv3,_,_,_,d3,led3.weak (fun e o s=>?_) (fun e o s=>?_),by omega,e3,rfl⟩
    ·rcases s with s | ⟨rfl,s⟩
     ·exact⟨by omega,s.2⟩
     ·exact⟨by omega,li,by rw[efl]; exact hpos,by rw[epl]; exact s⟩
    ·by_cases z:e<i
     ·exact .inl ⟨z,s.2⟩
     ·have ee:e=i:=by omega
      subst ee
      exact .inr ⟨rfl,by rw[← epl]; exact s.2.2.2⟩
  ·rw[if_neg hpos,hP]
   refine⟨kvs,_,_,_,d2,led.weak (fun e o s=>⟨by omega,s.2⟩) (fun e o s=>⟨?_,s.2⟩),by omega,e2,rfl⟩
   by_cases z:e<i
   ·exact z
   ·have ee:e=i:=by omega
    subst ee
    have:=s.2.2.1
    rw[efl] at this
    exact absurd this hpos
 ·intro σ H' h
  rw[hP] at h
  obtain⟨kvs,x,y,z,d,led,lk,e,rfl⟩:=h
  trivial
  refine q _ _ _ e hp d (led.weak (fun e o s=>s.2) fun e o s=>⟨?_,s⟩)
  rw[List.length_map,hF.len]
  exact s.1
end
end My
namespace MyB
open My PySem L2
def top (i:Nat):Stmt:=PySem.Challenge.pw_tariffgate_k66_said_otherwise.main.body.getD i (.Pass ⟨0,0,0,0⟩)
theorem bJ:(("reached":Str) == ("__debug__":Str))=false:=by decide
theorem bK:(("reached":Str) == ("__classdict__":Str))=false:=by decide
theorem iP:(("waiting":Str) == ("__debug__":Str))=false:=by decide
theorem iQ:(("waiting":Str) == ("__classdict__":Str))=false:=by decide
theorem lS:(("dict":Str) == ("__debug__":Str))=false:=by decide
theorem lT:("dict":Str)≠"__name__":=by decide
theorem bh:(("list":Str) == ("__debug__":Str))=false:=by decide
theorem bi:("list":Str)≠"__name__":=by decide
theorem az:(("len":Str) == ("__debug__":Str))=false:=by decide
theorem aA:("len":Str)≠"__name__":=by decide
theorem qp:(("led_over":Str) == ("__debug__":Str))=false:=by decide
abbrev ah:Stmt:=top 16
theorem cc:FnScope ["line","flows","entry","reached","waiting","place","others","other"] ["line","flows","entry"] (defScope ah):=⟨rfl,rfl,rfl,by decide +kernel,rfl,by decide +kernel,by decide +kernel⟩
theorem iu:Vis (defScope ah) "line":=by decreasing_trivial
theorem lU:Vis (defScope ah) "flows":=by decreasing_trivial
theorem lV:Vis (defScope ah) "entry":=by decreasing_trivial
theorem df:Vis (defScope ah) "reached":=by decreasing_trivial
theorem lW:Loc (defScope ah) "reached":=by first | exact Or.inl rfl | exact Or.inr rfl
theorem eI:Vis (defScope ah) "waiting":=by decreasing_trivial
theorem lX:Loc (defScope ah) "waiting":=by first | exact Or.inl rfl | exact Or.inr rfl
theorem iy:Vis (defScope ah) "place":=by decreasing_trivial
theorem lY:Loc (defScope ah) "place":=by first | exact Or.inl rfl | exact Or.inr rfl
theorem iA:Vis (defScope ah) "others":=by decreasing_trivial
theorem lZ:Loc (defScope ah) "others":=by first | exact Or.inl rfl | exact Or.inr rfl
theorem dh:Vis (defScope ah) "other":=by decreasing_trivial
theorem md:Loc (defScope ah) "other":=by first | exact Or.inl rfl | exact Or.inr rfl
theorem j3:(defScope ah).names.lookup ("dict":Str)=some .globalImplicit:=by rfl
theorem j4:(defScope ah).names.lookup ("list":Str)=some .globalImplicit:=by rfl
theorem kI:(defScope ah).names.lookup ("len":Str)=some .globalImplicit:=by rfl
theorem iB:(defScope ah).names.lookup ("led_over":Str)=some .globalImplicit:=by rfl
abbrev Rc:=Nat×Nat×Option Nat
def uW:Option Nat→V
 | none=>.non
 | some b=>.int (b:Int)
def RcAt (K:PySem.W.Frag) (H:Hp) (kvs:List (Key×V)) (R:List Rc):Prop:=Paired (fun (kv:Key×V) (x:Rc)=>kv.1=.inl (x.1:Int)∧∃ t,kv.2=V.ref t∧SqT K H t [.int (x.2.1:Int),uW x.2.2]) kvs R
theorem RcAt.same {K:PySem.W.Frag} {H H':Hp} (e:Same H H'):∀ {kvs:List (Key×V)} {R:List Rc},RcAt K H kvs R→RcAt K H' kvs R
 | _,_,.nil=>.nil
 | _,_,.cons ⟨a,t,b,c⟩ r=>.cons ⟨a,t,b,Same.tup e c⟩ (RcAt.same e r)
theorem uc {K:PySem.W.Frag} {H:Hp} {D p:Addr} {o o':HO} {xs:List V} (hD:H D=some o) (n1:∀ ys,o≠.tup ys) (n2:∀ ob ys,o≠.frz ob (.tup ys)) (h:SqT K H p xs):SqT K (upd H D o') p xs:=by
 rcases h with (h | ⟨ob,h⟩) | h
 ·exact .inl (.inl (by rw[er (fun z=>by rw[z,hD] at h; cases h; exact n1 _ rfl)]; exact h))
 ·exact .inl (.inr ⟨ob,by rw[er (fun z=>by rw[z,hD] at h; cases h; exact n2 _ _ rfl)]; exact h⟩)
 ·exact .inr h
theorem RcAt.upd {K:PySem.W.Frag} {H:Hp} {D:Addr} {o o':HO} (hD:H D=some o) (n1:∀ ys,o≠.tup ys) (n2:∀ ob ys,o≠.frz ob (.tup ys)):∀ {kvs:List (Key×V)} {R:List Rc},RcAt K H kvs R→RcAt K (L2.upd H D o') kvs R
 | _,_,.nil=>.nil
 | _,_,.cons ⟨a,t,b,c⟩ r=>.cons ⟨a,t,b,uc hD n1 n2 c⟩ (RcAt.upd hD n1 n2 r)
theorem RcAt.snoc {K:PySem.W.Frag} {H:Hp} {p e:Nat} {b:Option Nat} {t:Addr} (h:SqT K H t [.int (e:Int),uW b]):∀ {kvs:List (Key×V)} {R:List Rc},RcAt K H kvs R→RcAt K H (kvs++[(.inl (p:Int),.ref t)]) (R++[(p,e,b)])
 | _,_,.nil=>.cons ⟨rfl,t,rfl,h⟩ .nil
 | _,_,.cons a r=>.cons a (RcAt.snoc h r)
theorem RcAt.keys {K:PySem.W.Frag} {H:Hp}:∀ {kvs:List (Key×V)} {R:List Rc},RcAt K H kvs R→kvs.map (·.1)=R.map fun x=>(Sum.inl (x.1:Int):Key)
 | _,_,.nil=>rfl
 | _,_,.cons ⟨a,_⟩ r=>by rw[List.map_cons,List.map_cons,RcAt.keys r,a]
theorem RcAt.len {K:PySem.W.Frag} {H:Hp} {kvs:List (Key×V)} {R:List Rc} (h:RcAt K H kvs R):kvs.length=R.length:=by
 have:=congrArg List.length h.keys
 simpa using this
theorem RcAt.mem {K:PySem.W.Frag} {H:Hp} {kvs:List (Key×V)} {R:List Rc} (h:RcAt K H kvs R) (p:Nat):(Sum.inl (p:Int):Key)∈kvs.map (·.1)↔p∈R.map (·.1):=by
 rw[h.keys]
 constructor
 ·intro z
  obtain⟨x,hx,e⟩:=List.mem_map.mp z
  have:x.1=p:=by
   have:=Sum.inl.inj e
   omega
  exact List.mem_map.mpr ⟨x,hx,this⟩
 ·intro z
  obtain⟨x,hx,e⟩:=List.mem_map.mp z
  exact List.mem_map.mpr ⟨x,hx,by rw[e]⟩
theorem v7 {kvs:List (Key×V)} {k:Key} {v:V} (h:valV kvs k=none):putK kvs k v=kvs++[(k,v)]:=by
 unfold putK
 rw[if_neg]
 intro z
 obtain⟨kv,a,b⟩:=List.any_eq_true.mp z
 exact xY h (List.mem_map.mpr ⟨kv,a,of_decide_eq_true b⟩)
theorem Aw:∀ (kvs q:List (Key×V)),(q.map (·.1)++kvs.map (·.1)).Nodup→kvs.foldl (fun q kv=>putK q kv.1 kv.2) q=q++kvs
 | [],q,_=>by simp
 | kv::kvs,q,h=>by
  have hn:valV q kv.1=none:=by
   cases hv:valV q kv.1 with
   | none=>rfl
   | some v =>
    have m1:=yW hv
    rw[List.map_cons,List.nodup_append] at h
    exact absurd rfl (h.2.2 _ m1 _ List.mem_cons_self)
  rw[List.foldl_cons,v7 hn,Aw kvs (q++[(kv.1,kv.2)]) (by
   rw[List.map_append,List.append_assoc]
   exact h)]
  simp
theorem AN {kvs:List (Key×V)} (h:(kvs.map (·.1)).Nodup):vM kvs=kvs:=by
 unfold vM
 rw[Aw kvs [] (by simpa using h)]
 rfl
theorem AM:∀ {l:List Nat},l.Nodup→(l.map fun p:Nat=>(Sum.inl (p:Int):Key)).Nodup
 | [],_=>List.nodup_nil
 | a::l,h=>by
  rw[List.map_cons,List.nodup_cons] at *
  refine⟨fun z=>?_,AM h.2⟩
  obtain⟨b,hb,e⟩:=List.mem_map.mp z
  have:b=a:=by
   have:=Sum.inl.inj e
   omega
  exact h.1 (this ▸ hb)
theorem sP:∀ (m:Nat) (l:List Nat),l.Nodup→(∀ x∈l,x<m)→l.length≤m
 | 0,[],_,_=>Nat.le_refl _
 | 0,x::l,_,h=>absurd (h x List.mem_cons_self) (Nat.not_lt_zero _)
 | m+1,l,nd,h=>by
  by_cases hm:m∈l
  ·have:=sP m (l.erase m) (nd.erase _) fun x hx=>by
    have h1:=(nd.mem_erase_iff.mp hx)
    have:=h x h1.2
    have:=h1.1
    omega
   rw[List.length_erase_of_mem hm] at this
   omega
  ·have:=sP m l nd fun x hx=>by
    have h1:=h x hx
    have:x≠m:=fun e=>hm (e ▸ hx)
    omega
   omega
theorem yw:∀ {kvs:List (Key×V)} {i:Nat} {k:Key} {v:V},(kvs.map (·.1)).Nodup→kvs[i]?=some (k,v)→valV kvs k=some v
 | [],_,_,_,_,h=>by cases h
 | kv::kvs,0,_,_,_,h=>by
  cases h
  exact oX rfl
 | kv::kvs,i+1,k,v,nd,h=>by
  rw[List.map_cons,List.nodup_cons] at nd
  rw[List.getElem?_cons_succ] at h
  have ih:=yw nd.2 h
  have ne:¬ kv.1=k:=fun e=>nd.1 (by rw[e]; exact yW ih)
  unfold valV
  rw[List.find?_cons_of_neg (by simpa using ne)]
  exact ih
theorem BZ:∀ {kvs:List (Key×V)} {k:Key} {v:V},valV kvs k=some v→∃ i:Nat,kvs[i]?=some (k,v)
 | [],_,_,h=>by cases h
 | kv::kvs,k,v,h=>by
  by_cases e:kv.1=k
  ·rw[oX e] at h
   cases h
   exact⟨0,by rw[← e]; rfl⟩
  ·unfold valV at h
   rw[List.find?_cons_of_neg (by simpa using e)] at h
   obtain⟨i,hi⟩:=BZ h
   exact⟨i+1,by rw[List.getElem?_cons_succ]; exact hi⟩
structure Way (L:List En) (F:List (List Int)) (e0:Nat) (R:List Rc):Prop where
 nd:(R.map (·.1)).Nodup
 ok:∀ (i:Nat) (x:Rc),R[i]?=some x→(x.2.2=none∧x.2.1=e0∧x.1∈pl L e0)∨∃ b,x.2.2=some b∧b∈(R.take i).map (·.1)∧Led L F b x.2.1 x.1
theorem Way.snoc {L:List En} {F:List (List Int)} {e0 p e b:Nat} {R:List Rc} (h:Way L F e0 R) (hp:p ∉ R.map (·.1)) (hb:b∈R.map (·.1)) (hl:Led L F b e p):Way L F e0 (R++[(p,e,some b)]):=by
 refine⟨?_,fun i x hx=>?_⟩
 ·rw[List.map_append]
  exact wR h.nd hp
 ·by_cases hi:i<R.length
  ·rw[List.getElem?_append_left hi] at hx
   rcases h.ok i x hx with z | ⟨b',z1,z2,z3⟩
   ·exact .inl z
   ·exact .inr ⟨b',z1,by rw[List.take_append_of_le_length (by omega)]; exact z2,z3⟩
  ·rw[List.getElem?_append_right (by omega)] at hx
   have hi2:i-R.length=0:=by
    by_cases z:i-R.length=0
    ·exact z
    ·rw[List.getElem?_eq_none (by simp; omega)] at hx
     cases hx
   rw[hi2] at hx
   cases hx
   refine .inr ⟨b,rfl,?_,hl⟩
   rw[show i=R.length by omega,List.take_left]
   exact hb
structure Reach (L:List En) (F:List (List Int)) (e0:Nat) (R:List Rc):Prop where
 way:Way L F e0 R
 base:∀ p∈pl L e0,p∈R.map (·.1)
 shut:∀ p∈R.map (·.1),∀ e o,Led L F p e o→o∈R.map (·.1)
theorem JJ {m:Nat} {L:List En} {F:List (List Int)} {j e o:Nat} (sz:Siz m L F) (h:Led L F j e o):o<m:=by
 obtain⟨h1,_,h3⟩:=h
 have h4:e<L.length:=Nat.lt_of_lt_of_le h1 sz.fl
 unfold pl at h3
 rw[show L.getD e ([],0)=L[e] by simp [List.getD,h4]] at h3
 exact (sz.pl _ (List.getElem_mem h4)).2 o h3
def CL (K:PySem.W.Frag):Sp:=fun vs H Q _=>∃ (l g:Addr) (e0 m:Nat) (L:List En) (rs:List Addr) (F:List (List Int)),vs=[.ref l,.ref g,.int e0]∧LnAt K H l L∧FlAt H g rs F∧Siz m L F∧e0<L.length ∧
 ∀ (D:Addr) (kvs:List (Key×V)) (R:List Rc) (H':Hp),Same H H'→H D=none→H' D=some (.dK kvs)→RcAt K H' kvs R→Reach L F e0 R→(∀ p∈R.map (·.1),p<m)→Q (.ref D) H'
section
variable {P:Program} {w:World} {K:PySem.W.Frag} {mg:Str→Option Value} {base:Heap} {f:Addr} {fd:FuncData}
theorem zH (F:Fun K "reached_by" "reached_by" ah f fd) (M:Mg mg) (m_dict:mg "dict"=none) (iR:Cal P w K mg base CX0 "led_over" 1 ["line","flows","place"] (Dy K)):FnOk P w K mg base CX0 2 f fd ["line","flows","entry"] (CL K):=by
 refine F.ok cc (fun vs H Q E h=>?_) (fun cdv A outer s H vs Q E hr h=>?_)
 ·obtain⟨l,g,e0,m,L,rs,F',rfl,_⟩:=h
  rfl
 obtain⟨l,g,e0,m,L,rs,Fl,rfl,hL,hF,sz,he0,q⟩:=h
 refine⟨_,(@dI _ _ _ _ _ (@ic _ _ 3 _ _ _ _ cc.nd rfl lW (@nS _ _ _ _ _ _ _ _ _ (ye rfl) j3 m_dict DP (@bO _ _ _ _ _ (@mS _ _ _ _ _ _ _ _ _ _ _ _ _ _ _ rfl (CompOk.make (N':=["entry","place"]) (ix:=[2]) (nl:=1) (by rfl) (fm1 rfl fm0) (by rfl) (by decide +kernel) rfl (by decide +kernel) rfl (And.intro ⟨rfl,.inl rfl,.inl rfl⟩ True.intro)) (@kL _ _ _ _ (@gu _ _ _ _ _ _ _ (@ni _) (@gu _ _ _ _ _ _ _ (@iV _) (@cO _ 0 _ _ rfl iu bo bq) (@cO _ 2 _ _ rfl lV aT aU) (fun _ _=>rfl)) (@dw _ _ _ _) (fun _ _=>rfl))) (fun _ _ _ _ _=>(@fj _ _ 1 _ (show List.Nodup (["entry","place"]:List Str) from by decide) rfl (Or.inl rfl) (by first | exact .inl rfl | exact .inr rfl | assumption))) (fun _ _ _ _ _=>(@nk _)) (fun _ _ _ _ _=>(@tP _ _ _ _ _ (@bO _ _ _ _ _ (@pv _ 1 _ _ (by rfl) (by decreasing_trivial) (by decide) (by decide)) (@bO _ _ _ _ _ (@tP _ _ _ _ _ (@bO _ _ _ _ _ (@pv _ 0 _ _ (by rfl) (by decreasing_trivial) (by decide) (by decide)) (@bO _ _ _ _ _ (@tZ _ _ _) (@cT _) (cg rfl)) (cg rfl))) (@cT _) (cg rfl)) (cg rfl)))) (by intro _; rfl)) (@cT _) (cg rfl)) lT lS (cg rfl) ff) (fZ rfl) (.inl rfl)) (@dI _ _ _ _ _ (@ic _ _ 4 _ _ _ _ cc.nd rfl lX (@nS _ _ _ _ _ _ _ _ _ (BR rfl) j4 M.m_list tM (@bO _ _ _ _ _ (@cO _ 3 _ _ rfl df bJ bK) (@cT _) (cg rfl)) bi bh (cg rfl) ff) (fZ rfl) (.inl rfl)) (@dI _ _ _ _ _ (@xP _ _ _ _ _ _ PassesOwn.never (@kB _ _ _ _ _ _ _ _ (@vK _) (@fY _ _ _ _ _ _ _ _ _ iU kI M.m_len pW (@bO _ _ _ _ _ (@cO _ 4 _ _ rfl eI iP iQ) (@cT _) (cg rfl)) aA az (cg rfl) ff) (@dw _ _ _ _) (i8 _)) (@dI _ _ _ _ _ (@ic _ _ 5 _ _ _ _ cc.nd rfl lY (@uo _ _ _ _ _ _ _ _ _ _ _ _ PySem.F.plainAttrs_list PySem.F.slot_list_pop PySem.F.type_list_pop Gn (@cO _ 4 _ _ rfl eI iP iQ) (@bO _ _ _ _ _ (@dw _ _ _ _) (@cT _) (cg rfl)) (by rfl) (by rfl) (by rfl) (by rfl) (by rfl)) (fZ rfl) (.inl rfl)) (@dI _ _ _ _ _ (@ic _ _ 6 _ _ _ _ cc.nd rfl lZ (@fX _ _ _ _ _ _ _ _ _ _ _ iR hr iB (@bO _ _ _ _ _ (@cO _ 0 _ _ rfl iu bo bq) (@bO _ _ _ _ _ (@cO _ 1 _ _ rfl lU bD bE) (@bO _ _ _ _ _ (@cO _ 5 _ _ rfl iy bA bB) (@cT _) (cg rfl)) (cg rfl)) (cg rfl)) (by decide) qp (cg rfl) (fT rfl (fT rfl ff))) (fZ rfl) (.inl rfl)) (@eF _ _ _ (@pC _ _ _ _ _ _ _ _ PassesOwn.never rfl (@xJ _ _ _ _ (@cO _ 6 _ _ rfl iA eZ fb)) (@fj _ _ 7 _ cc.nd rfl md (.inl rfl)) (@eF _ _ _ (@nC _ _ _ _ _ _ _ _ (IF (@EX _ _ _ _ _ (uX hr) (@cO _ 7 _ _ rfl dh eD eE) (@cO _ 3 _ _ rfl df bJ bK)) (by rfl)) (@dI _ _ _ _ _ (@Ce _ _ _ _ _ _ _ _ _ (uX hr) (@cO _ 3 _ _ rfl df bJ bK) (@cO _ 7 _ _ rfl dh eD eE) (@tP _ _ _ _ _ (@bO _ _ _ _ _ (@wU _ _ _ _ _ _ (uX hr) (@cO _ 6 _ _ rfl iA eZ fb) (@cO _ 7 _ _ rfl dh eD eE) (fun _ _=>rfl)) (@bO _ _ _ _ _ (@cO _ 5 _ _ rfl iy bA bB) (@cT _) (cg rfl)) (cg rfl))) (fZ rfl)) (@eF _ _ _ (@r8 _ _ _ _ (@uo _ _ _ _ _ _ _ _ _ _ _ _ PySem.F.plainAttrs_list PySem.F.slot_list_append PySem.F.type_list_append nR (@cO _ 4 _ _ rfl eI iP iQ) (@bO _ _ _ _ _ (@cO _ 7 _ _ rfl dh eD eE) (@cT _) (cg rfl)) (by rfl) (by rfl) (by rfl) (by rfl) (by rfl)) (fZ rfl)))) (@m8 _))) (by intro _; rfl)))))) (@eF _ _ _ (@ia _ _ _ _ (@cO _ 3 _ _ rfl df bJ bK)))))),?_⟩
 trivial
 obtain⟨en,hen⟩:∃ en,L[e0]?=some en:=⟨_,List.getElem?_eq_getElem he0⟩
 have epl:pl L e0=en.1:=by
  unfold pl
  rw[show L.getD e0 ([],0)=en by simp [List.getD,hen]]
 obtain⟨us,t,q',a1,a2,a3,a4⟩:=hL.get hen
 have men:en∈L:=List.mem_iff_getElem?.mpr ⟨_,hen⟩
 obtain⟨len1,len2⟩:=sz.pl en men
 have lnd:=sz.nd en men
 refine⟨us,a1,_,oh a2,t,rfl,_,a3,_,rfl,q',rfl,⟨_,a4⟩,fun D hD=>?_⟩
 obtain⟨Pc,hC⟩:∃ Pc:Nat→St→Hp→Prop,Pc=fun i τ H2=>∃ (as:List Addr) (kvs:List (Key×V)) (z:Option V),H2 D=some (.lst (as.map V.ref))∧as.length=kvs.length∧(∀ (j:Nat) (a:Addr) (kv:Key×V),as[j]?=some a→kvs[j]?=some kv→SqT K H2 a [kV kv.1,kv.2])∧RcAt K H2 kvs ((en.1.take i).map fun p=>(p,e0,none))∧Same H H2∧τ=[some (.int (e0:Int)),z]:=⟨_,rfl⟩
 refine mC (K:=K) (en.1.map fun j:Nat=>V.int (j:Int)) Pc ?_ (fun k σ H3 _ h=>by rw[hC] at h; obtain⟨_,_,_,_,_,_,_,e3,_⟩:=h; exact e3.seq a4) ?_ ?_
 ·rw[hC]
  exact⟨[],[],_,cY,rfl,(fun j a kv z=>by cases z),.nil,fD hD _,rfl⟩
 ·intro i v τ H2 R' hi h next
  rw[hC] at h
  obtain⟨as,kvs,z,d2,la,ta,ra,e2,rfl⟩:=h
  rw[List.getElem?_map] at hi
  obtain⟨o,ho,rfl⟩:=Option.map_eq_some_iff.mp hi
  have et:en.1.take (i+1)=en.1.take i++[o]:=by
   rw[List.take_add_one,ho]
   rfl
  have li:i<en.1.length:=(List.getElem?_eq_some_iff.mp ho).1
  have lk:kvs.length≤i:=by
   rw[ra.len,List.length_map,List.length_take]
   omega
  trivial
  refine⟨by decide,fun p hp=>⟨by decide,fun p1 hp1=>?_⟩⟩
  obtain⟨H3,g3,S3,T3⟩:=ki (K:=K) hp [V.int (e0:Int),V.non]
  rw[← g3] at hp1 ⊢
  clear g3
  obtain⟨H4,g4,S4,T4⟩:=ki (K:=K) hp1 [V.int (o:Int),V.ref p]
  rw[← g4]
  clear g4
  have S34:=S3.trans S4
  have d4:=S34 _ _ d2
  refine⟨_,d4,Nat.lt_of_lt_of_le (m:=1000) (by rw[List.length_map]; omega) (by decide),next _ _ ?_⟩
  rw[hC]
  refine⟨as++[p1],kvs++[(.inl (o:Int),.ref p)],_,by rw[cY,List.map_append]; rfl,by simp [la],fun j a kv ha hk=>?_,?_,fS (e2.trans S34) hD _,rfl⟩
  ·by_cases hj:j<as.length
   ·rw[List.getElem?_append_left hj] at ha
    rw[List.getElem?_append_left (by omega)] at hk
    exact uc d4 (fun ys z=>by cases z) (fun _ _ z=>by cases z) (Same.tup S34 (ta j a kv ha hk))
   ·have hj2:j<(as++[p1]).length:=(List.getElem?_eq_some_iff.mp ha).1
    rw[List.length_append,List.length_singleton] at hj2
    have ej:j=as.length:=by omega
    subst ej
    rw[List.getElem?_append_right (Nat.le_refl _),Nat.sub_self] at ha
    rw[la,List.getElem?_append_right (Nat.le_refl _),Nat.sub_self] at hk
    cases ha
    cases hk
    exact uc d4 (fun ys z=>by cases z) (fun _ _ z=>by cases z) T4
  ·rw[et,List.map_append]
   exact RcAt.snoc (b:=none) (uc d4 (fun ys z=>by cases z) (fun _ _ z=>by cases z) (Same.tup S4 T3)) (RcAt.upd d4 (fun ys z=>by cases z) (fun _ _ z=>by cases z) (ra.same S34))
 ·intro τ H2 h
  rw[hC] at h
  obtain⟨as,kvs,z,d2,la,ta,ra,e2,rfl⟩:=h
  rw[List.length_map,List.take_of_length_le (Nat.le_refl _)] at ra
  refine⟨D,rfl,as,SqL.of d2,kvs,la,ta,fun d hd=>?_⟩
  rw[AN (by rw[ra.keys,List.map_map]; exact AM lnd)]
  have hdH:H d=none:=e2.free hd
  refine⟨kvs,.inl cY,fun w hw=>?_⟩
  have wd:w≠d:=fun z=>by rw[z,cY] at hw; cases hw
  have hw2:H2 w=none:=by rw[er wd] at hw; exact hw
  have hwH:H w=none:=e2.free hw2
  have R0p:((en.1.map fun p=>((p,e0,none):Rc)).map (·.1))=en.1:=by rw[List.map_map]; exact List.map_id _
  obtain⟨IV,hIV⟩:∃ IV:Nat→St→Hp→Prop,IV=fun M σ H'=>∃ (kvs:List (Key×V)) (R:List Rc) (W:List Nat) (x y z:Option V),H' d=some (.dK kvs)∧H' w=some (.lst (W.map fun p:Nat=>V.int (p:Int)))∧RcAt K H' kvs R∧Way L Fl e0 R∧(∀ p∈pl L e0,p∈R.map (·.1))∧(∀ p∈W,p∈R.map (·.1))∧(∀ p∈R.map (·.1),p∈W∨∀ e o,Led L Fl p e o→o∈R.map (·.1))∧(∀ p∈R.map (·.1),p<m)∧M+2 * R.length=2 * m+W.length∧W.length≤R.length∧Same H H'∧σ=[some (.ref l),some (.ref g),some (.int (e0:Int)),some (.ref d),some (.ref w),x,y,z]:=⟨_,rfl⟩
  refine⟨IV,⟨2 * m+en.1.length-2 * en.1.length,?_⟩,?_⟩
  ·rw[hIV]
   refine⟨kvs,en.1.map fun p=>(p,e0,none),en.1,_,_,_,by rw[er (Ne.symm wd),cY],?_,RcAt.same ((fD hd _).trans (fD hw _)) ra,⟨by rw[R0p]; exact lnd,fun i x hx=>?_⟩,fun p hp=>by rw[R0p,← epl]; exact hp,fun p hp=>by rw[R0p]; exact hp,fun p hp=>.inl (by rw[R0p] at hp; exact hp),fun p hp=>len2 p (by rw[R0p] at hp; exact hp),?_,by rw[List.length_map]; exact Nat.le_refl _,(e2.trans (fD hd _)).trans (fD hw _),rfl⟩
   ·rw[cY]
    have:=congrArg (List.map kV) ra.keys
    rw[List.map_map,List.map_map,List.map_map] at this
    exact congrArg (fun z=>some (HO.lst z)) this
   ·rw[List.getElem?_map] at hx
    obtain⟨p,hp,rfl⟩:=Option.map_eq_some_iff.mp hx
    exact .inl ⟨rfl,rfl,by rw[epl]; exact List.mem_iff_getElem?.mpr ⟨_,hp⟩⟩
   ·have:=sP m en.1 lnd len2
    rw[List.length_map]
    omega
  intro M' σ H3 h3
  rw[hIV] at h3
  obtain⟨kv3,R,W,x,y,z,d3,w3,r3,way,bs,wi,sh,lt,hM,wr,e3,rfl⟩:=h3
  trivial
  refine⟨_,.inl (SqL.of w3),?_⟩
  cases W with
  | nil =>
   rw[if_neg (by simp)]
   exact q d kv3 R H3 e3 hdH d3 r3 ⟨way,bs,fun p hp=>(sh p hp).resolve_left (fun z=>by cases z)⟩ lt
  | cons p W =>
   rw[if_pos (by simp)]
   refine⟨fun σ' H'=>∃ m',m'<M'∧IV m' σ' H',fun _ _ h=>h,.inl ⟨rfl,_,SqL.of w3⟩,_,w3,by decide,by decide,0,by rw[List.length_map]; exact seqIndex_of (by decide) (by simp),_,rfl,?_⟩
   have pR:=wi p List.mem_cons_self
   have e4:Same H (upd H3 w (.lst (W.map fun p:Nat=>V.int (p:Int)))):=fS e3 hwH _
   refine⟨l,g,p,m,L,rs,Fl,rfl,hL.same e4,hF.same e4,sz,lt p pR,fun D2 kl H5 e5 hD2 dD2 led=>⟨D2,rfl,kl,.inl dD2,fun ob H6 h6 oth=>?_⟩⟩
   have s46:Same (upd H3 w (.lst (W.map fun p:Nat=>V.int (p:Int)))) H6:=fun b u hb=>by
    rw[oth b (mz hb hD2)]
    exact e5 b u hb
   have hD2H:H D2=none:=e4.free hD2
   have dD:d≠D2:=mz (show upd H3 w (.lst (W.map fun p:Nat=>V.int (p:Int))) d=some (.dK kv3) by rw[er (Ne.symm wd)]; exact d3) hD2
   have wD:w≠D2:=mz (show upd H3 w (.lst (W.map fun p:Nat=>V.int (p:Int))) w=some (.lst (W.map fun p:Nat=>V.int (p:Int))) from cY) hD2
   obtain⟨Pw,hW⟩:∃ Pw:Nat→St→Hp→Prop,Pw=fun i σ H7=>∃ (kvs:List (Key×V)) (R:List Rc) (W:List Nat) (z:Option V) (N:Nat),H7 d=some (.dK kvs)∧H7 w=some (.lst (W.map fun p:Nat=>V.int (p:Int)))∧RcAt K H7 kvs R∧Way L Fl e0 R∧(∀ q∈pl L e0,q∈R.map (·.1))∧(∀ q∈W,q∈R.map (·.1))∧(∀ q∈R.map (·.1),q∈W∨q=p∨∀ e o,Led L Fl q e o→o∈R.map (·.1))∧(∀ (k o:Nat) (v:V),k<i→kl[k]?=some (.inl (o:Int),v)→o∈R.map (·.1))∧(∀ q∈R.map (·.1),q<m)∧p∈R.map (·.1)∧N<M'∧N+2 * R.length=2 * m+W.length∧W.length≤R.length∧H7 D2=some (.frz ob (.dK kl))∧Same H H7∧σ=[some (.ref l),some (.ref g),some (.int (e0:Int)),some (.ref d),some (.ref w),some (.int (p:Int)),some (.ref D2),z]:=⟨_,rfl⟩
   refine C8 kl Pw ?_ (fun i σ H7 _ h=>by rw[hW] at h; obtain⟨_,_,_,_,_,_,_,_,_,_,_,_,_,_,_,_,_,_,z,_⟩:=h; exact z) ?_ ?_
   ·rw[hW]
    refine⟨kv3,R,W,_,M' - 1,s46 _ _ (by rw[er (Ne.symm wd)]; exact d3),s46 _ _ cY,RcAt.same s46 (RcAt.upd w3 (fun ys z=>by cases z) (fun _ _ z=>by cases z) r3),way,bs,fun q hq=>wi q (List.mem_cons_of_mem _ hq),fun q hq=>?_,fun k o v z=>by omega,lt,pR,?_,?_,by rw[List.length_cons] at wr; omega,h6,e4.trans s46,rfl⟩
    ·rcases sh q hq with z | z
     ·rcases List.mem_cons.mp z with z | z
      ·exact .inr (.inl z)
      ·exact .inl z
     ·exact .inr (.inr z)
    ·have:=sP m (R.map (·.1)) way.nd lt
     rw[List.length_map] at this
     rw[List.length_cons] at hM
     omega
    ·have:=sP m (R.map (·.1)) way.nd lt
     rw[List.length_map] at this
     rw[List.length_cons] at hM
     omega
   ·intro i k v σ H7 hk h
    rw[hW] at h
    obtain⟨kv7,R7,W7,z7,N7,d7,w7,r7,way7,bs7,wi7,sh7,pr7,lt7,p7,n7,hM7,wr7,D7,e7,rfl⟩:=h
    have hv:=yw led.nd hk
    obtain⟨o,e,rfl,rfl,hled⟩:=led.out k v hv
    show vW 7 (V.int (o:Int)) _ _ _
    have om:o<m:=JJ sz hled
    have prn:∀ (S:List Nat),(∀ z∈R7.map (·.1),z∈S)→o∈S→∀ (k o2:Nat) (v:V),k<i+1→kl[k]?=some (.inl (o2:Int),v)→o2∈S:=fun S h1 h2 k2 o2 v2 hk2 hk3=>by
     by_cases z:k2<i
     ·exact h1 _ (pr7 k2 o2 v2 z hk3)
     ·have ek:k2=i:=by omega
      subst ek
      rw[hk] at hk3
      have h4:((o:Nat):Int)=(o2:Int):=Sum.inl.inj (Prod.mk.inj (Option.some.inj hk3)).1
      have:o2=o:=by omega
      rw[this]
      exact h2
    have lenR:=sP m (R7.map (·.1)) way7.nd lt7
    rw[List.length_map] at lenR
    have m64:=sz.m
    trivial
    refine⟨valV kv7 (.inl (o:Int)),.inl ⟨kv7,.inl (o:Int),.inl d7,rfl,rfl⟩,?_⟩
    cases hv7:valV kv7 (.inl (o:Int)) with
    | some v' =>
     rw[if_neg (by simp)]
     have oR:=(r7.mem o).mp (yW hv7)
     rw[hW]
     exact⟨kv7,R7,W7,_,N7,d7,w7,r7,way7,bs7,wi7,sh7,prn _ (fun _ z=>z) oR,lt7,p7,n7,hM7,wr7,D7,e7,rfl⟩
    | none =>
     rw[if_pos (by simp)]
     have oN:o ∉ R7.map (·.1):=fun z=>xY hv7 ((r7.mem o).mpr z)
     refine⟨.int (e:Int),.inl ⟨kl,.inl (o:Int),.inr ⟨ob,D7⟩,rfl,hv.symm⟩,by decide,fun T hT=>?_⟩
     obtain⟨H8,g8,S8,T8⟩:=ki (K:=K) hT [V.int (e:Int),V.int (p:Int)]
     rw[← g8]
     clear g8
     have d8:=S8 _ _ d7
     have way8:=way7.snoc oN p7 hled
     have lt8:∀ q∈(R7++[((o,e,some p):Rc)]).map (·.1),q<m:=fun q hq=>by
      rw[List.map_append] at hq
      rcases List.mem_append.mp hq with hq | hq
      ·exact lt7 q hq
      ·rw[List.mem_singleton.mp hq]
       exact om
     have lenR8:=sP m _ way8.nd lt8
     rw[List.length_map,List.length_append,List.length_singleton] at lenR8
     have old:∀ z∈R7.map (·.1),z∈(R7++[((o,e,some p):Rc)]).map (·.1):=fun z hz=>by
      rw[List.map_append]
      exact List.mem_append_left _ hz
     have oin:o∈(R7++[((o,e,some p):Rc)]).map (·.1):=by
      rw[List.map_append]
      exact List.mem_append_right _ (List.mem_singleton.mpr rfl)
     have w9:upd H8 d (.dK (putK kv7 (.inl (o:Int)) (.ref T))) w=some (.lst (W7.map fun p:Nat=>V.int (p:Int))):=by
      rw[er wd]
      exact S8 _ _ w7
     refine⟨_,.inl ⟨kv7,.inl (o:Int),d8,rfl,Nat.lt_of_lt_of_le (m:=1000) (by rw[r7.len]; omega) (by decide),rfl⟩,.inl ⟨rfl,_,SqL.of w9⟩,_,w9,Nat.lt_of_lt_of_le (m:=1000) (by rw[List.length_map]; omega) (by decide),?_⟩
     rw[hW]
     refine⟨kv7++[(.inl (o:Int),.ref T)],R7++[(o,e,some p)],W7++[o],_,N7-1,by rw[er (Ne.symm wd),cY,v7 hv7],by rw[cY,List.map_append]; rfl,?_,way8,fun q hq=>old q (bs7 q hq),fun q hq=>?_,fun q hq=>?_,prn _ old oin,lt8,old p p7,by omega,by rw[List.length_append,List.length_append,List.length_singleton,List.length_singleton]; omega,by rw[List.length_append,List.length_append,List.length_singleton,List.length_singleton]; omega,by rw[er (Ne.symm wD),er (Ne.symm dD)]; exact S8 _ _ D7,fS (fS (e7.trans S8) hdH _) hwH _,rfl⟩
     ·refine RcAt.upd w9 (fun ys z=>by cases z) (fun _ _ z=>by cases z) (RcAt.upd d8 (fun ys z=>by cases z) (fun _ _ z=>by cases z) (RcAt.snoc (b:=some p) T8 (r7.same S8)))
     ·rcases List.mem_append.mp hq with hq | hq
      ·exact old q (wi7 q hq)
      ·rw[List.mem_singleton.mp hq]
       exact oin
     ·rw[List.map_append] at hq
      rcases List.mem_append.mp hq with hq | hq
      ·rcases sh7 q hq with z | z | z
       ·exact .inl (List.mem_append_left _ z)
       ·exact .inr (.inl z)
       ·exact .inr (.inr fun e o hl=>old _ (z e o hl))
      ·exact .inl (List.mem_append_right _ hq)
   ·intro σ H7 h
    rw[hW] at h
    obtain⟨kv7,R7,W7,z7,N7,d7,w7,r7,way7,bs7,wi7,sh7,pr7,lt7,p7,n7,hM7,wr7,D7,e7,rfl⟩:=h
    refine⟨N7,n7,?_⟩
    rw[hIV]
    refine⟨kv7,R7,W7,_,_,_,d7,w7,r7,way7,bs7,wi7,fun q hq=>?_,lt7,hM7,wr7,e7,rfl⟩
    rcases sh7 q hq with z | z | z
    ·exact .inl z
    ·subst z
     refine .inr fun e o hl=>?_
     obtain⟨v,hv⟩:=led.all e o hl
     obtain⟨k,hk⟩:=BZ hv
     exact pr7 k o v (List.getElem?_eq_some_iff.mp hk).1 hk
    ·exact .inr z
end
end MyB
namespace MyC
open My MyB PySem L2
def top (i:Nat):Stmt:=PySem.Challenge.pw_tariffgate_k66_said_otherwise.main.body.getD i (.Pass ⟨0,0,0,0⟩)
theorem eJ:(("moves":Str) == ("__debug__":Str))=false:=by decide
theorem eK:(("moves":Str) == ("__classdict__":Str))=false:=by decide
theorem sA:("moves":Str)≠"__name__":=by decide
theorem mf:(("move":Str) == ("__debug__":Str))=false:=by decide
theorem mn:(("move":Str) == ("__classdict__":Str))=false:=by decide
abbrev bn:Stmt:=top 17
theorem eV:FnScope ["reached","place","moves","move"] ["reached","place"] (defScope bn):=⟨rfl,rfl,rfl,by decide +kernel,rfl,by decide +kernel,by decide +kernel⟩
theorem oE:Vis (defScope bn) "reached":=by decreasing_trivial
theorem gd:Vis (defScope bn) "place":=by decreasing_trivial
theorem oF:Loc (defScope bn) "place":=by first | exact Or.inl rfl | exact Or.inr rfl
theorem jr:Vis (defScope bn) "moves":=by decreasing_trivial
theorem oG:Loc (defScope bn) "moves":=by first | exact Or.inl rfl | exact Or.inr rfl
theorem gf:Vis (defScope bn) "move":=by decreasing_trivial
theorem oH:Loc (defScope bn) "move":=by first | exact Or.inl rfl | exact Or.inr rfl
abbrev Mv:=Nat×Option Nat×Nat
def MvAt (K:PySem.W.Frag) (H:Hp) (vs:List V) (MV:List Mv):Prop:=Paired (fun (v:V) (x:Mv)=>∃ t,v=V.ref t∧SqT K H t [.int (x.1:Int),uW x.2.1,.int (x.2.2:Int)]) vs MV
theorem MvAt.same {K:PySem.W.Frag} {H H':Hp} (e:Same H H'):∀ {vs:List V} {MV:List Mv},MvAt K H vs MV→MvAt K H' vs MV
 | _,_,.nil=>.nil
 | _,_,.cons ⟨t,a,b⟩ r=>.cons ⟨t,a,Same.tup e b⟩ (MvAt.same e r)
theorem MvAt.upd {K:PySem.W.Frag} {H:Hp} {D:Addr} {o o':HO} (hD:H D=some o) (n1:∀ ys,o≠.tup ys) (n2:∀ ob ys,o≠.frz ob (.tup ys)):∀ {vs:List V} {MV:List Mv},MvAt K H vs MV→MvAt K (L2.upd H D o') vs MV
 | _,_,.nil=>.nil
 | _,_,.cons ⟨t,a,b⟩ r=>.cons ⟨t,a,uc hD n1 n2 b⟩ (MvAt.upd hD n1 n2 r)
theorem MvAt.snoc {K:PySem.W.Frag} {H:Hp} {e c:Nat} {b:Option Nat} {t:Addr} (h:SqT K H t [.int (e:Int),uW b,.int (c:Int)]):∀ {vs:List V} {MV:List Mv},MvAt K H vs MV→MvAt K H (vs++[.ref t]) (MV++[(e,b,c)])
 | _,_,.nil=>.cons ⟨t,rfl,h⟩ .nil
 | _,_,.cons a r=>.cons a (MvAt.snoc h r)
theorem MvAt.len {K:PySem.W.Frag} {H:Hp}:∀ {vs:List V} {MV:List Mv},MvAt K H vs MV→vs.length=MV.length
 | _,_,.nil=>rfl
 | _,_,.cons _ r=>by rw[List.length_cons,List.length_cons,MvAt.len r]
theorem El {K:PySem.W.Frag} {H:Hp}:∀ {kvs:List (Key×V)} {R:List Rc} {i:Nat} {x:Rc},RcAt K H kvs R→R[i]?=some x→∃ t,kvs[i]?=some (.inl (x.1:Int),.ref t)∧SqT K H t [.int (x.2.1:Int),uW x.2.2]
 | _,_,_,_,.nil,h=>by cases h
 | _,_,0,_,.cons (a:=kv) ⟨a,t,b,c⟩ _,h=>by
  cases h
  exact⟨t,by rw[← a,← b]; rfl,c⟩
 | _,_,i+1,_,.cons _ r,h=>by
  rw[List.getElem?_cons_succ] at h
  obtain⟨t,a,b⟩:=El r h
  exact⟨t,by rw[List.getElem?_cons_succ]; exact a,b⟩
structure Pre (L:List En) (F:List (List Int)) (e0 p:Nat) (MV:List Mv) (cur:Option Nat):Prop where
 hd:(MV=[]∧cur=some p)∨∃ x,MV[0]?=some x∧x.2.2=p
 ok:∀ (i:Nat) (x:Mv),MV[i]?=some x→(x.2.1=none∧i+1=MV.length∧cur=none∧x.1=e0∧x.2.2∈pl L e0)∨∃ b,x.2.1=some b∧Led L F b x.1 x.2.2∧((i+1=MV.length∧cur=some b)∨∃ y,MV[i+1]?=some y∧y.2.2=b)
 nd:(MV.map (·.2.2)).Nodup
def yN (K:PySem.W.Frag):Sp:=fun vs H Q _=>∃ (d:Addr) (p e0 m:Nat) (L:List En) (F:List (List Int)) (kvs:List (Key×V)) (R:List Rc),vs=[.ref d,.int p]∧Rd H d (.dK kvs)∧RcAt K H kvs R∧Way L F e0 R∧p∈R.map (·.1)∧R.length≤64 ∧
 ∀ (l:Addr) (vs:List V) (MV:List Mv) (H':Hp),Same H H'→H l=none→H' l=some (.lst vs)→MvAt K H' vs MV→Pre L F e0 p MV none→(∀ x∈MV,x.2.2∈R.map (·.1))→Q (.ref l) H'
section
variable {P:Program} {w:World} {K:PySem.W.Frag} {mg:Str→Option Value} {base:Heap} {f:Addr} {fd:FuncData}
theorem Be (F:Fun K "moves_to" "moves_to" bn f fd) (M:Mg mg):FnOk P w K mg base CX0 1 f fd ["reached","place"] (yN K):=by
 refine F.ok eV (fun vs H Q E h=>?_) (fun cdv A outer s H vs Q E hr h=>?_)
 ·obtain⟨d,p,e0,m,L,F',kvs,R,rfl,_⟩:=h
  rfl
 obtain⟨d,p,e0,m,L,Fl,kvs,R,rfl,hd,hR,way,hp,l64,q⟩:=h
 refine⟨_,(@dI _ _ _ _ _ (@ic _ _ 2 _ _ _ _ eV.nd rfl oG (@rE _ _ _ _ (@cT _)) (fZ rfl) (.inl rfl)) (@dI _ _ _ _ _ (@xP _ _ _ _ _ _ PassesOwn.never (@kB _ _ _ _ _ _ _ _ wL (@cO _ 1 _ _ rfl gd bA bB) (@tZ _ _ _) (i8 _)) (@dI _ _ _ _ _ (@ic _ _ 3 _ _ _ _ eV.nd rfl oH (@wU _ _ _ _ _ _ (uX hr) (@cO _ 0 _ _ rfl oE bJ bK) (@cO _ 1 _ _ rfl gd bA bB) (fun _ _=>rfl)) (fZ rfl) (.inl rfl)) (@dI _ _ _ _ _ (@r8 _ _ _ _ (@uo _ _ _ _ _ _ _ _ _ _ _ _ PySem.F.plainAttrs_list PySem.F.slot_list_append PySem.F.type_list_append nR (@cO _ 2 _ _ rfl jr eJ eK) (@bO _ _ _ _ _ (@tP _ _ _ _ _ (@bO _ _ _ _ _ (@gu _ _ _ _ _ _ _ (@ni _) (@cO _ 3 _ _ rfl gf mf mn) (@dw _ _ _ _) (fun _ _=>rfl)) (@bO _ _ _ _ _ (@gu _ _ _ _ _ _ _ (@ni _) (@cO _ 3 _ _ rfl gf mf mn) (@dw _ _ _ _) (fun _ _=>rfl)) (@bO _ _ _ _ _ (@cO _ 1 _ _ rfl gd bA bB) (@cT _) (cg rfl)) (cg rfl)) (cg rfl))) (@cT _) (cg rfl)) (by rfl) (by rfl) (by rfl) (by rfl) (by rfl)) (fZ rfl)) (@eF _ _ _ (@ic _ _ 1 _ _ _ _ eV.nd rfl oF (@gu _ _ _ _ _ _ _ (@ni _) (@cO _ 3 _ _ rfl gf mf mn) (@dw _ _ _ _) (fun _ _=>rfl)) (fZ rfl) (.inl rfl)))))) (@eF _ _ _ (@ia _ _ _ _ (@cO _ 2 _ _ rfl jr eJ eK))))),?_⟩
 trivial
 refine⟨by decide,fun l hl=>?_⟩
 obtain⟨IV,hIV⟩:∃ IV:Nat→St→Hp→Prop,IV=fun N σ H'=>∃ (vs:List V) (MV:List Mv) (cur:Option Nat) (z:Option V),H' l=some (.lst vs)∧MvAt K H' vs MV∧Pre L Fl e0 p MV cur∧(∀ x∈MV,x.2.2∈R.map (·.1))∧MV.length≤R.length∧(∀ c,cur=some c→∃ (j e:Nat) (b:Option Nat),R[j]?=some (c,e,b)∧N=j+1∧MV.length+j<R.length∧∀ y∈MV,∃ (jy:Nat) (ry:Rc),j<jy∧R[jy]?=some ry∧ry.1=y.2.2)∧Same H H'∧σ=[some (.ref d),some (uW cur),some (.ref l),z]:=⟨_,rfl⟩
 obtain⟨rp,hrp,erp⟩:=List.mem_map.mp hp
 obtain⟨j0,hj0⟩:=List.mem_iff_getElem?.mp hrp
 obtain⟨p',ep,bp⟩:=rp
 replace erp:p'=p:=erp
 subst erp
 refine⟨IV,⟨j0+1,?_⟩,?_⟩
 ·rw[hIV]
  refine⟨[],[],some p',_,cY,.nil,⟨.inl ⟨rfl,rfl⟩,(fun i x z=>by cases z),List.nodup_nil⟩,(fun x z=>by cases z),Nat.zero_le _,fun c hc=>?_,fD hl _,rfl⟩
  cases hc
  exact⟨j0,ep,bp,hj0,rfl,by have:=(List.getElem?_eq_some_iff.mp hj0).1; simpa using this,fun y z=>by cases z⟩
 intro N σ H3 h3
 rw[hIV] at h3
 obtain⟨vs,MV,cur,z,d3,mv,pre,inR,lMR,idx,e3,rfl⟩:=h3
 cases cur with
 | none =>
  trivial
  rw[if_pos (show uW none=V.non from rfl)]
  exact q l vs MV H3 e3 hl d3 mv pre inR
 | some c =>
  obtain⟨j,e,b,hj,rfl,lj,idx2⟩:=idx c rfl
  obtain⟨t,hk,hT⟩:=El hR hj
  have knd:(kvs.map (·.1)).Nodup:=by
   rw[hR.keys]
   have:=AM way.nd
   rwa [List.map_map] at this
  have hv:=yw knd hk
  have hT3:=Same.tup e3 hT
  have rd3:Rd H3 d (.dK kvs):=by
   rcases hd with h | ⟨o,h⟩
   ·exact .inl (e3 _ _ h)
   ·exact .inr ⟨o,e3 _ _ h⟩
  have cR:c∈R.map (·.1):=List.mem_map.mpr ⟨_,List.mem_iff_getElem?.mpr ⟨_,hj⟩,rfl⟩
  have cN:c ∉ MV.map (·.2.2):=fun z=>by
   obtain⟨y,hy,ey⟩:=List.mem_map.mp z
   obtain⟨jy,ry,h1,h2,h3⟩:=idx2 y hy
   have a1:(R.map (·.1))[j]?=some c:=by rw[List.getElem?_map,hj]; rfl
   have a2:(R.map (·.1))[jy]?=some c:=by rw[List.getElem?_map,h2]; show some ry.1=_; rw[h3,ey]
   have a3:j<(R.map (·.1)).length:=(List.getElem?_eq_some_iff.mp a1).1
   have:=(List.getElem?_inj a3 way.nd).mp (a1.trans a2.symm)
   omega
  have preN:∀ cur',((b=none∧cur'=none∧e=e0∧c∈pl L e0)∨∃ b',b=some b'∧cur'=some b'∧Led L Fl b' e c)→Pre L Fl e0 p' (MV++[(e,b,c)]) cur':=fun cur' hc=>by
   refine⟨.inr ?_,fun i x hx=>?_,?_⟩
   ·rcases pre.hd with ⟨h1,h2⟩ | ⟨x,h1,h2⟩
    ·cases h2
     rw[h1]
     exact⟨_,rfl,rfl⟩
    ·exact⟨x,by rw[List.getElem?_append_left (List.getElem?_eq_some_iff.mp h1).1]; exact h1,h2⟩
   ·rw[List.length_append,List.length_singleton]
    by_cases hi:i<MV.length
    ·rw[List.getElem?_append_left hi] at hx
     rcases pre.ok i x hx with ⟨_,_,z,_⟩ | ⟨b1,h1,h2,h3⟩
     ·cases z
     ·refine .inr ⟨b1,h1,h2,.inr ?_⟩
      rcases h3 with ⟨h4,h5⟩ | ⟨y,h4,h5⟩
      ·cases h5
       exact⟨(e,b,c),by rw[h4,List.getElem?_append_right (Nat.le_refl _),Nat.sub_self]; rfl,rfl⟩
      ·exact⟨y,by rw[List.getElem?_append_left (List.getElem?_eq_some_iff.mp h4).1]; exact h4,h5⟩
    ·have hi2:i<(MV++[((e,b,c):Mv)]).length:=(List.getElem?_eq_some_iff.mp hx).1
     rw[List.length_append,List.length_singleton] at hi2
     have ei:i=MV.length:=by omega
     subst ei
     rw[List.getElem?_append_right (Nat.le_refl _),Nat.sub_self] at hx
     cases hx
     rcases hc with ⟨h1,h2,h3,h4⟩ | ⟨b',h1,h2,h3⟩
     ·exact .inl ⟨h1,rfl,h2,h3,h4⟩
     ·exact .inr ⟨b',h1,h3,.inl ⟨rfl,h2⟩⟩
   ·rw[List.map_append]
    exact wR pre.nd cN
  have inN:∀ x∈MV++[((e,b,c):Mv)],x.2.2∈R.map (·.1):=fun x hx=>by
   rcases List.mem_append.mp hx with hx | hx
   ·exact inR x hx
   ·rw[List.mem_singleton.mp hx]
    exact cR
  trivial
  rw[if_neg (fun z=>by cases z)]
  refine⟨fun σ' H'=>∃ m',m'<j+1∧IV m' σ' H',fun _ _ h=>h,.ref t,.inl ⟨kvs,.inl (c:Int),rd3,rfl,hv.symm⟩,.inl ⟨rfl,_,SqL.of d3⟩,t,rfl,_,hT3,_,rfl,t,rfl,_,hT3,_,rfl,by decide,fun T hT'=>?_⟩
  obtain⟨H4,g4,S4,T4⟩:=ki (K:=K) hT' [V.int (e:Int),uW b,uW (some c)]
  rw[← g4]
  clear g4
  have d4:=S4 _ _ d3
  refine⟨vs,d4,Nat.lt_of_lt_of_le (m:=1000) (by rw[mv.len]; omega) (by decide),t,rfl,_,uc d4 (fun ys z=>by cases z) (fun _ _ z=>by cases z) (Same.tup S4 hT3),_,rfl,?_⟩
  have mvN:MvAt K (upd H4 l (.lst (vs++[V.ref T]))) (vs++[V.ref T]) (MV++[(e,b,c)]):=MvAt.upd d4 (fun ys z=>by cases z) (fun _ _ z=>by cases z) (MvAt.snoc T4 (mv.same S4))
  have lenN:(MV++[((e,b,c):Mv)]).length=MV.length+1:=by rw[List.length_append]; rfl
  rcases way.ok j _ hj with ⟨h1,h2,h3⟩ | ⟨b',h1,h2,h3⟩
  ·refine⟨0,by omega,?_⟩
   rw[hIV]
   replace h1:b=none:=h1
   subst h1
   exact⟨_,_,none,_,cY,mvN,preN none (.inl ⟨rfl,rfl,h2,h3⟩),inN,by rw[lenN]; omega,(fun c hc=>by cases hc),fS (e3.trans S4) hl _,rfl⟩
  ·replace h1:b=some b':=h1
   subst h1
   obtain⟨x,hx,ex⟩:=List.mem_map.mp h2
   obtain⟨j',hj'⟩:=List.mem_iff_getElem?.mp hx
   have lj':j'<j:=by
    have:=(List.getElem?_eq_some_iff.mp hj').1
    rw[List.length_take] at this
    omega
   rw[List.getElem?_take_of_lt lj'] at hj'
   obtain⟨xb,xe,xo⟩:=x
   replace ex:xb=b':=ex
   subst ex
   refine⟨j'+1,by omega,?_⟩
   rw[hIV]
   refine⟨_,_,some xb,_,cY,mvN,preN _ (.inr ⟨xb,rfl,rfl,h3⟩),inN,by rw[lenN]; omega,fun c' hc=>?_,fS (e3.trans S4) hl _,rfl⟩
   cases hc
   refine⟨j',xe,xo,hj',rfl,by rw[lenN]; omega,fun y hy=>?_⟩
   rcases List.mem_append.mp hy with hy | hy
   ·obtain⟨jy,ry,a1,a2,a3⟩:=idx2 y hy
    exact⟨jy,ry,by omega,a2,a3⟩
   ·rw[List.mem_singleton.mp hy]
    exact⟨j,_,lj',hj,rfl⟩
end
end MyC
namespace MyD
open My MyB MyC PySem L2
def top (i:Nat):Stmt:=PySem.Challenge.pw_tariffgate_k66_said_otherwise.main.body.getD i (.Pass ⟨0,0,0,0⟩)
theorem fQ:(("left":Str) == ("__debug__":Str))=false:=by decide
theorem fR:(("left":Str) == ("__classdict__":Str))=false:=by decide
theorem gT:(("wanted":Str) == ("__debug__":Str))=false:=by decide
theorem gU:(("wanted":Str) == ("__classdict__":Str))=false:=by decide
theorem rR:(("end":Str) == ("__debug__":Str))=false:=by decide
theorem rS:(("end":Str) == ("__classdict__":Str))=false:=by decide
theorem sB:(("there":Str) == ("__debug__":Str))=false:=by decide
theorem sC:(("there":Str) == ("__classdict__":Str))=false:=by decide
theorem fc:(("amount":Str) == ("__debug__":Str))=false:=by decide
theorem fh:(("amount":Str) == ("__classdict__":Str))=false:=by decide
theorem oJ:(("min":Str) == ("__debug__":Str))=false:=by decide
theorem oK:("min":Str)≠"__name__":=by decide
theorem ng:(("before":Str) == ("__debug__":Str))=false:=by decide
theorem nh:(("before":Str) == ("__classdict__":Str))=false:=by decide
abbrev aX:Stmt:=top 18
theorem eM:FnScope ["flows","left","wanted","moves","end","there","amount","entry","before","place"] ["flows","left","wanted","moves"] (defScope aX):=⟨rfl,rfl,rfl,by decide +kernel,rfl,by decide +kernel,by decide +kernel⟩
theorem oM:Vis (defScope aX) "flows":=by decreasing_trivial
theorem oO:Vis (defScope aX) "left":=by decreasing_trivial
theorem sE:Vis (defScope aX) "wanted":=by decreasing_trivial
theorem kJ:Vis (defScope aX) "moves":=by decreasing_trivial
theorem oP:Vis (defScope aX) "end":=by decreasing_trivial
theorem sF:Loc (defScope aX) "end":=by first | exact Or.inl rfl | exact Or.inr rfl
theorem sG:Vis (defScope aX) "there":=by decreasing_trivial
theorem sH:Loc (defScope aX) "there":=by first | exact Or.inl rfl | exact Or.inr rfl
theorem iS:Vis (defScope aX) "amount":=by decreasing_trivial
theorem sI:Loc (defScope aX) "amount":=by first | exact Or.inl rfl | exact Or.inr rfl
theorem oQ:Vis (defScope aX) "entry":=by decreasing_trivial
theorem sJ:Loc (defScope aX) "entry":=by first | exact Or.inl rfl | exact Or.inr rfl
theorem oS:Vis (defScope aX) "before":=by decreasing_trivial
theorem sK:Loc (defScope aX) "before":=by first | exact Or.inl rfl | exact Or.inr rfl
theorem sL:Vis (defScope aX) "place":=by decreasing_trivial
theorem sM:Loc (defScope aX) "place":=by first | exact Or.inl rfl | exact Or.inr rfl
theorem qZ:(defScope aX).names.lookup ("min":Str)=some .globalImplicit:=by rfl
def rT (F:List (List Int)) (e j:Nat) (a:Int):List (List Int):=F.set e ((F.getD e []).set j ((F.getD e []).getD j 0+a))
def tV (a:Int) (F:List (List Int)) (x:Mv):List (List Int):=rT (match x.2.1 with | none=>F | some b=>rT F x.1 b (-a)) x.1 x.2.2 a
def tQ (a:Int) (F:List (List Int)) (MV:List Mv):List (List Int):=MV.foldl (tV a) F
def Rows (n m:Nat) (F:List (List Int)):Prop:=F.length=n∧∀ r∈F,r.length=m
theorem Rows.add {n m e j:Nat} {a:Int} {F:List (List Int)} (h:Rows n m F) (he:e<n):Rows n m (rT F e j a):=by
 refine⟨by unfold rT; rw[List.length_set]; exact h.1,fun r hr=>?_⟩
 unfold rT at hr
 rcases List.mem_or_eq_of_mem_set hr with hr | rfl
 ·exact h.2 r hr
 ·rw[List.length_set]
  have he':e<F.length:=by rw[h.1]; exact he
  rw[show F.getD e []=F[e] by simp [List.getD,he']]
  exact h.2 _ (List.getElem_mem he')
theorem Rows.step {n m:Nat} {a:Int} {F:List (List Int)} {x:Mv} (h:Rows n m F) (he:x.1<n):Rows n m (tV a F x):=by
 unfold tV
 cases x.2.1 with
 | none=>exact h.add he
 | some b=>exact (h.add he).add he
theorem Rows.led {n m:Nat} {a:Int}:∀ (MV:List Mv) {F:List (List Int)},Rows n m F→(∀ x∈MV,x.1<n)→Rows n m (tQ a F MV)
 | [],_,h,_=>h
 | x::MV,_,h,hx=>Rows.led MV (h.step (hx x List.mem_cons_self)) fun y hy=>hx y (List.mem_cons_of_mem _ hy)
theorem zf (a:Int) (F:List (List Int)) (MV:List Mv) (x:Mv):tQ a F (MV++[x])=tV a (tQ a F MV) x:=by
 unfold tQ
 rw[List.foldl_append]
 rfl
theorem uh {b r:Addr} {rs:List Addr} (h:b ∉ rs) (hr:r∈rs):b≠r:=fun z=>h (by rw[z]; exact hr)
theorem Ip {H:Hp} {g:Addr} {rs:List Addr} {F:List (List Int)} {e:Nat} {r:Addr} {row':List Int} (h:FlAt H g rs F) (hr:rs[e]?=some r):FlAt (upd H r (.lst (row'.map V.int))) g rs (F.set e row'):=by
 have rg:r≠g:=h.ne r (List.mem_iff_getElem?.mpr ⟨_,hr⟩)
 have le:e<F.length:=by rw[← h.len]; exact (List.getElem?_eq_some_iff.mp hr).1
 refine⟨by rw[er (Ne.symm rg)]; exact h.top,by rw[List.length_set]; exact h.len,fun i r2 fl a b=>?_,h.nd,h.ne⟩
 by_cases hi:i=e
 ·subst hi
  rw[hr] at a
  cases a
  rw[cY]
  rw[List.getElem?_set_self le] at b
  cases b
  rfl
 ·have ne:r2≠r:=fun z=>by
   subst z
   exact hi ((List.getElem?_inj (List.getElem?_eq_some_iff.mp a).1 h.nd).mp (a.trans hr.symm))
  rw[er ne]
  rw[List.getElem?_set_ne (Ne.symm hi)] at b
  exact h.row i r2 fl a b
theorem A4 {H:Hp} {g:Addr} {rs:List Addr} {F:List (List Int)} {n m e j:Nat} (h:FlAt H g rs F) (rw':Rows n m F) (he:e<n) (hj:j<m) (a:Int):∃ (r:Addr) (row:List Int),r∈rs∧(rs.map V.ref)[e]?=some (.ref r)∧H r=some (.lst (row.map V.int))∧row.length=m∧(row.map V.int)[j]?=some (.int (row.getD j 0))∧ixN (row.map V.int).length (j:Int)=some j∧FlAt (upd H r (.lst ((row.map V.int).set j (.int (row.getD j 0+a))))) g rs (rT F e j a):=by
 obtain⟨r,hr1⟩:∃ r,rs[e]?=some r:=⟨_,List.getElem?_eq_getElem (by rw[h.len,rw'.1]; exact he)⟩
 obtain⟨row,hrow⟩:∃ row,F[e]?=some row:=⟨_,List.getElem?_eq_getElem (by rw[rw'.1]; exact he)⟩
 have lrow:=rw'.2 row (List.mem_iff_getElem?.mpr ⟨_,hrow⟩)
 refine⟨r,row,List.mem_iff_getElem?.mpr ⟨_,hr1⟩,by rw[List.getElem?_map,hr1]; rfl,h.row _ r row hr1 hrow,lrow,?_,vC (by rw[List.length_map]; omega),?_⟩
 ·rw[List.getElem?_map,List.getElem?_eq_getElem (by omega),My.getD_at (show j<row.length by omega)]
  rfl
 ·have e1:F.getD e []=row:=by simp [List.getD,hrow]
  unfold rT
  rw[e1,← List.map_set]
  exact Ip h hr1
def wC (n m:Nat) (MV:List Mv):Prop:=∀ x∈MV,x.1<n∧x.2.2<m∧∀ b,x.2.1=some b→b<m
def rV (F:List (List Int)) (MV:List Mv):List Int:=MV.filterMap fun x=>x.2.1.map fun b=>fl F x.1 b
def Az (K:PySem.W.Frag):Sp:=fun vs H Q _=>∃ (g f mo:Addr) (wn:Int) (n m:Nat) (rs:List Addr) (F:List (List Int)) (lf:List Int) (us:List V) (MV:List Mv) (x0:Mv),vs=[.ref g,.ref f,.int wn,.ref mo]∧FlAt H g rs F∧Rows n m F∧H f=some (.lst (lf.map V.int))∧lf.length=m∧f ∉ rs∧f≠g∧H mo=some (.lst us)∧mo ∉ rs∧mo≠f∧MvAt K H us MV∧wC n m MV∧MV[0]?=some x0∧MV.length≤64 ∧
 ∀ (a:Int) (H':Hp),a∈wn::lf.getD x0.2.2 0::rV F MV→(∀ z∈wn::lf.getD x0.2.2 0::rV F MV,a≤z)→(∀ b u,b ∉ rs→b≠f→H b=some u→H' b=some u)→FlAt H' g rs (tQ a F MV)→H' f=some (.lst ((lf.set x0.2.2 (lf.getD x0.2.2 0-a)).map V.int))→Q (.int a) H'
theorem yk {K:PySem.W.Frag} {H:Hp}:∀ {vs:List V} {MV:List Mv} {i:Nat} {v:V},MvAt K H vs MV→vs[i]?=some v→∃ x t,MV[i]?=some x∧v=V.ref t∧SqT K H t [.int (x.1:Int),uW x.2.1,.int (x.2.2:Int)]
 | _,_,_,_,.nil,h=>by cases h
 | _,_,0,_,.cons ⟨t,a,b⟩ _,h=>by
  cases h
  exact⟨_,t,rfl,a,b⟩
 | _,_,i+1,_,.cons _ r,h=>by
  rw[List.getElem?_cons_succ] at h
  obtain⟨x,t,a,b,c⟩:=yk r h
  exact⟨x,t,by rw[List.getElem?_cons_succ]; exact a,b,c⟩
section
variable {P:Program} {w:World} {K:PySem.W.Frag} {mg:Str→Option Value} {base:Heap} {f:Addr} {fd:FuncData}
theorem HL (F:Fun K "lead" "lead" aX f fd) (M:Mg mg):FnOk P w K mg base CX0 1 f fd ["flows","left","wanted","moves"] (Az K):=by
 refine F.ok eM (fun vs H Q E h=>?_) (fun cdv A outer s H vs Q E hr h=>?_)
 ·obtain⟨g,f,mo,wn,n,m,rs,F',lf,us,MV,x0,rfl,_⟩:=h
  rfl
 obtain⟨g,fa,mo,wn,n,m,rs,Fl,lf,us,MV,x0,rfl,hF,rows,hf,llf,frs,fg,hmo,mors,mof,hmv,ok,hx0,l64,q⟩:=h
 refine⟨_,(@dI _ _ _ _ _ (@ic _ _ 4 _ _ _ _ eM.nd rfl sF (@gu _ _ _ _ _ _ _ (@ni _) (@gu _ _ _ _ _ _ _ (@iV _) (@cO _ 3 _ _ rfl kJ eJ eK) (@dw _ _ _ _) (fun _ _=>rfl)) (@dw _ _ _ _) (fun _ _=>rfl)) (fZ rfl) (.inl rfl)) (@dI _ _ _ _ _ (@uE _ _ _ _ _ _ _ _ _ _ _ _ _ _ _ 5 _ _ _ eM.nd rfl sH rfl (CompOk.make (N':=["flows","entry","before","place"]) (ix:=[0]) (nl:=3) (by rfl) (fm1 rfl fm0) (by rfl) (by decide +kernel) rfl (by decide +kernel) rfl (And.intro ⟨rfl,.inl rfl,.inl rfl⟩ True.intro)) (@kL _ _ _ _ (@cO _ 3 _ _ rfl kJ eJ eK)) (fun _ _ _ _ _=>(@uv _ K _ _ 3 _ _ rfl rfl (@gS _ _ _ _ _ (@fj _ _ 1 _ (show List.Nodup (["flows","entry","before","place"]:List Str) from by decide) rfl (Or.inl rfl) (by first | exact .inl rfl | exact .inr rfl | assumption)) (@gS _ _ _ _ _ (@fj _ _ 2 _ (show List.Nodup (["flows","entry","before","place"]:List Str) from by decide) rfl (Or.inl rfl) (by first | exact .inl rfl | exact .inr rfl | assumption)) (@gS _ _ _ _ _ (@fj _ _ 3 _ (show List.Nodup (["flows","entry","before","place"]:List Str) from by decide) rfl (Or.inl rfl) (by first | exact .inl rfl | exact .inr rfl | assumption)) (@oW _) (by rfl)) (by rfl)) (by rfl)) (by rfl) (by rfl))) (fun _ _ _ _ _=>(@ux _ _ _ (@kB _ _ _ _ _ _ _ _ wL (@pv _ 2 _ _ (by rfl) (by decreasing_trivial) (by decide) (by decide)) (@tZ _ _ _) (i8 _)))) (fun _ _ _ _ _=>(@gu _ _ _ _ _ _ _ (@vL _ K rfl) (@gu _ _ _ _ _ _ _ (@vL _ K rfl) (@pv _ 0 _ _ (by rfl) (by decreasing_trivial) (by decide) (by decide)) (@pv _ 1 _ _ (by rfl) (by decreasing_trivial) (by decide) (by decide)) (fun _ _=>rfl)) (@pv _ 2 _ _ (by rfl) (by decreasing_trivial) (by decide) (by decide)) (fun _ _=>rfl))) (by rfl) (by intro _; rfl) (by first | exact .inl rfl | exact .inr rfl | assumption)) (@dI _ _ _ _ _ (@ic _ _ 6 _ _ _ _ eM.nd rfl sI (@fY _ _ _ _ _ _ _ _ _ (EH rfl) qZ M.m_min Gy (@bO _ _ _ _ _ (@iI _ _ _ _ _ _ _ _ (@AZ _) (@rE _ _ _ _ (@bO _ _ _ _ _ (@cO _ 2 _ _ rfl sE gT gU) (@bO _ _ _ _ _ (@gu _ _ _ _ _ _ _ (@iV _) (@cO _ 1 _ _ rfl oO fQ fR) (@cO _ 4 _ _ rfl oP rR rS) (fun _ _=>rfl)) (@cT _) (cg rfl)) (cg rfl))) (@cO _ 5 _ _ rfl sG sB sC)) (@cT _) (cg rfl)) oK oJ (cg rfl) ff) (fZ rfl) (.inl rfl)) (@dI _ _ _ _ _ (@pC _ _ _ _ _ _ _ _ PassesOwn.never rfl (@kL _ _ _ _ (@cO _ 3 _ _ rfl kJ eJ eK)) (@uP _ _ _ _ _ _ rfl (@gS _ _ _ _ _ (@fj _ _ 7 _ eM.nd rfl sJ (.inl rfl)) (@gS _ _ _ _ _ (@fj _ _ 8 _ eM.nd rfl sK (.inl rfl)) (@gS _ _ _ _ _ (@fj _ _ 9 _ eM.nd rfl sM (.inl rfl)) (@oW _) (by rfl)) (by rfl)) (by rfl)) (by rfl) (by rfl)) (@dI _ _ _ _ _ (@nC _ _ _ _ _ _ _ _ (@kB _ _ _ _ _ _ _ _ wL (@cO _ 8 _ _ rfl oS ng nh) (@tZ _ _ _) (i8 _)) (@eF _ _ _ (@yQ _ _ _ _ _ _ _ _ _ _ _ _ _ (@gu _ _ _ _ _ _ _ (@iV _) (@cO _ 0 _ _ rfl oM bD bE) (@cO _ 7 _ _ rfl oQ aT aU) (fun _ _=>rfl)) (@cO _ 8 _ _ rfl oS ng nh) xH (@cO _ 6 _ _ rfl iS fc fh) AJ set_list (by intros; rfl))) (@m8 _)) (@eF _ _ _ (@yQ _ _ _ _ _ _ _ _ _ _ _ _ _ (@gu _ _ _ _ _ _ _ (@iV _) (@cO _ 0 _ _ rfl oM bD bE) (@cO _ 7 _ _ rfl oQ aT aU) (fun _ _=>rfl)) (@cO _ 9 _ _ rfl sL bA bB) xH (@cO _ 6 _ _ rfl iS fc fh) EZ set_list (by intros; rfl)))) (by intro _; rfl)) (@dI _ _ _ _ _ (@yQ _ _ _ _ _ _ _ _ _ _ _ _ _ (@cO _ 1 _ _ rfl oO fQ fR) (@cO _ 4 _ _ rfl oP rR rS) xH (@cO _ 6 _ _ rfl iS fc fh) AJ set_list (by intros; rfl)) (@eF _ _ _ (@ia _ _ _ _ (@cO _ 6 _ _ rfl iS fc fh)))))))),?_⟩
 trivial
 have l0:0<us.length:=by rw[hmv.len]; exact (List.getElem?_eq_some_iff.mp hx0).1
 obtain⟨v0,hv0⟩:∃ v0,us[0]?=some v0:=⟨_,List.getElem?_eq_getElem l0⟩
 obtain⟨x0',t0,e0,rfl,hT0⟩:=yk hmv hv0
 rw[hx0] at e0
 cases e0
 obtain⟨ok1,ok2,ok3⟩:=ok x0 (List.mem_iff_getElem?.mpr ⟨_,hx0⟩)
 refine⟨us,SqL.of hmo,_,oh hv0,t0,rfl,_,hT0,_,rfl,⟨_,SqL.of hmo⟩,fun D hD=>?_⟩
 obtain⟨Pc,hC⟩:∃ Pc:Nat→St→Hp→Prop,Pc=fun i τ H2=>∃ (x y z:Option V),H2 D=some (.lst ((rV Fl (MV.take i)).map V.int))∧Same H H2∧τ=[some (.ref g),x,y,z]:=⟨_,rfl⟩
 refine mC (K:=K) us Pc ?_ (fun k σ H3 _ h=>by rw[hC] at h; obtain⟨_,_,_,_,e3,_⟩:=h; exact SqL.of (e3 _ _ hmo)) ?_ ?_
 ·rw[hC]
  exact⟨_,_,_,by rw[cY,List.take_zero]; rfl,fD hD _,rfl⟩
 ·intro i v τ H2 R' hi h next
  rw[hC] at h
  obtain⟨x1,y1,z1,d2,e2,rfl⟩:=h
  obtain⟨x,t,hx,rfl,hT⟩:=yk hmv hi
  have hT2:=Same.tup e2 hT
  have et:MV.take (i+1)=MV.take i++[x]:=by
   rw[List.take_add_one,hx]
   rfl
  obtain⟨o1,o2,o3⟩:=ok x (List.mem_iff_getElem?.mpr ⟨_,hx⟩)
  have li:i<MV.length:=(List.getElem?_eq_some_iff.mp hx).1
  have lti:(rV Fl (MV.take i)).length≤i:=by
   refine Nat.le_trans (List.length_filterMap_le ..) ?_
   rw[List.length_take]
   omega
  trivial
  refine⟨_,hT2,rfl,_,_,rfl,_,_,rfl,_,_,rfl,rfl,?_⟩
  cases hb:x.2.1 with
  | none =>
   rw[if_pos (show uW none=V.non from rfl)]
   refine next _ _ ?_
   rw[hC]
   refine⟨_,_,_,?_,e2,rfl⟩
   rw[d2,et]
   unfold rV
   rw[List.filterMap_append]
   simp [hb]
  | some b =>
   rw[if_neg (fun z=>by cases z)]
   have lb:=o3 b hb
   obtain⟨r,hr1⟩:∃ r,rs[x.1]?=some r:=⟨_,List.getElem?_eq_getElem (by rw[hF.len,rows.1]; exact o1)⟩
   obtain⟨row,hrow⟩:∃ row,Fl[x.1]?=some row:=⟨_,List.getElem?_eq_getElem (by rw[rows.1]; exact o1)⟩
   have lrow:=rows.2 row (List.mem_iff_getElem?.mpr ⟨_,hrow⟩)
   refine⟨rs.map V.ref,(x.1:Int),rfl,SqL.of (e2 _ _ hF.top),.ref r,oh (by rw[List.getElem?_map,hr1]; rfl),r,rfl,row.map V.int,(b:Int),rfl,SqL.of (e2 _ _ (hF.row _ r row hr1 hrow)),_,uF (by omega) (by omega),_,d2,Nat.lt_of_lt_of_le (m:=1000) (by rw[List.length_map]; omega) (by decide),next _ _ ?_⟩
   rw[hC]
   refine⟨_,_,_,?_,fS e2 hD _,rfl⟩
   rw[cY,et]
   unfold rV
   rw[List.filterMap_append,List.map_append]
   have ef:fl Fl x.1 b=row.getD b 0:=by
    unfold fl
    rw[show Fl.getD x.1 []=row by simp [List.getD,hrow]]
   simp [hb,ef]
 ·intro τ H2 h
  rw[hC] at h
  obtain⟨x1,y1,z1,d2,e2,rfl⟩:=h
  rw[hmv.len,List.take_length] at d2
  have lt:(rV Fl MV).length≤MV.length:=List.length_filterMap_le ..
  have lfx:atI (lf.map V.int) (x0.2.2:Int)=some (.int (lf.getD x0.2.2 0)):=uF (by omega) (by omega)
  trivial
  refine⟨lf.map V.int,SqL.of (e2 _ _ hf),_,lfx,by decide,fun p hp=>?_⟩
  have d3:=fD hp (.lst [V.int wn,.int (lf.getD x0.2.2 0)]) _ _ d2
  refine⟨_,cY,_,d3,Nat.le_trans (m:=1000) (by rw[List.length_map]; simp; omega) (by decide),fun p1 hp1=>?_⟩
  refine⟨wn::lf.getD x0.2.2 0::rV Fl MV,SqL.of cY,by simp,fun a ha hle=>?_⟩
  have S3:Same H (upd (upd H2 p (.lst [V.int wn,.int (lf.getD x0.2.2 0)])) p1 (.lst ([V.int wn,.int (lf.getD x0.2.2 0)]++(rV Fl MV).map V.int))):=(e2.trans (fD hp _)).trans (fD hp1 _)
  obtain⟨H3,g3⟩:∃ H3,H3=upd (upd H2 p (.lst [V.int wn,.int (lf.getD x0.2.2 0)])) p1 (.lst ([V.int wn,.int (lf.getD x0.2.2 0)]++(rV Fl MV).map V.int)):=⟨_,rfl⟩
  rw[← g3] at S3 ⊢
  refine⟨⟨us,SqL.of (S3 _ _ hmo)⟩,?_⟩
  obtain⟨Pv,hP⟩:∃ Pv:Nat→St→Hp→Prop,Pv=fun i σ H'=>∃ (x y z:Option V),FlAt H' g rs (tQ a Fl (MV.take i))∧H' fa=some (.lst (lf.map V.int))∧H' mo=some (.lst us)∧MvAt K H' us MV∧(∀ b u,b ∉ rs→H b=some u→H' b=some u)∧σ=[some (.ref g),some (.ref fa),some (.int wn),some (.ref mo),some (.int (x0.2.2:Int)),some (.ref D),some (.int a),x,y,z]:=⟨_,rfl⟩
  refine sy (K:=K) us Pv ?_ (fun k σ H3 _ h=>by rw[hP] at h; obtain⟨_,_,_,_,_,z,_⟩:=h; exact SqL.of z) ?_ ?_
  ·rw[hP]
   exact⟨_,_,_,hF.same S3,S3 _ _ hf,S3 _ _ hmo,hmv.same S3,fun b u _ z=>S3 b u z,rfl⟩
  ·intro i v σ H4 hi h
   rw[hP] at h
   obtain⟨x1,y1,z1,F4,f4,m4,v4,fr4,rfl⟩:=h
   obtain⟨x,t,hx,rfl,hT⟩:=yk v4 hi
   obtain⟨o1,o2,o3⟩:=ok x (List.mem_iff_getElem?.mpr ⟨_,hx⟩)
   have et:MV.take (i+1)=MV.take i++[x]:=by
    rw[List.take_add_one,hx]
    rfl
   have R4:Rows n m (tQ a Fl (MV.take i)):=Rows.led _ rows fun y hy=>(ok y (List.mem_of_mem_take hy)).1
   trivial
   refine⟨_,hT,rfl,_,_,rfl,_,_,rfl,_,_,rfl,rfl,?_⟩
   cases hb:x.2.1 with
   | none =>
    rw[if_pos (show uW none=V.non from rfl)]
    obtain⟨r,row,b1,b2,b3,b4,b5,b6,b7⟩:=A4 F4 R4 o1 o2 a
    refine⟨rs.map V.ref,(x.1:Int),rfl,SqL.of F4.top,_,oh b2,r,rfl,row.map V.int,x.2.2,rfl,SqL.of b3,_,b5,_,rfl,r,rfl,row.map V.int,(x.2.2:Int),rfl,b3,x.2.2,b6,?_⟩
    rw[hP]
    refine⟨_,_,_,?_,by rw[er (uh frs b1)]; exact f4,by rw[er (uh mors b1)]; exact m4,MvAt.upd b3 (fun ys z=>by cases z) (fun _ _ z=>by cases z) v4,fun b u hb' hu=>by rw[er (uh hb' b1)]; exact fr4 b u hb' hu,rfl⟩
    rw[et,zf]
    unfold tV
    rw[hb]
    exact b7
   | some b =>
    rw[if_neg (fun z=>by cases z)]
    obtain⟨r,row,b1,b2,b3,b4,b5,b6,b7⟩:=A4 F4 R4 o1 (o3 b hb) (-a)
    rw[← Int.sub_eq_add_neg] at b7
    obtain⟨H5,g5⟩:∃ H5,H5=upd H4 r (.lst ((row.map V.int).set b (.int (row.getD b 0-a)))):=⟨_,rfl⟩
    have v5:MvAt K H5 us MV:=by rw[g5]; exact MvAt.upd b3 (fun ys z=>by cases z) (fun _ _ z=>by cases z) v4
    have f5:H5 fa=some (.lst (lf.map V.int)):=by rw[g5,er (uh frs b1)]; exact f4
    have m5:H5 mo=some (.lst us):=by rw[g5,er (uh mors b1)]; exact m4
    have fr5:∀ b u,b ∉ rs→H b=some u→H5 b=some u:=fun b u hb' hu=>by rw[g5,er (uh hb' b1)]; exact fr4 b u hb' hu
    rw[← g5] at b7
    obtain⟨r',row',c1,c2,c3,c4,c5,c6,c7⟩:=A4 b7 (R4.add o1) o1 o2 a
    refine⟨rs.map V.ref,(x.1:Int),rfl,SqL.of F4.top,_,oh b2,r,rfl,row.map V.int,b,rfl,SqL.of b3,_,b5,_,rfl,r,rfl,row.map V.int,(b:Int),rfl,b3,b,b6,?_⟩
    rw[← g5]
    refine⟨rs.map V.ref,(x.1:Int),rfl,SqL.of b7.top,_,oh c2,r',rfl,row'.map V.int,x.2.2,rfl,SqL.of c3,_,c5,_,rfl,r',rfl,row'.map V.int,(x.2.2:Int),rfl,c3,x.2.2,c6,?_⟩
    rw[hP]
    refine⟨_,_,_,?_,by rw[er (uh frs c1)]; exact f5,by rw[er (uh mors c1)]; exact m5,MvAt.upd c3 (fun ys z=>by cases z) (fun _ _ z=>by cases z) v5,fun b u hb' hu=>by rw[er (uh hb' c1)]; exact fr5 b u hb' hu,rfl⟩
    rw[et,zf]
    unfold tV
    rw[hb]
    exact c7
  ·intro σ H4 h
   rw[hP] at h
   obtain⟨x1,y1,z1,F4,f4,m4,v4,fr4,rfl⟩:=h
   rw[hmv.len,List.take_length] at F4
   trivial
   refine⟨lf.map V.int,x0.2.2,rfl,SqL.of f4,.int (lf.getD x0.2.2 0),?_,_,rfl,_,f4,x0.2.2,vC (by rw[List.length_map]; omega),?_⟩
   ·rw[List.getElem?_map,List.getElem?_eq_getElem (show x0.2.2<lf.length by omega),My.getD_at (show x0.2.2<lf.length by omega)]
    rfl
   ·refine q a _ ha hle (fun b u hb1 hb2 hu=>by rw[er hb2]; exact fr4 b u hb1 hu) ⟨by rw[er (Ne.symm fg)]; exact F4.top,F4.len,fun e r fl h1 h2=>?_,F4.nd,F4.ne⟩ (by rw[cY,List.map_set])
    rw[er (Ne.symm (uh frs (List.mem_iff_getElem?.mpr ⟨_,h1⟩)))]
    exact F4.row e r fl h1 h2
end
end MyD
namespace MyE
open My MyB MyC MyD PySem L2
theorem sum_set:∀ (l:List Int) (i:Nat) (x:Int),i<l.length→(l.set i x).sum=l.sum+x-l.getD i 0
 | [],i,x,h=>absurd h (Nat.not_lt_zero _)
 | y::l,0,x,_=>by
  rw[List.set_cons_zero,List.sum_cons,List.sum_cons]
  show x+l.sum=y+l.sum+x-y
  omega
 | y::l,i+1,x,h=>by
  rw[List.set_cons_succ,List.sum_cons,List.sum_cons,sum_set l i x (by simpa using h)]
  show y+(l.sum+x-l.getD i 0)=y+l.sum+x-l.getD i 0
  omega
def colS (F:List (List Int)) (j:Nat):Int:=(F.map fun r=>r.getD j 0).sum
def nt (F:List (List Int)) (e:Nat):Int:=(F.getD e []).sum
theorem uq {α:Type} {l:List α} {i j:Nat} {x d:α} (h:i<l.length):(l.set i x).getD j d=if i=j then x else l.getD j d:=by
 unfold List.getD
 by_cases e:i=j
 ·subst e
  rw[List.getElem?_set_self h,if_pos rfl]
  rfl
 ·rw[List.getElem?_set_ne e,if_neg e]
section
variable {n m e j:Nat} {a:Int} {F:List (List Int)}
theorem wW (h:Rows n m F) (he:e<n):(F.getD e []).length=m:=by
 have he':e<F.length:=by rw[h.1]; exact he
 rw[show F.getD e []=F[e] by simp [List.getD,he']]
 exact h.2 _ (List.getElem_mem he')
theorem wH (h:Rows n m F) (he:e<n) (hj:j<m) (e' j':Nat):fl (rT F e j a) e' j'=fl F e' j'+(if e=e'∧j=j' then a else 0):=by
 have he':e<F.length:=by rw[h.1]; exact he
 have hl:=wW h he
 unfold fl rT
 rw[uq he']
 by_cases e1:e=e'
 ·subst e1
  rw[if_pos rfl,uq (by omega)]
  by_cases e2:j=j'
  ·subst e2
   rw[if_pos rfl,if_pos ⟨rfl,rfl⟩]
  ·rw[if_neg e2,if_neg fun z=>e2 z.2]
   omega
 ·rw[if_neg e1,if_neg fun z=>e1 z.1]
  omega
theorem yu (h:Rows n m F) (he:e<n) (hj:j<m) (j':Nat):colS (rT F e j a) j'=colS F j'+(if j=j' then a else 0):=by
 have he':e<F.length:=by rw[h.1]; exact he
 have hl:=wW h he
 unfold colS rT
 rw[List.map_set,sum_set _ _ _ (by rw[List.length_map]; exact he')]
 have e1:(F.map fun r=>r.getD j' 0).getD e 0=(F.getD e []).getD j' 0:=by
  simp [List.getD,he']
 rw[e1,uq (by omega)]
 by_cases e2:j=j'
 ·subst e2
  rw[if_pos rfl,if_pos rfl]
  omega
 ·rw[if_neg e2,if_neg e2]
  omega
theorem ym (h:Rows n m F) (he:e<n) (hj:j<m) (e':Nat):nt (rT F e j a) e'=nt F e'+(if e=e' then a else 0):=by
 have he':e<F.length:=by rw[h.1]; exact he
 have hl:=wW h he
 unfold nt rT
 rw[uq he']
 by_cases e1:e=e'
 ·subst e1
  rw[if_pos rfl,if_pos rfl,sum_set _ _ _ (by omega)]
  omega
 ·rw[if_neg e1,if_neg e1]
  omega
end
inductive Chn (e0:Nat):Nat→List Mv→Prop
 | last (c:Nat):Chn e0 c [(e0,none,c)]
 | cons {b e c:Nat} {r:List Mv}:Chn e0 b r→Chn e0 c ((e,some b,c)::r)
theorem DT {L:List En} {F:List (List Int)} {e0 p:Nat} {MV:List Mv} (h:Pre L F e0 p MV none):∀ (k i:Nat) (x:Mv),MV.length-i=k→MV[i]?=some x→Chn e0 x.2.2 (MV.drop i)
 | 0,i,x,hk,hx=>by
  have:=(List.getElem?_eq_some_iff.mp hx).1
  omega
 | k+1,i,x,hk,hx=>by
  have li:=(List.getElem?_eq_some_iff.mp hx).1
  have ed:MV.drop i=x::MV.drop (i+1):=by
   rw[List.drop_eq_getElem_cons li]
   congr 1
   exact (List.getElem?_eq_some_iff.mp hx).2
  rw[ed]
  obtain⟨xe,xb,xc⟩:=x
  rcases h.ok i _ hx with ⟨h1,h2,_,h3,_⟩ | ⟨b,h1,_,⟨_,h2⟩ | ⟨y,h2,h3⟩⟩
  ·replace h1:xb=none:=h1
   replace h3:xe=e0:=h3
   subst h1 h3
   rw[List.drop_of_length_le (by omega)]
   exact .last _
  ·cases h2
  ·replace h1:xb=some b:=h1
   subst h1
   have:=DT h k (i+1) y (by omega) h2
   rw[h3] at this
   exact .cons this
theorem Chn.head {e0 c:Nat} {r:List Mv} (h:Chn e0 c r):c∈r.map (·.2.2):=by
 cases h with
 | last=>exact List.mem_singleton.mpr rfl
 | cons _=>exact List.mem_cons_self
theorem BN {e0 c:Nat} {r:List Mv} (h:Chn e0 c r):∀ x∈r,∀ b,x.2.1=some b→∃ y∈r.tail,y.2.2=b:=by
 induction h with
 | last c =>
  intro x hx b hb
  rw[List.mem_singleton.mp hx] at hb
  cases hb
 | @cons b e c r hr ih =>
  intro x hx b2 hb2
  rcases List.mem_cons.mp hx with rfl | hx
  ·cases hb2
   obtain⟨y,hy,ey⟩:=List.mem_map.mp hr.head
   exact⟨y,hy,ey⟩
  ·obtain⟨y,hy,ey⟩:=ih x hx b2 hb2
   exact⟨y,List.mem_of_mem_tail hy,ey⟩
theorem A9 {e0 c:Nat} {r:List Mv} (h:Chn e0 c r) (nd:(r.map (·.2.2)).Nodup):∀ x∈r,x.2.1≠some c:=fun x hx hb=>by
 obtain⟨y,hy,ey⟩:=BN h x hx c hb
 cases h with
 | last=>cases hy
 | cons hr =>
  rw[List.map_cons,List.nodup_cons] at nd
  exact nd.1 (List.mem_map.mpr ⟨y,hy,ey⟩)
section
variable {n m e0:Nat} {a:Int}
theorem G1 {c:Nat} {MV:List Mv} (h:Chn e0 c MV) (j:Nat):∀ {F:List (List Int)},Rows n m F→wC n m MV→colS (tQ a F MV) j=colS F j+(if c=j then a else 0):=by
 induction h with
 | last c =>
  intro F R ok
  obtain⟨o1,o2,_⟩:=ok _ List.mem_cons_self
  exact yu R o1 o2 j
 | @cons b e c r _ ih =>
  intro F R ok
  obtain⟨o1,o2,o3⟩:=ok _ List.mem_cons_self
  have R1:=R.add (j:=b) (a:=-a) o1
  have:=ih (F:=tV a F (e,some b,c)) (R.step o1) fun x hx=>ok x (List.mem_cons_of_mem _ hx)
  show colS (tQ a (tV a F (e,some b,c)) r) j=_
  rw[this]
  show colS (rT (rT F e b (-a)) e c a) j+_=_
  rw[yu R1 o1 o2,yu R o1 (o3 b rfl)]
  by_cases e1:b=j <;> by_cases e2:c=j <;> simp [e1,e2] <;> omega
theorem G9 {c:Nat} {MV:List Mv} (h:Chn e0 c MV) (e':Nat):∀ {F:List (List Int)},Rows n m F→wC n m MV→nt (tQ a F MV) e'=nt F e'+(if e0=e' then a else 0):=by
 induction h with
 | last c =>
  intro F R ok
  obtain⟨o1,o2,_⟩:=ok _ List.mem_cons_self
  exact ym R o1 o2 e'
 | @cons b e c r _ ih =>
  intro F R ok
  obtain⟨o1,o2,o3⟩:=ok _ List.mem_cons_self
  have R1:=R.add (j:=b) (a:=-a) o1
  have:=ih (F:=tV a F (e,some b,c)) (R.step o1) fun x hx=>ok x (List.mem_cons_of_mem _ hx)
  show nt (tQ a (tV a F (e,some b,c)) r) e'=_
  rw[this]
  show nt (rT (rT F e b (-a)) e c a) e'+_=_
  rw[ym R1 o1 o2,ym R o1 (o3 b rfl)]
  by_cases e1:e=e' <;> simp [e1] <;> omega
theorem w4 {F:List (List Int)} {b e c:Nat} (R:Rows n m F) (o1:e<n) (o2:c<m) (o3:b<m) (e' j:Nat):fl (tV a F (e,some b,c)) e' j=fl F e' j+(if e=e'∧b=j then -a else 0)+(if e=e'∧c=j then a else 0):=by
 show fl (rT (rT F e b (-a)) e c a) e' j=_
 rw[wH (R.add o1) o1 o2,wH R o1 o3]
theorem JI {c:Nat} {MV:List Mv} (h:Chn e0 c MV) (j:Nat):∀ {F:List (List Int)},Rows n m F→wC n m MV→j ∉ MV.map (·.2.2)→∀ e',fl (tQ a F MV) e' j=fl F e' j:=by
 induction h with
 | last c =>
  intro F R ok hj e'
  obtain⟨o1,o2,_⟩:=ok _ List.mem_cons_self
  have:c≠j:=fun z=>hj (by rw[z]; exact List.mem_cons_self)
  show fl (rT F e0 c a) e' j=_
  rw[wH R o1 o2,if_neg fun z=>this z.2]
  omega
 | @cons b e c r hr ih =>
  intro F R ok hj e'
  obtain⟨o1,o2,o3⟩:=ok _ List.mem_cons_self
  have hj2:j ∉ r.map (·.2.2):=fun z=>hj (List.mem_cons_of_mem _ z)
  have cj:c≠j:=fun z=>hj (by rw[z]; exact List.mem_cons_self)
  have bj:b≠j:=fun z=>hj2 (z ▸ hr.head)
  have:=ih (F:=tV a F (e,some b,c)) (R.step o1) (fun x hx=>ok x (List.mem_cons_of_mem _ hx)) hj2 e'
  show fl (tQ a (tV a F (e,some b,c)) r) e' j=_
  rw[this,w4 R o1 o2 (o3 b rfl),if_neg fun z=>bj z.2,if_neg fun z=>cj z.2]
  omega
theorem tN {c:Nat} {MV:List Mv} (h:Chn e0 c MV) (a0:0≤a):∀ {F:List (List Int)},Rows n m F→wC n m MV→(MV.map (·.2.2)).Nodup→(∀ e j,0≤fl F e j)→(∀ x∈MV,∀ b,x.2.1=some b→a≤fl F x.1 b)→∀ e j,0≤fl (tQ a F MV) e j:=by
 induction h with
 | last c =>
  intro F R ok nd nn th e' j
  obtain⟨o1,o2,_⟩:=ok _ List.mem_cons_self
  show 0≤fl (rT F e0 c a) e' j
  rw[wH R o1 o2]
  have:=nn e' j
  split <;> omega
 | @cons b e c r hr ih =>
  intro F R ok nd nn th e' j
  obtain⟨o1,o2,o3⟩:=ok _ List.mem_cons_self
  have lb:=o3 b rfl
  rw[List.map_cons,List.nodup_cons] at nd
  have tb:=th _ List.mem_cons_self b rfl
  refine ih (F:=tV a F (e,some b,c)) (R.step o1) (fun x hx=>ok x (List.mem_cons_of_mem _ hx)) nd.2 (fun e2 j2=>?_) (fun x hx b2 hb2=>?_) e' j
  ·rw[w4 R o1 o2 lb]
   have h1:=nn e2 j2
   by_cases z:e=e2∧b=j2
   ·obtain⟨rfl,rfl⟩:=z
    rw[if_pos ⟨rfl,rfl⟩]
    replace tb:a≤fl F e b:=tb
    split <;> omega
   ·rw[if_neg z]
    split <;> omega
  ·have h1:=th x (List.mem_cons_of_mem _ hx) b2 hb2
   rw[w4 R o1 o2 lb]
   have nb:b≠b2:=fun z=>by
    subst z
    exact A9 hr nd.2 x hx hb2
   rw[if_neg fun z=>nb z.2]
   split <;> omega
theorem JE {L:List En} {c:Nat} {MV:List Mv} (h:Chn e0 c MV) (a0:0≤a):∀ {F:List (List Int)},Rows n m F→wC n m MV→(∀ e j,0<fl F e j→j∈pl L e)→(∀ x∈MV,x.2.2∈pl L x.1)→∀ e j,0<fl (tQ a F MV) e j→j∈pl L e:=by
 induction h with
 | last c =>
  intro F R ok su th e' j hp
  obtain⟨o1,o2,_⟩:=ok _ List.mem_cons_self
  replace hp:0<fl (rT F e0 c a) e' j:=hp
  rw[wH R o1 o2] at hp
  by_cases z:e0=e'∧c=j
  ·obtain⟨rfl,rfl⟩:=z
   exact th _ List.mem_cons_self
  ·rw[if_neg z] at hp
   exact su e' j (by omega)
 | @cons b e c r hr ih =>
  intro F R ok su th e' j hp
  obtain⟨o1,o2,o3⟩:=ok _ List.mem_cons_self
  refine ih (F:=tV a F (e,some b,c)) (R.step o1) (fun x hx=>ok x (List.mem_cons_of_mem _ hx)) (fun e2 j2 h2=>?_) (fun x hx=>th x (List.mem_cons_of_mem _ hx)) e' j hp
  rw[w4 R o1 o2 (o3 b rfl)] at h2
  by_cases z:e=e2∧c=j2
  ·obtain⟨rfl,rfl⟩:=z
   exact th _ List.mem_cons_self
  ·rw[if_neg z] at h2
   refine su e2 j2 ?_
   split at h2 <;> omega
end
end MyE
namespace MyF
open My MyB MyC MyD MyE PySem L2
def top (i:Nat):Stmt:=PySem.Challenge.pw_tariffgate_k66_said_otherwise.main.body.getD i (.Pass ⟨0,0,0,0⟩)
theorem qV:(("ends":Str) == ("__debug__":Str))=false:=by decide
theorem qW:(("ends":Str) == ("__classdict__":Str))=false:=by decide
theorem nF:(("reached_by":Str) == ("__debug__":Str))=false:=by decide
theorem sX:(("lead":Str) == ("__debug__":Str))=false:=by decide
theorem nq:(("sorted":Str) == ("__debug__":Str))=false:=by decide
theorem nr:("sorted":Str)≠"__name__":=by decide
theorem qr:(("moves_to":Str) == ("__debug__":Str))=false:=by decide
abbrev aO:Stmt:=top 19
theorem gg:FnScope ["line","flows","left","entry","wanted","reached","ends"] ["line","flows","left","entry"] (defScope aO):=⟨rfl,rfl,rfl,by decide +kernel,rfl,by decide +kernel,by decide +kernel⟩
theorem nu:Vis (defScope aO) "line":=by decreasing_trivial
theorem nv:Vis (defScope aO) "flows":=by decreasing_trivial
theorem rW:Vis (defScope aO) "left":=by decreasing_trivial
theorem ny:Vis (defScope aO) "entry":=by decreasing_trivial
theorem nz:Vis (defScope aO) "wanted":=by decreasing_trivial
theorem nA:Loc (defScope aO) "wanted":=by first | exact Or.inl rfl | exact Or.inr rfl
theorem js:Vis (defScope aO) "reached":=by decreasing_trivial
theorem rX:Loc (defScope aO) "reached":=by first | exact Or.inl rfl | exact Or.inr rfl
theorem nB:Vis (defScope aO) "ends":=by decreasing_trivial
theorem rY:Loc (defScope aO) "ends":=by first | exact Or.inl rfl | exact Or.inr rfl
theorem jt:(defScope aO).names.lookup ("reached_by":Str)=some .globalImplicit:=by rfl
theorem qt:(defScope aO).names.lookup ("len":Str)=some .globalImplicit:=by rfl
theorem mq:(defScope aO).names.lookup ("sorted":Str)=some .globalImplicit:=by rfl
theorem oU:(defScope aO).names.lookup ("lead":Str)=some .globalImplicit:=by rfl
theorem kK:(defScope aO).names.lookup ("moves_to":Str)=some .globalImplicit:=by rfl
structure Flo (L:List En) (n m:Nat) (rooms:List Int) (F:List (List Int)) (lf:List Int):Prop where
 rows:Rows n m F
 nn:∀ e j,0≤fl F e j
 su:∀ e j,0<fl F e j→j∈pl L e
 ln:lf.length=m
 l0:∀ j,0≤lf.getD j 0
 col:∀ j,j<m→colS F j+lf.getD j 0=rooms.getD j 0
def uJ (L:List En) (F:List (List Int)) (lf:List Int) (S:Nat→Prop):Prop:=(∀ j,S j→lf.getD j 0=0)∧∀ j,S j→∀ e o,Led L F j e o→S o
theorem G8 {L:List En} {n m e0 p:Nat} {rooms lf:List Int} {F:List (List Int)} {MV:List Mv} {a:Int} (h:Flo L n m rooms F lf) (pre:Pre L F e0 p MV none) (ok:wC n m MV) (a0:0≤a) (al:a≤lf.getD p 0) (pm:p<m) (th:∀ z∈rV F MV,a≤z) :
  Flo L n m rooms (tQ a F MV) (lf.set p (lf.getD p 0-a))∧(∀ e,nt (tQ a F MV) e=nt F e+(if e0=e then a else 0))∧((0<lf.getD p 0)→∀ S,uJ L F lf S→uJ L (tQ a F MV) (lf.set p (lf.getD p 0-a)) S):=by
 obtain⟨x0,hx0,ex0⟩:∃ x,MV[0]?=some x∧x.2.2=p:=by
  rcases pre.hd with ⟨_,z⟩ | z
  ·cases z
  ·exact z
 have chn:Chn e0 p MV:=by
  have:=DT pre _ 0 x0 rfl hx0
  rw[ex0] at this
  exact this
 have lp:p<lf.length:=by rw[h.ln]; exact pm
 have th2:∀ x∈MV,∀ b,x.2.1=some b→a≤fl F x.1 b:=fun x hx b hb=>th _ (List.mem_filterMap.mpr ⟨x,hx,by rw[hb]; rfl⟩)
 have inp:∀ x∈MV,x.2.2∈pl L x.1:=fun x hx=>by
  obtain⟨i,hi⟩:=List.mem_iff_getElem?.mp hx
  rcases pre.ok i x hi with ⟨_,_,_,h1,h2⟩ | ⟨b,_,h1,_⟩
  ·rw[h1]; exact h2
  ·exact h1.2.2
 have R':=Rows.led (a:=a) MV h.rows fun x hx=>(ok x hx).1
 refine⟨⟨R',tN chn a0 h.rows ok pre.nd h.nn th2,JE chn a0 h.rows ok h.su inp,by rw[List.length_set]; exact h.ln,fun j=>?_,fun j hj=>?_⟩,fun e=>G9 chn e h.rows ok,fun lpos S sh=>?_⟩
 ·rw[uq lp]
  split
  ·omega
  ·exact h.l0 j
 ·rw[G1 chn j h.rows ok,uq lp]
  have:=h.col j hj
  by_cases z:p=j
  ·subst z
   rw[if_pos rfl,if_pos rfl]
   omega
  ·rw[if_neg z,if_neg z]
   omega
 ·have pS:¬ S p:=fun z=>by
   have:=sh.1 p z
   omega
  have out:∀ (k i:Nat) (x:Mv),i=k→MV[i]?=some x→¬ S x.2.2:=by
   intro k
   induction k with
   | zero =>
    intro i x hi hx
    subst hi
    rw[hx0] at hx
    cases hx
    rw[ex0]
    exact pS
   | succ k ih =>
    intro i x hi hx
    have li:=(List.getElem?_eq_some_iff.mp hx).1
    obtain⟨y,hy⟩:∃ y,MV[k]?=some y:=⟨_,List.getElem?_eq_getElem (by omega)⟩
    have hyS:=ih k y rfl hy
    rcases pre.ok k y hy with ⟨_,h2,_⟩ | ⟨b,_,h1,⟨_,h2⟩ | ⟨x',h2,h3⟩⟩
    ·omega
    ·cases h2
    ·rw[← hi,hx] at h2
     cases h2
     rw[h3]
     exact fun z=>hyS (sh.2 b z _ _ h1)
  have far:∀ j,S j→∀ e,fl (tQ a F MV) e j=fl F e j:=fun j hj=>JI chn j h.rows ok fun z=>by
   obtain⟨x,hx,ex⟩:=List.mem_map.mp z
   obtain⟨i,hi⟩:=List.mem_iff_getElem?.mp hx
   exact out i i x rfl hi (by rw[ex]; exact hj)
  refine⟨fun j hj=>?_,fun j hj e o hl=>?_⟩
  ·rw[uq lp,if_neg (fun z=>pS (by rw[z]; exact hj))]
   exact sh.1 j hj
  ·obtain⟨h1,h2,h3⟩:=hl
   rw[far j hj] at h2
   exact sh.2 j hj e o ⟨by rw[R'.1] at h1; rw[h.rows.1]; exact h1,h2,h3⟩
theorem yX {K:PySem.W.Frag} {H H':Hp} {D p:Addr} {o:HO} {xs:List V} (hD:H D=some o) (n1:∀ ys,o≠.tup ys) (n2:∀ ob ys,o≠.frz ob (.tup ys)) (e:∀ b,b≠D→H' b=H b) (h:SqT K H p xs):SqT K H' p xs:=by
 rcases h with (h | ⟨ob,h⟩) | h
 ·exact .inl (.inl (by rw[e p (fun z=>by rw[z,hD] at h; cases h; exact n1 _ rfl)]; exact h))
 ·exact .inl (.inr ⟨ob,by rw[e p (fun z=>by rw[z,hD] at h; cases h; exact n2 _ _ rfl)]; exact h⟩)
 ·exact .inr h
theorem D8 {K:PySem.W.Frag} {H H':Hp} {D:Addr} {o:HO} (hD:H D=some o) (n1:∀ ys,o≠.tup ys) (n2:∀ ob ys,o≠.frz ob (.tup ys)) (e:∀ b,b≠D→H' b=H b):∀ {kvs:List (Key×V)} {R:List Rc},RcAt K H kvs R→RcAt K H' kvs R
 | _,_,.nil=>.nil
 | _,_,.cons ⟨a,t,b,c⟩ r=>.cons ⟨a,t,b,yX hD n1 n2 e c⟩ (D8 hD n1 n2 e r)
theorem JU {L:List En} {F:List (List Int)} {e0 p m:Nat} {MV:List Mv} (pre:Pre L F e0 p MV none) (hn:F.length=e0+1) (lt:∀ x∈MV,x.2.2<m):wC (e0+1) m MV:=fun x hx=>by
 obtain⟨i,hi⟩:=List.mem_iff_getElem?.mp hx
 rcases pre.ok i x hi with ⟨h1,_,_,h2,_⟩ | ⟨b,h1,h2,⟨_,h3⟩ | ⟨y,h3,h4⟩⟩
 ·exact⟨by omega,lt x hx,fun b hb=>by rw[h1] at hb; cases hb⟩
 ·cases h3
 ·refine⟨by have:=h2.1; omega,lt x hx,fun b' hb=>?_⟩
  rw[h1] at hb
  cases hb
  rw[← h4]
  exact lt y (List.mem_iff_getElem?.mpr ⟨_,h3⟩)
theorem DO {L:List En} {F:List (List Int)} {e0 p:Nat} {MV:List Mv} (pre:Pre L F e0 p MV none):∀ z∈rV F MV,0<z:=fun z hz=>by
 obtain⟨x,hx,e⟩:=List.mem_filterMap.mp hz
 obtain⟨i,hi⟩:=List.mem_iff_getElem?.mp hx
 rcases pre.ok i x hi with ⟨h1,_⟩ | ⟨b,h1,h2,_⟩
 ·rw[h1] at e
  cases e
 ·rw[h1] at e
  cases e
  exact h2.2.1
def yy (K:PySem.W.Frag):Sp:=fun vs H Q _=>∃ (l g fa:Addr) (e0 m:Nat) (L:List En) (rs:List Addr) (F:List (List Int)) (lf rooms:List Int) (en:En) (H0:Hp),vs=[.ref l,.ref g,.ref fa,.int e0]∧LnAt K H0 l L∧Same H0 H∧H0 fa=none∧(∀ r∈rs,H0 r=none)∧FlAt H g rs F∧Siz m L F∧Flo L (e0+1) m rooms F lf∧H fa=some (.lst (lf.map V.int))∧fa ∉ rs∧fa≠g∧L[e0]?=some en∧0≤en.2∧nt F e0=0 ∧
 ∀ (F':List (List Int)) (lf':List Int) (H':Hp),Same H0 H'→(∀ b u,b ∉ rs→b≠fa→H b=some u→H' b=some u)→FlAt H' g rs F'→H' fa=some (.lst (lf'.map V.int))→Flo L (e0+1) m rooms F' lf'→(∀ e,e≠e0→nt F' e=nt F e)→(∀ S,uJ L F lf S→uJ L F' lf' S) →
  (nt F' e0=en.2→Q .non H')∧∀ (c:Addr) (ns:List Int),H c=none→H' c=some (.lst (ns.map V.int))→nt F' e0<en.2→ns.Pairwise (· < ·)→(∀ x∈ns,∃ j:Nat,x=(j:Int)∧j<m)→uJ L F' lf' (fun j=>(j:Int)∈ns)→(∀ j∈pl L e0,(j:Int)∈ns)→Q (.ref c) H'
section
variable {P:Program} {w:World} {K:PySem.W.Frag} {mg:Str→Option Value} {base:Heap} {f:Addr} {fd:FuncData}
theorem FD (F:Fun K "serve" "serve" aO f fd) (M:Mg mg) (gh:Cal P w K mg base CX0 "reached_by" 2 ["line","flows","entry"] (CL K)) (iT:Cal P w K mg base CX0 "moves_to" 1 ["reached","place"] (yN K)) (oV:Cal P w K mg base CX0 "lead" 1 ["flows","left","wanted","moves"] (Az K)):FnOk P w K mg base CX0 3 f fd ["line","flows","left","entry"] (yy K):=by
 refine F.ok gg (fun vs H Q E h=>?_) (fun cdv A outer s H vs Q E hr h=>?_)
 ·obtain⟨l,g,fa,e0,m,L,rs,F',lf,rooms,en,H0,rfl,_⟩:=h
  rfl
 obtain⟨l,g,fa,e0,m,L,rs,Fl,lf,rooms,en,H0,rfl,hL0,S0,hfa0,hrs0,hF,sz,flo,hf,frs,fg,hen,w0,row0,q⟩:=h
 refine⟨_,(@dI _ _ _ _ _ (@ic _ _ 4 _ _ _ _ gg.nd rfl nA (@gu _ _ _ _ _ _ _ (@ni _) (@gu _ _ _ _ _ _ _ (@iV _) (@cO _ 0 _ _ rfl nu bo bq) (@cO _ 3 _ _ rfl ny aT aU) (fun _ _=>rfl)) (@dw _ _ _ _) (fun _ _=>rfl)) (fZ rfl) (.inl rfl)) (@dI _ _ _ _ _ (@xP _ _ _ _ _ _ PassesOwn.never (@kB _ _ _ _ _ _ _ _ (@vK _) (@cO _ 4 _ _ rfl nz gT gU) (@dw _ _ _ _) (i8 _)) (@dI _ _ _ _ _ (@ic _ _ 5 _ _ _ _ gg.nd rfl rX (@fX _ _ _ _ _ _ _ _ _ _ _ gh hr jt (@bO _ _ _ _ _ (@cO _ 0 _ _ rfl nu bo bq) (@bO _ _ _ _ _ (@cO _ 1 _ _ rfl nv bD bE) (@bO _ _ _ _ _ (@cO _ 3 _ _ rfl ny aT aU) (@cT _) (cg rfl)) (cg rfl)) (cg rfl)) (by decide) nF (cg rfl) (fT rfl (fT rfl ff))) (fZ rfl) (.inl rfl)) (@dI _ _ _ _ _ (@uE _ _ _ _ _ _ _ _ _ _ _ _ _ _ _ 6 _ _ _ gg.nd rfl rY rfl (CompOk.make (N':=["left","place"]) (ix:=[2]) (nl:=1) (by rfl) (fm1 rfl fm0) (by rfl) (by decide +kernel) rfl (by decide +kernel) rfl (And.intro ⟨rfl,.inl rfl,.inl rfl⟩ True.intro)) (@xJ _ _ _ _ (@cO _ 5 _ _ rfl js bJ bK)) (fun _ _ _ _ _=>(@fj _ _ 1 _ (show List.Nodup (["left","place"]:List Str) from by decide) rfl (Or.inl rfl) (by first | exact .inl rfl | exact .inr rfl | assumption))) (fun _ _ _ _ _=>(@ux _ _ _ (@kB _ _ _ _ _ _ _ _ (@vK _) (@gu _ _ _ _ _ _ _ (@vL _ K rfl) (@pv _ 0 _ _ (by rfl) (by decreasing_trivial) (by decide) (by decide)) (@pv _ 1 _ _ (by rfl) (by decreasing_trivial) (by decide) (by decide)) (fun _ _=>rfl)) (@dw _ _ _ _) (i8 _)))) (fun _ _ _ _ _=>(@pv _ 1 _ _ (by rfl) (by decreasing_trivial) (by decide) (by decide))) (by rfl) (by intro _; rfl) (by first | exact .inl rfl | exact .inr rfl | assumption)) (@dI _ _ _ _ _ (@nC _ _ _ _ _ _ _ _ (@kB _ _ _ _ _ _ _ _ (@um _) (@fY _ _ _ _ _ _ _ _ _ iU qt M.m_len pW (@bO _ _ _ _ _ (@cO _ 6 _ _ rfl nB qV qW) (@cT _) (cg rfl)) aA az (cg rfl) ff) (@dw _ _ _ _) (i8 _)) (@eF _ _ _ (@ia _ _ _ _ (@fY _ _ _ _ _ _ _ _ _ (zw rfl) mq M.m_sorted zV (@bO _ _ _ _ _ (@cO _ 5 _ _ rfl js bJ bK) (@cT _) (cg rfl)) nr nq (cg rfl) ff))) (@m8 _)) (@eF _ _ _ (@DJ _ _ 4 _ _ _ _ _ _ gg.nd rfl nA (@fX _ _ _ _ _ _ _ _ _ _ _ oV hr oU (@bO _ _ _ _ _ (@cO _ 1 _ _ rfl nv bD bE) (@bO _ _ _ _ _ (@cO _ 2 _ _ rfl rW fQ fR) (@bO _ _ _ _ _ (@cO _ 4 _ _ rfl nz gT gU) (@bO _ _ _ _ _ (@fX _ _ _ _ _ _ _ _ _ _ _ iT hr kK (@bO _ _ _ _ _ (@cO _ 5 _ _ rfl js bJ bK) (@bO _ _ _ _ _ (@gu _ _ _ _ _ _ _ (@iV _) (@cO _ 6 _ _ rfl nB qV qW) (@dw _ _ _ _) (fun _ _=>rfl)) (@cT _) (cg rfl)) (cg rfl)) (by decide) qr (cg rfl) (fT rfl ff)) (@cT _) (cg rfl)) (cg rfl)) (cg rfl)) (cg rfl)) (by decide) sX (cg rfl) (fT rfl (fT rfl (fT rfl ff)))) AJ (.inl rfl))))))) (@eF _ _ _ (@ia _ _ _ _ (@tZ _ _ _))))),?_⟩
 obtain⟨us,t,q',a1,a2,a3,a4⟩:=(hL0.same S0).get hen
 trivial
 refine⟨us,a1,_,oh a2,t,rfl,_,a3,_,rfl,?_⟩
 obtain⟨IV,hIV⟩:∃ IV:Nat→St→Hp→Prop,IV=fun N σ H'=>∃ (F':List (List Int)) (lf':List Int) (wn:Int) (x y:Option V),Same H0 H'∧(∀ b u,b ∉ rs→b≠fa→H b=some u→H' b=some u)∧FlAt H' g rs F'∧H' fa=some (.lst (lf'.map V.int))∧Flo L (e0+1) m rooms F' lf'∧(∀ e,e≠e0→nt F' e=nt Fl e)∧(∀ S,uJ L Fl lf S→uJ L F' lf' S)∧nt F' e0+wn=en.2∧0≤wn∧N=wn.toNat∧σ=[some (.ref l),some (.ref g),some (.ref fa),some (.int (e0:Int)),some (.int wn),x,y]:=⟨_,rfl⟩
 refine⟨IV,⟨en.2.toNat,?_⟩,?_⟩
 ·rw[hIV]
  exact⟨Fl,lf,en.2,_,_,S0,fun b u _ _ z=>z,hF,hf,flo,fun _ _=>rfl,fun _ z=>z,by omega,w0,rfl,rfl⟩
 intro N σ H3 h3
 rw[hIV] at h3
 obtain⟨F3,lf3,wn,x,y,S3,fr3,hF3,hf3,flo3,row3,sh3,sum3,wn0,rfl,rfl⟩:=h3
 obtain⟨qa,qb⟩:=q F3 lf3 H3 S3 fr3 hF3 hf3 flo3 row3 sh3
 trivial
 by_cases hw:0<wn
 ·rw[if_pos hw]
  have sz3:Siz m L F3:=⟨by rw[flo3.rows.1,← flo.rows.1]; exact sz.fl,sz.l,flo3.rows.2,sz.pl,sz.nd,sz.m⟩
  have hL3:=hL0.same S3
  refine⟨fun σ' H'=>∃ m',m'<wn.toNat∧IV m' σ' H',fun _ _ h=>h,l,g,e0,m,L,rs,F3,rfl,hL3,hF3,sz3,(List.getElem?_eq_some_iff.mp hen).1,fun D kvs R H4 e4 hD d4 r4 rch lt4=>?_⟩
  refine⟨D,rfl,kvs,.inl d4,fun ob H5 h5 oth C hC=>?_⟩
  have s35:Same H3 H5:=fun b u hb=>by
   rw[oth b (mz hb hD)]
   exact e4 b u hb
  have r5:RcAt K H5 kvs R:=D8 d4 (fun ys z=>by cases z) (fun _ _ z=>by cases z) oth r4
  have lR:R.length≤60:=by
   have:=sP m _ rch.way.nd lt4
   rw[List.length_map] at this
   have:=sz.m
   omega
  obtain⟨Pc,hPc⟩:∃ Pc:Nat→St→Hp→Prop,Pc=fun i τ H6=>∃ (z:Option V),H6 C=some (.lst ((((R.map (·.1)).take i).filter fun j=>decide (0<lf3.getD j 0)).map fun j:Nat=>V.int (j:Int)))∧Same H5 H6∧τ=[some (.ref fa),z]:=⟨_,rfl⟩
  refine xj kvs Pc ?_ (fun i τ H6 _ h=>by rw[hPc] at h; obtain⟨_,_,e6,_⟩:=h; exact e6 _ _ h5) ?_ ?_
  ·rw[hPc]
   exact⟨_,by rw[cY]; rfl,fD hC _,rfl⟩
  ·intro i k v τ H6 R' hk h next
   rw[hPc] at h
   obtain⟨z,d6,e6,rfl⟩:=h
   have hki:(kvs.map (·.1))[i]?=some k:=by rw[List.getElem?_map,hk]; rfl
   rw[r5.keys,List.getElem?_map] at hki
   obtain⟨xr,hxr,rfl⟩:=Option.map_eq_some_iff.mp hki
   have hp:(R.map (·.1))[i]?=some xr.1:=by rw[List.getElem?_map,hxr]; rfl
   have et:(R.map (·.1)).take (i+1)=(R.map (·.1)).take i++[xr.1]:=by
    rw[List.take_add_one,hp]
    rfl
   have lm:xr.1<m:=lt4 _ (List.mem_iff_getElem?.mpr ⟨_,hp⟩)
   have lfl:=flo3.ln
   have hat:atI (lf3.map V.int) (xr.1:Int)=some (.int (lf3.getD xr.1 0)):=uF (by omega) (by omega)
   have lf6:((((R.map (·.1)).take i).filter fun j=>decide (0<lf3.getD j 0)).map fun j:Nat=>V.int (j:Int)).length≤60:=by
    rw[List.length_map]
    refine Nat.le_trans (List.length_filter_le ..) ?_
    rw[List.length_take,List.length_map]
    omega
   show t9 C (vW 1) _ _ (V.int (xr.1:Int)) _ _ _
   trivial
   refine⟨_,SqL.of (e6 _ _ (s35 _ _ hf3)),_,hat,_,rfl,?_⟩
   by_cases hpos:0<lf3.getD xr.1 0
   ·rw[if_pos hpos]
    refine⟨_,d6,Nat.lt_of_lt_of_le (m:=1000) (by omega) (by decide),next _ _ ?_⟩
    rw[hPc]
    refine⟨_,?_,fS e6 hC _,rfl⟩
    rw[cY,et,List.filter_append,List.filter_cons_of_pos (by rw[decide_eq_true hpos]),List.map_append]
    rfl
   ·rw[if_neg hpos]
    refine next _ _ ?_
    rw[hPc]
    refine⟨_,?_,e6,rfl⟩
    rw[et,List.filter_append,List.filter_cons_of_neg (by rw[decide_eq_false hpos]; decide),List.filter_nil,List.append_nil]
    exact d6
  ·intro τ H6 h
   rw[hPc] at h
   obtain⟨z,d6,e6,rfl⟩:=h
   rw[r5.len,← List.length_map (f:=fun x:Rc=>x.1),List.take_length] at d6
   have s36:=s35.trans e6
   have h6D:=e6 _ _ h5
   have r6:=RcAt.same e6 r5
   obtain⟨es,hes⟩:∃ es:List Nat,es=(R.map (·.1)).filter fun j=>decide (0<lf3.getD j 0):=⟨_,rfl⟩
   rw[← hes] at d6
   have noH:∀ c,H6 c=none→H c=none:=fun c hc=>by
    have h3c:=s36.free hc
    cases hcH:H c with
    | none=>rfl
    | some u =>
     by_cases c1:c∈rs
     ·obtain⟨i,hi⟩:=List.mem_iff_getElem?.mp c1
      obtain⟨row,hrow⟩:∃ row,F3[i]?=some row:=⟨_,List.getElem?_eq_getElem (by rw[← hF3.len]; exact (List.getElem?_eq_some_iff.mp hi).1)⟩
      rw[hF3.row i c row hi hrow] at h3c
      cases h3c
     ·by_cases c2:c=fa
      ·rw[c2,hf3] at h3c
       cases h3c
      ·rw[fr3 c u c1 c2 hcH] at h3c
       cases h3c
   refine⟨C,rfl,_,.inl (SqL.of d6),?_⟩
   cases es with
   | nil =>
    rw[if_pos (by simp)]
    refine⟨D,rfl,kvs,.inr ⟨ob,h6D⟩,R.map fun x=>(x.1:Int),by rw[r6.keys,List.map_map]; rfl,by rw[List.length_map]; omega,fun c ns' hc hp hs=>?_⟩
    have inn:∀ j:Nat,(j:Int)∈ns'↔j∈R.map (·.1):=fun j=>by
     rw[hp.mem_iff]
     constructor
     ·intro z
      obtain⟨x,hx,e⟩:=List.mem_map.mp z
      exact List.mem_map.mpr ⟨x,hx,by omega⟩
     ·intro z
      obtain⟨x,hx,e⟩:=List.mem_map.mp z
      exact List.mem_map.mpr ⟨x,hx,by rw[e]⟩
    have nd9:ns'.Nodup:=by
     refine hp.nodup_iff.mpr ?_
     have e9:(R.map fun x=>(x.1:Int))=(R.map (·.1)).map fun j:Nat=>(j:Int):=by rw[List.map_map]; rfl
     rw[e9]
     exact List.pairwise_map.mpr (rch.way.nd.imp fun a b=>a (by omega))
    have hs9:ns'.Pairwise (· < ·):=(hs.and nd9).imp fun ab=>by have:=ab.1; have:=ab.2; omega
    have rg9:∀ x∈ns',∃ j:Nat,x=(j:Int)∧j<m:=fun x hx=>by
     obtain⟨y,hy,ey⟩:=List.mem_map.mp (hp.mem_iff.mp hx)
     exact⟨y.1,ey.symm,lt4 _ (List.mem_map.mpr ⟨y,hy,rfl⟩)⟩
    have s3c:=s36.trans (fD hc (.lst (ns'.map V.int)))
    refine (q F3 lf3 _ (S3.trans s3c) (fun b u b1 b2 z=>s3c _ _ (fr3 b u b1 b2 z)) (hF3.same s3c) (s3c _ _ hf3) flo3 row3 sh3).2 c ns' (noH c hc) cY (by omega) hs9 rg9 ⟨fun j hj=>?_,fun j hj e o hl=>(inn o).mpr (rch.shut j ((inn j).mp hj) e o hl)⟩ fun j hj=>(inn j).mpr (rch.base j hj)
    have jR:=(inn j).mp hj
    have nn:=flo3.l0 j
    by_cases z:0<lf3.getD j 0
    ·have:j∈([]:List Nat):=by
      rw[hes]
      exact List.mem_filter.mpr ⟨jR,decide_eq_true z⟩
     cases this
    ·omega
   | cons p es =>
    rw[if_neg (by simp; omega)]
    have pf:p∈(R.map (·.1)).filter fun j=>decide (0<lf3.getD j 0):=by rw[← hes]; exact List.mem_cons_self
    obtain⟨pR,pp⟩:=List.mem_filter.mp pf
    have ppos:0<lf3.getD p 0:=of_decide_eq_true pp
    have at0:atI ((p::es).map fun j:Nat=>V.int (j:Int)) 0=some (V.int (p:Int)):=oh (j:=0) rfl
    refine⟨C,rfl,_,SqL.of d6,_,at0,D,p,e0,m,L,F3,kvs,R,rfl,.inr ⟨ob,h6D⟩,r6,rch.way,pR,by omega,fun lm vs MV H7 e7 hlm d7 mv7 pre7 in7=>?_⟩
    have s37:=s36.trans e7
    obtain⟨x0,hx0,ex0⟩:∃ x,MV[0]?=some x∧x.2.2=p:=by
     rcases pre7.hd with ⟨_,z⟩ | z
     ·cases z
     ·exact z
    have ltm:∀ x∈MV,x.2.2<m:=fun x hx=>lt4 _ (in7 x hx)
    have ok7:=JU pre7 flo3.rows.1 ltm
    have lMV:MV.length≤64:=by
     have:=sP m _ pre7.nd fun c hc=>by
      obtain⟨x,hx,e⟩:=List.mem_map.mp hc
      rw[← e]
      exact ltm x hx
     rw[List.length_map] at this
     have:=sz.m
     omega
    have lmrs:lm ∉ rs:=fun c1=>by
     obtain⟨i,hi⟩:=List.mem_iff_getElem?.mp c1
     obtain⟨row,hrow⟩:∃ row,F3[i]?=some row:=⟨_,List.getElem?_eq_getElem (by rw[← hF3.len]; exact (List.getElem?_eq_some_iff.mp hi).1)⟩
     rw[s36 _ _ (hF3.row i lm row hi hrow)] at hlm
     cases hlm
    have lmfa:lm≠fa:=fun z=>by rw[z,s36 _ _ hf3] at hlm; cases hlm
    refine⟨g,fa,lm,wn,e0+1,m,rs,F3,lf3,vs,MV,x0,rfl,hF3.same s37,flo3.rows,s37 _ _ hf3,flo3.ln,frs,fg,d7,lmrs,lmfa,mv7,ok7,hx0,lMV,fun a H8 ha hle fr8 F8 f8=>?_⟩
    rw[ex0] at ha hle f8
    have apos:0<a:=by
     rcases List.mem_cons.mp ha with rfl | ha
     ·exact hw
     ·rcases List.mem_cons.mp ha with rfl | ha
      ·exact ppos
      ·exact DO pre7 a ha
    have aw:a≤wn:=hle _ List.mem_cons_self
    obtain⟨L1,L2',L3⟩:=G8 flo3 pre7 ok7 (by omega:0≤a) (hle _ (List.mem_cons_of_mem _ List.mem_cons_self)) (lt4 p pR) fun z hz=>hle z (List.mem_cons_of_mem _ (List.mem_cons_of_mem _ hz))
    refine⟨a,rfl,(wn-a).toNat,by omega,?_⟩
    rw[hIV]
    refine⟨tQ a F3 MV,_,wn-a,_,_,fun b u hb=>fr8 b u (fun z=>by rw[hrs0 b z] at hb; cases hb) (fun z=>by rw[z,hfa0] at hb; cases hb) (s37 _ _ (S3 _ _ hb)),fun b u b1 b2 hb=>fr8 b u b1 b2 (s37 _ _ (fr3 b u b1 b2 hb)),F8,f8,L1,fun e he=>by rw[L2' e,if_neg (Ne.symm he),row3 e he]; omega,fun S hS=>L3 ppos S (sh3 S hS),by rw[L2' e0,if_pos rfl]; omega,by omega,rfl,rfl⟩
 ·rw[if_neg hw]
  exact qa (by omega)
end
end MyF
namespace MyG
open My MyB MyC MyD MyE MyF PySem L2
def top (i:Nat):Stmt:=PySem.Challenge.pw_tariffgate_k66_said_otherwise.main.body.getD i (.Pass ⟨0,0,0,0⟩)
abbrev ck:Stmt:=top 20
theorem qu:FnScope ["flow"] ["flow"] (defScope ck):=⟨rfl,rfl,rfl,by decide +kernel,rfl,by decide +kernel,by decide +kernel⟩
theorem ju:Vis (defScope ck) "flow":=by decreasing_trivial
theorem dP:(defScope ck).names.lookup ("enumerate":Str)=some .globalImplicit:=by rfl
theorem Dk {X:Cx} {K:PySem.W.Frag} (h:X.K=K) (hc:X.calm=true):rQ X (.builtin "sum") (fun xs H Q=>∃ (p:Addr) (ns:List Int),xs=[.ref p]∧SqL K H p (ns.map V.int)∧Q (.int ns.sum) H):=by subst h; exact uw hc
def rt (fw:List Int):List (Nat×Int):=((List.range fw.length).filter fun j=>decide (0<fw.getD j 0)).map fun j=>(j,fw.getD j 0)
def RtAt (K:PySem.W.Frag) (H:Hp) (us:List V) (xs:List (Nat×Int)):Prop:=Paired (fun (v:V) (x:Nat×Int)=>∃ t,v=V.ref t∧SqT K H t [.int (x.1:Int),.int x.2]) us xs
theorem RtAt.same {K:PySem.W.Frag} {H H':Hp} (e:Same H H'):∀ {us:List V} {xs:List (Nat×Int)},RtAt K H us xs→RtAt K H' us xs
 | _,_,.nil=>.nil
 | _,_,.cons ⟨t,a,b⟩ r=>.cons ⟨t,a,Same.tup e b⟩ (RtAt.same e r)
theorem RtAt.upd {K:PySem.W.Frag} {H:Hp} {D:Addr} {o o':HO} (hD:H D=some o) (n1:∀ ys,o≠.tup ys) (n2:∀ ob ys,o≠.frz ob (.tup ys)):∀ {us:List V} {xs:List (Nat×Int)},RtAt K H us xs→RtAt K (L2.upd H D o') us xs
 | _,_,.nil=>.nil
 | _,_,.cons ⟨t,a,b⟩ r=>.cons ⟨t,a,uc hD n1 n2 b⟩ (RtAt.upd hD n1 n2 r)
theorem RtAt.snoc {K:PySem.W.Frag} {H:Hp} {j:Nat} {x:Int} {t:Addr} (h:SqT K H t [.int (j:Int),.int x]):∀ {us:List V} {xs:List (Nat×Int)},RtAt K H us xs→RtAt K H (us++[.ref t]) (xs++[(j,x)])
 | _,_,.nil=>.cons ⟨t,rfl,h⟩ .nil
 | _,_,.cons a r=>.cons a (RtAt.snoc h r)
theorem RtAt.len {K:PySem.W.Frag} {H:Hp}:∀ {us:List V} {xs:List (Nat×Int)},RtAt K H us xs→us.length=xs.length
 | _,_,.nil=>rfl
 | _,_,.cons _ r=>by rw[List.length_cons,List.length_cons,RtAt.len r]
def yG (K:PySem.W.Frag):Sp:=fun vs H Q _=>∃ (r:Addr) (fw:List Int),vs=[.ref r]∧SqL K H r (fw.map V.int)∧fw.length≤64∧∀ (l:Addr) (us:List V) (H':Hp),Same H H'→H l=none→H' l=some (.lst us)→RtAt K H' us (rt fw)→Q (.ref l) H'
section
variable {P:Program} {w:World} {K:PySem.W.Frag} {mg:Str→Option Value} {base:Heap} {f:Addr} {fd:FuncData}
theorem Br (F:Fun K "route_of" "route_of" ck f fd) (M:Mg mg):FnOk P w K mg base CX0 1 f fd ["flow"] (yG K):=by
 refine F.ok qu (fun vs H Q E h=>?_) (fun cdv A outer s H vs Q E hr h=>?_)
 ·obtain⟨r,fw,rfl,_⟩:=h
  rfl
 obtain⟨r,fw,rfl,hS,l64,q⟩:=h
 refine⟨_,(@eF _ _ _ (@ia _ _ _ _ (@mS _ _ _ _ _ _ _ _ _ _ _ _ _ _ _ rfl (CompOk.make (N':=["place","amount"]) (ix:=[]) (nl:=2) (by rfl) fm0 (by rfl) (by decide +kernel) rfl (by decide +kernel) rfl True.intro) (@CA _ _ _ _ _ (@vZ _ _ _ _ _ _ _ _ dP M.m_enumerate (@bO _ _ _ _ _ (@cO _ 0 _ _ rfl ju iq ir) (@cT _) (cg rfl)) (by rfl)) (@xV _ _ _ _ _ _ _ _ dP M.m_enumerate (@bO _ _ _ _ _ (@cO _ 0 _ _ rfl ju iq ir) (@cT _) (cg rfl)) (by rfl))) (fun _ _ _ _ _=>(@uv _ K _ _ 2 _ _ rfl rfl (@gS _ _ _ _ _ (@fj _ _ 0 _ (show List.Nodup (["place","amount"]:List Str) from by decide) rfl (Or.inl rfl) (by first | exact .inl rfl | exact .inr rfl | assumption)) (@gS _ _ _ _ _ (@fj _ _ 1 _ (show List.Nodup (["place","amount"]:List Str) from by decide) rfl (Or.inl rfl) (by first | exact .inl rfl | exact .inr rfl | assumption)) (@oW _) (by rfl)) (by rfl)) (by rfl) (by rfl))) (fun _ _ _ _ _=>(@ux _ _ _ (@kB _ _ _ _ _ _ _ _ (@vK _) (@pv _ 1 _ _ (by rfl) (by decreasing_trivial) (by decide) (by decide)) (@dw _ _ _ _) (i8 _)))) (fun _ _ _ _ _=>(@tP _ _ _ _ _ (@bO _ _ _ _ _ (@pv _ 0 _ _ (by rfl) (by decreasing_trivial) (by decide) (by decide)) (@bO _ _ _ _ _ (@pv _ 1 _ _ (by rfl) (by decreasing_trivial) (by decide) (by decide)) (@cT _) (cg rfl)) (cg rfl)))) (by intro _; rfl)))),?_⟩
 trivial
 obtain⟨Pc,hC⟩:∃ Pc:Addr→Nat→St→Hp→Prop,Pc=fun D i τ H'=>∃ (us:List V) (y z:Option V),H' D=some (.lst us)∧RtAt K H' us (((List.range i).filter fun j=>decide (0<fw.getD j 0)).map fun j=>(j,fw.getD j 0))∧Same H H'∧τ=[y,z]:=⟨_,rfl⟩
 refine xw (fw.map V.int) (.inl hS) _ Pc ?_ (fun D i τ H' hD h=>by rw[hC] at h; obtain⟨_,y,z,_,_,e,_⟩:=h; exact e) ?_ ?_
 ·intro D hD
  rw[hC]
  exact⟨[],_,_,cY,.nil,fD hD _,rfl⟩
 ·intro D i x T τ H' R' hD hx h hT next
  rw[hC] at h
  obtain⟨us,y,z,d1,ra,d2,rfl⟩:=h
  rw[List.getElem?_map] at hx
  obtain⟨o,ho,rfl⟩:=Option.map_eq_some_iff.mp hx
  have li:=(List.getElem?_eq_some_iff.mp ho).1
  have eo:fw.getD i 0=o:=by rw[List.getD,ho]; rfl
  obtain⟨H2,g2,S2,T2⟩:=ki (K:=K) hT [.int i,.int o]
  rw[← g2]
  clear g2
  replace d1:=S2 _ _ d1
  replace ra:=ra.same S2
  replace d2:=d2.trans S2
  have ep:(List.range (i+1)).filter (fun j=>decide (0<fw.getD j 0))=(List.range i).filter (fun j=>decide (0<fw.getD j 0))++[i].filter (fun j=>decide (0<fw.getD j 0)):=by
   rw[List.range_succ,List.filter_append]
  have lp:us.length≤i:=by
   rw[ra.len,List.length_map]
   refine Nat.le_trans (List.length_filter_le ..) ?_
   rw[List.length_range]
   exact Nat.le_refl _
  trivial
  refine⟨_,T2,rfl,?_⟩
  trivial
  by_cases hz:0<o
  ·rw[if_pos hz]
   refine⟨by decide,fun t ht=>?_⟩
   obtain⟨H3,g3,S3,T3⟩:=ki (K:=K) ht [.int i,.int o]
   rw[← g3]
   clear g3
   have d3:=S3 _ _ d1
   refine⟨_,d3,Nat.lt_of_lt_of_le (m:=1000) (by omega) (by decide),next _ _ ?_⟩
   rw[hC]
   refine⟨_,_,_,cY,?_,fS (d2.trans S3) hD _,rfl⟩
   rw[ep,List.filter_cons_of_pos (by rw[eo]; simp [hz]),List.filter_nil,List.map_append]
   exact RtAt.upd d3 (fun ys z=>by cases z) (fun _ _ z=>by cases z) (RtAt.snoc (by rw[eo]; exact T3) (ra.same S3))
  ·rw[if_neg hz]
   refine next _ _ ?_
   rw[hC]
   refine⟨us,_,_,d1,?_,d2,rfl⟩
   rw[ep,List.filter_cons_of_neg (by rw[eo]; simp; omega),List.filter_nil,List.append_nil]
   exact ra
 ·intro D τ H' hD h
  rw[hC] at h
  obtain⟨us,y,z,d1,ra,d2,rfl⟩:=h
  rw[List.length_map] at ra
  exact q D us H' d2 hD d1 ra
end
end MyG
namespace MyS
open My MyB MyC MyD MyE MyF MyG PySem L2
def iW (k:Nat) (g:Nat→Int):Int:=((List.range k).map g).sum
theorem iN (k:Nat) (g:Nat→Int):iW (k+1) g=iW k g+g k:=by
 unfold iW
 rw[List.range_succ,List.map_append,List.sum_append]
 simp
theorem jw {g h:Nat→Int}:∀ {k:Nat},(∀ i,i<k→g i=h i)→iW k g=iW k h
 | 0,_=>rfl
 | k+1,e=>by rw[iN,iN,jw fun i hi=>e i (by omega),e k (by omega)]
theorem uH (g h:Nat→Int):∀ k,iW k (fun i=>g i+h i)=iW k g+iW k h
 | 0=>rfl
 | k+1=>by
  rw[iN,iN,iN,uH g h k]
  omega
theorem vv:∀ k,iW k (fun _=>0)=0
 | 0=>rfl
 | k+1=>by rw[iN,vv k]; rfl
theorem vf {g:Nat→Int} {k:Nat} (h:∀ i,i<k→g i=0):iW k g=0:=(jw h).trans (vv k)
theorem zd (f:Nat→Nat→Int) (m:Nat):∀ n,iW m (fun j=>iW n fun e=>f e j)=iW n fun e=>iW m fun j=>f e j
 | 0=>by
  show iW m (fun _=>0)=0
  exact vv m
 | n+1=>by
  rw[iN,← zd f m n,← uH]
  exact jw fun j _=>iN n _
theorem u5 {g h:Nat→Int}:∀ {k:Nat},(∀ i,i<k→g i≤h i)→iW k g≤iW k h
 | 0,_=>Int.le_refl _
 | k+1,e=>by
  rw[iN,iN]
  have:=u5 (k:=k) fun i hi=>e i (by omega)
  have:=e k (by omega)
  omega
theorem wY {g:Nat→Int} {k:Nat} (h:∀ i,i<k→0≤g i):0≤iW k g:=by
 have:=u5 (g:=fun _=>0) h
 rw[vv] at this
 exact this
theorem vh:∀ l:List Int,l.sum=iW l.length fun j=>l.getD j 0
 | []=>rfl
 | x::l=>by
  unfold iW
  rw[List.sum_cons,List.length_cons,List.range_succ_eq_map,List.map_cons,List.sum_cons,List.map_map,vh l]
  rfl
theorem yD {n m e:Nat} {F:List (List Int)} (h:Rows n m F) (he:e<n):nt F e=iW m fun j=>fl F e j:=by
 unfold nt
 rw[vh,wW h he]
 rfl
theorem yL {n m j:Nat} {F:List (List Int)} (h:Rows n m F):colS F j=iW n fun e=>fl F e j:=by
 unfold colS
 rw[vh,List.length_map,h.1]
 refine jw fun e he=>?_
 unfold fl
 have he':e<F.length:=by rw[h.1]; exact he
 simp [List.getD,he']
def roomS (rooms:List Int) (m:Nat) (S:Nat→Bool):Int:=iW m fun j=>if S j=true then rooms.getD j 0 else 0
def sumG (L:List En) (G:Nat→Int) (S:Nat→Bool) (k:Nat):Int:=iW k fun e=>if (pl L e).all S=true then G e else 0
theorem Ca {L:List En} {n m:Nat} {rooms lf:List Int} {F:List (List Int)} (h:Flo L n m rooms F lf) (S:Nat→Bool):roomS rooms m S=iW n (fun e=>iW m fun j=>if S j=true then fl F e j else 0)+iW m (fun j=>if S j=true then lf.getD j 0 else 0):=by
 unfold roomS
 rw[← zd (fun e j=>if S j=true then fl F e j else 0) m n,← uH]
 refine jw fun j hj=>?_
 have:=h.col j hj
 rw[yL h.rows] at this
 by_cases z:S j=true
 ·rw[if_pos z,if_pos z,← this]
  congr 1
  exact jw fun e _=>by rw[if_pos z]
 ·rw[if_neg z,if_neg z]
  have:(iW n fun e=>if S j=true then fl F e j else 0)=0:=vf fun e _=>by rw[if_neg z]
  omega
theorem tight {L:List En} {n m:Nat} {rooms lf:List Int} {F:List (List Int)} (h:Flo L n m rooms F lf) (S:Nat→Bool) (sh:uJ L F lf fun j=>S j=true):roomS rooms m S=sumG L (nt F) S n:=by
 rw[Ca h S]
 have z0:(iW m fun j=>if S j=true then lf.getD j 0 else 0)=0:=by
  refine vf fun j _=>?_
  by_cases z:S j=true
  ·rw[if_pos z]
   exact sh.1 j z
  ·rw[if_neg z]
 rw[z0,Int.add_zero]
 unfold sumG
 refine jw fun e he=>?_
 by_cases ha:(pl L e).all S=true
 ·rw[if_pos ha,yD h.rows he]
  refine jw fun j _=>?_
  by_cases z:S j=true
  ·rw[if_pos z]
  ·rw[if_neg z]
   have nn:=h.nn e j
   by_cases p:0<fl F e j
   ·exact absurd (List.all_eq_true.mp ha j (h.su e j p)) z
   ·omega
 ·rw[if_neg ha]
  refine vf fun j _=>?_
  by_cases z:S j=true
  ·rw[if_pos z]
   have nn:=h.nn e j
   by_cases p:0<fl F e j
   ·exact absurd (List.all_eq_true.mpr fun o ho=>sh.2 j z e o ⟨by rw[h.rows.1]; exact he,p,ho⟩) ha
   ·omega
  ·rw[if_neg z]
theorem loose {L:List En} {n m:Nat} {rooms lf:List Int} {F:List (List Int)} (h:Flo L n m rooms F lf) (S:Nat→Bool) (k:Nat) (hk:k≤n):sumG L (nt F) S k≤roomS rooms m S:=by
 rw[Ca h S]
 have n0:0≤iW m (fun j=>if S j=true then lf.getD j 0 else 0):=by
  refine wY fun j _=>?_
  split
  ·exact h.l0 j
  ·exact Int.le_refl _
 have nn:∀ e,0≤iW m fun j=>if S j=true then fl F e j else 0:=fun e=>by
  refine wY fun j _=>?_
  split
  ·exact h.nn e j
  ·exact Int.le_refl _
 have up:∀ d,iW k (fun e=>iW m fun j=>if S j=true then fl F e j else 0)≤iW (k+d) fun e=>iW m fun j=>if S j=true then fl F e j else 0:=fun d=>by
  induction d with
  | zero=>exact Int.le_refl _
  | succ d ih =>
   rw[← Nat.add_assoc,iN]
   have:=nn (k+d)
   omega
 have:=up (n-k)
 rw[show k+(n-k)=n by omega] at this
 have l1:sumG L (nt F) S k≤iW k fun e=>iW m fun j=>if S j=true then fl F e j else 0:=by
  unfold sumG
  refine u5 fun e he=>?_
  by_cases ha:(pl L e).all S=true
  ·rw[if_pos ha,yD h.rows (by omega)]
   refine u5 fun j _=>?_
   by_cases z:S j=true
   ·rw[if_pos z]
    exact Int.le_refl _
   ·rw[if_neg z]
    by_cases p:0<fl F e j
    ·exact absurd (List.all_eq_true.mp ha j (h.su e j p)) z
    ·omega
  ·rw[if_neg ha]
   exact nn e
 omega
def zr (m:Nat):List Int:=List.replicate m 0
theorem JD {m:Nat}:(zr m).length=m:=List.length_replicate ..
theorem GC {m j:Nat}:(zr m).getD j 0=0:=by
 unfold zr
 by_cases hj:j<m
 ·simp [List.getD,hj]
 ·simp [List.getD,hj]
theorem wJ {n m:Nat} {F:List (List Int)} (h:Rows n m F) (e j:Nat):fl (F++[zr m]) e j=fl F e j:=by
 unfold fl
 by_cases he:e<F.length
 ·rw[show (F++[zr m]).getD e []=F.getD e [] by simp [List.getD,List.getElem?_append_left he]]
 ·rw[show F.getD e []=[] by simp [List.getD,List.getElem?_eq_none (show F.length≤e by omega)]]
  by_cases e2:e=F.length
  ·subst e2
   rw[show (F++[zr m]).getD F.length []=zr m by simp [List.getD]]
   rw[GC]
   rfl
  ·rw[show (F++[zr m]).getD e []=[] by simp [List.getD,List.getElem?_eq_none (show (F++[zr m]).length≤e by simp; omega)]]
theorem Hq {L:List En} {n m:Nat} {rooms lf:List Int} {F:List (List Int)} (h:Flo L n m rooms F lf):Flo L (n+1) m rooms (F++[zr m]) lf:=by
 have R:Rows (n+1) m (F++[zr m]):=⟨by rw[List.length_append,h.rows.1]; rfl,fun r hr=>by
  rcases List.mem_append.mp hr with hr | hr
  ·exact h.rows.2 r hr
  ·rw[List.mem_singleton.mp hr,JD]⟩
 refine⟨R,fun e j=>by rw[wJ h.rows]; exact h.nn e j,fun e j hp=>h.su e j (by rw[wJ h.rows] at hp; exact hp),h.ln,h.l0,fun j hj=>?_⟩
 rw[yL R,iN]
 have:=h.col j hj
 rw[yL h.rows] at this
 have e1:(iW n fun e=>fl (F++[zr m]) e j)=iW n fun e=>fl F e j:=jw fun e _=>wJ h.rows e j
 rw[e1,wJ h.rows]
 have:fl F n j=0:=by
  unfold fl
  rw[show F.getD n []=[] by simp [List.getD,List.getElem?_eq_none (show F.length≤n by rw[h.rows.1]; exact Nat.le_refl _)]]
  rfl
 omega
theorem Gc {L:List En} {n m:Nat} {lf:List Int} {F:List (List Int)} {S:Nat→Prop} (R:Rows n m F) (h:uJ L F lf S):uJ L (F++[zr m]) lf S:=by
 refine⟨h.1,fun j hj e o hl=>?_⟩
 obtain⟨h1,h2,h3⟩:=hl
 rw[wJ R] at h2
 refine h.2 j hj e o ⟨?_,h2,h3⟩
 by_cases z:e<F.length
 ·exact z
 ·have:fl F e j=0:=by
   unfold fl
   rw[show F.getD e []=[] by simp [List.getD,List.getElem?_eq_none (show F.length≤e by omega)]]
   rfl
  omega
theorem HN {n m e:Nat} {F:List (List Int)} (R:Rows n m F) (he:e<n):nt (F++[zr m]) e=nt F e:=by
 have he':e<F.length:=by rw[R.1]; exact he
 unfold nt
 rw[show (F++[zr m]).getD e []=F.getD e [] by simp [List.getD,List.getElem?_append_left he']]
theorem FO {n m:Nat} {F:List (List Int)} (R:Rows n m F):nt (F++[zr m]) n=0:=by
 unfold nt
 rw[show (F++[zr m]).getD n []=zr m by rw[← R.1]; simp [List.getD]]
 rw[vh]
 exact vf fun j _=>GC
end MyS
namespace MyI
open My MyB MyC MyD MyE MyF MyG MyS PySem L2
def top (i:Nat):Stmt:=PySem.Challenge.pw_tariffgate_k66_said_otherwise.main.body.getD i (.Pass ⟨0,0,0,0⟩)
theorem cD:(("rooms":Str) == ("__debug__":Str))=false:=by decide
theorem cE:(("rooms":Str) == ("__classdict__":Str))=false:=by decide
theorem fU:(("cuts":Str) == ("__debug__":Str))=false:=by decide
theorem fV:(("cuts":Str) == ("__classdict__":Str))=false:=by decide
theorem sO:(("serve":Str) == ("__debug__":Str))=false:=by decide
theorem dQ:(("sum":Str) == ("__debug__":Str))=false:=by decide
theorem dR:("sum":Str)≠"__name__":=by decide
theorem qv:(("route_of":Str) == ("__debug__":Str))=false:=by decide
abbrev aG:Stmt:=top 21
theorem fk:FnScope ["rooms","line","left","flows","cuts","entry"] ["rooms","line"] (defScope aG):=⟨rfl,rfl,rfl,by decide +kernel,rfl,by decide +kernel,by decide +kernel⟩
theorem lq:Vis (defScope aG) "rooms":=by decreasing_trivial
theorem ls:Vis (defScope aG) "line":=by decreasing_trivial
theorem re:Vis (defScope aG) "left":=by decreasing_trivial
theorem rf:Loc (defScope aG) "left":=by first | exact Or.inl rfl | exact Or.inr rfl
theorem fO:Vis (defScope aG) "flows":=by decreasing_trivial
theorem rh:Loc (defScope aG) "flows":=by first | exact Or.inl rfl | exact Or.inr rfl
theorem lu:Vis (defScope aG) "cuts":=by decreasing_trivial
theorem rj:Loc (defScope aG) "cuts":=by first | exact Or.inl rfl | exact Or.inr rfl
theorem rq:Vis (defScope aG) "entry":=by decreasing_trivial
theorem rB:Loc (defScope aG) "entry":=by first | exact Or.inl rfl | exact Or.inr rfl
theorem nG:(defScope aG).names.lookup ("list":Str)=some .globalImplicit:=by rfl
theorem mr:(defScope aG).names.lookup ("range":Str)=some .globalImplicit:=by rfl
theorem jv:(defScope aG).names.lookup ("len":Str)=some .globalImplicit:=by rfl
theorem mt:(defScope aG).names.lookup ("serve":Str)=some .globalImplicit:=by rfl
def wt (L:List En) (e:Nat):Int:=(L.getD e ([],0)).2
def inS (ns:List Int):Nat→Bool:=fun j=>decide ((j:Int)∈ns)
def CutAt (L:List En) (m:Nat) (rooms:List Int) (F:List (List Int)) (lf:List Int) (H:Hp) (ok:Addr→Prop) (e:Nat) (v:V):Prop:=(v=.non∧nt F e=wt L e)∨∃ (c:Addr) (ns:List Int),v=.ref c∧ok c∧H c=some (.lst (ns.map V.int))∧nt F e<wt L e∧ns.Pairwise (· < ·)∧(∀ x∈ns,∃ j:Nat,x=(j:Int)∧j<m)∧uJ L F lf (fun j=>(j:Int)∈ns)∧(∀ j∈pl L e,(j:Int)∈ns)∧roomS rooms m (inS ns)=sumG L (nt F) (inS ns) (e+1)
theorem ud {L:List En} {G G':Nat→Int} {S:Nat→Bool} {k:Nat} (h:∀ e,e<k→G e=G' e):sumG L G S k=sumG L G' S k:=by
 unfold sumG
 exact jw fun e he=>by rw[h e he]
theorem CutAt.go {L:List En} {m:Nat} {rooms:List Int} {F F':List (List Int)} {lf lf':List Int} {H H':Hp} {ok ok':Addr→Prop} {e:Nat} {v:V} (h:CutAt L m rooms F lf H ok e v) (hr:∀ e',e'≤e→nt F' e'=nt F e') (hs:∀ S,uJ L F lf S→uJ L F' lf' S) (hh:∀ c u,ok c→H c=some u→ok' c∧H' c=some u):CutAt L m rooms F' lf' H' ok' e v:=by
 rcases h with ⟨a,b⟩ | ⟨c,ns,a,b,d,e1,e2,e6,e3,e4,e5⟩
 ·exact .inl ⟨a,by rw[hr e (Nat.le_refl _)]; exact b⟩
 ·obtain⟨h1,h2⟩:=hh c _ b d
  exact .inr ⟨c,ns,a,h1,h2,by rw[hr e (Nat.le_refl _)]; exact e1,e2,e6,hs _ e3,e4,by rw[e5]; exact ud fun e' he=>(hr e' (by omega)).symm⟩
theorem Hs {H:Hp} {g r:Addr} {rs:List Addr} {F:List (List Int)} {row:List Int} (h:FlAt H g rs F) (hr:H r=some (.lst (row.map V.int))) (hn:r ∉ rs) (rg:r≠g) (gr:g ∉ rs):FlAt (upd H g (.lst ((rs++[r]).map V.ref))) g (rs++[r]) (F++[row]):=by
 refine⟨cY,by rw[List.length_append,List.length_append,h.len]; rfl,fun e r2 fl2 a b=>?_,?_,fun r2 hr2=>?_⟩
 ·by_cases he:e<rs.length
  ·rw[List.getElem?_append_left he] at a
   rw[List.getElem?_append_left (by rw[← h.len]; exact he)] at b
   rw[er (h.ne r2 (List.mem_iff_getElem?.mpr ⟨_,a⟩))]
   exact h.row e r2 fl2 a b
  ·have he2:=(List.getElem?_eq_some_iff.mp a).1
   rw[List.length_append,List.length_singleton] at he2
   have ee:e=rs.length:=by omega
   subst ee
   rw[List.getElem?_append_right (Nat.le_refl _),Nat.sub_self] at a
   rw[h.len,List.getElem?_append_right (Nat.le_refl _),Nat.sub_self] at b
   cases a
   cases b
   rw[er rg]
   exact hr
 ·rw[List.nodup_append]
  refine⟨h.nd,by simp,fun x hx y hy z=>?_⟩
  rw[List.mem_singleton.mp hy] at z
  exact hn (z ▸ hx)
 ·rcases List.mem_append.mp hr2 with hr2 | hr2
  ·exact h.ne r2 hr2
  ·rw[List.mem_singleton.mp hr2]
   exact rg
theorem A2 {α:Type} (x:α):∀ n:Nat,(List.replicate n [x]).flatten=List.replicate n x
 | 0=>rfl
 | n+1=>by
  rw[List.replicate_succ,List.flatten_cons,A2 x n,List.replicate_succ]
  rfl
theorem se {α β:Type} {R:α→β→Prop} {a:α} {b:β} (h:R a b):∀ {xs:List α} {ys:List β},Paired R xs ys→Paired R (xs++[a]) (ys++[b])
 | _,_,.nil=>.cons h .nil
 | _,_,.cons r t=>.cons r (se h t)
theorem vR {α β:Type} {R:α→β→Prop}:∀ {xs:List α} {ys:List β} {x:α},Paired R xs ys→x∈xs→∃ y,R x y
 | _,_,_,.nil,h=>by cases h
 | _,_,_,.cons r t,h=>by
  rcases List.mem_cons.mp h with h | h
  ·subst h
   exact⟨_,r⟩
  ·exact vR t h
theorem x9 {α:Type} {xs:List α} {a:α} (h:xs.Nodup) (ha:a ∉ xs):(xs++[a]).Nodup:=by
 rw[List.nodup_append]
 refine⟨h,by simp,fun x hx y hy z=>?_⟩
 rw[List.mem_singleton.mp hy] at z
 exact ha (z ▸ hx)
structure LnOk (m:Nat) (L:List En):Prop where
 l:L.length≤64
 pl:∀ en∈L,en.1.length≤64∧∀ o∈en.1,o<m
 nd:∀ en∈L,en.1.Nodup
 m:m≤60
 w:∀ en∈L,0≤en.2
structure Sep (H:Hp) (ga ra ca:Addr) (ras:List Addr) (cs:List V):Prop where
 g:H ga=none
 r:H ra=none
 c:H ca=none
 rs:∀ r∈ras,H r=none
 nd:ras.Nodup
 gr:ga≠ra
 gc:ga≠ca
 rc:ra≠ca
 g1:ga ∉ ras
 r1:ra ∉ ras
 c1:ca ∉ ras
 sc:∀ (e e':Nat) (c:Addr),cs[e]?=some (V.ref c)→cs[e']?=some (V.ref c)→e=e'
structure Fnd (K:PySem.W.Frag) (H:Hp) (t ga ra ca:Addr) (F:List (List Int)) (ras:List Addr) (cs:List V):Prop where
 t:SqT K H t [.ref ga,.ref ra,.ref ca]
 g:H ga=some (.lst ((F.map List.sum).map V.int))
 r:H ra=some (.lst (ras.map V.ref))
 rs:Paired (fun r row=>∃ us,H r=some (.lst us)∧RtAt K H us (rt row)) ras F
 c:H ca=some (.lst cs)
theorem Fnd.same {K:PySem.W.Frag} {H H':Hp} {t ga ra ca:Addr} {F:List (List Int)} {ras:List Addr} {cs:List V} (h:Fnd K H t ga ra ca F ras cs) (e:Same H H'):Fnd K H' t ga ra ca F ras cs :=
 ⟨Same.tup e h.t,e _ _ h.g,e _ _ h.r,Paired.mapP h.rs fun r row=>by rintro⟨us,a,b⟩; exact⟨us,e _ _ a,b.same e⟩,e _ _ h.c⟩
def xN (K:PySem.W.Frag):Sp:=fun vs H Q _=>∃ (rm l:Addr) (rooms:List Int) (L:List En),vs=[.ref rm,.ref l]∧SqL K H rm (rooms.map V.int)∧LnAt K H l L∧LnOk rooms.length L∧(∀ x∈rooms,0≤x) ∧
 ∀ (t ga ra ca:Addr) (F:List (List Int)) (lf:List Int) (ras:List Addr) (cs:List V) (H':Hp),Same H H'→H t=none→Fnd K H' t ga ra ca F ras cs→cs.length=L.length→(∀ (e:Nat) (v:V),cs[e]?=some v→CutAt L rooms.length rooms F lf H' (fun c=>H c=none∧c≠ga∧c≠ra∧c≠ca∧c ∉ ras) e v)→Flo L L.length rooms.length rooms F lf→Sep H ga ra ca ras cs→Q (.ref t) H'
theorem none_of {H H':Hp} {a:Addr} (e:Same H H') (h:H' a=none):H a=none:=by
 cases hh:H a with
 | none=>rfl
 | some u=>rw[e _ _ hh] at h; cases h
section
variable {P:Program} {w:World} {K:PySem.W.Frag} {mg:Str→Option Value} {base:Heap} {f:Addr} {fd:FuncData}
theorem DQ (F:Fun K "served" "served" aG f fd) (M:Mg mg) (my:Cal P w K mg base CX0 "serve" 3 ["line","flows","left","entry"] (yy K)) (iX:Cal P w K mg base CX0 "route_of" 1 ["flow"] (yG K)):FnOk P w K mg base CX0 4 f fd ["rooms","line"] (xN K):=by
 refine F.ok fk (fun vs H Q E h=>?_) (fun cdv A outer s H vs Q E hr h=>?_)
 ·obtain⟨rm,l,rooms,L,rfl,_⟩:=h
  rfl
 obtain⟨rm,l,rooms,L,rfl,hrm,hL,lo,r0,q⟩:=h
 refine⟨_,(@dI _ _ _ _ _ (@ic _ _ 2 _ _ _ _ fk.nd rfl rf (@nS _ _ _ _ _ _ _ _ _ tS nG M.m_list tM (@bO _ _ _ _ _ (@cO _ 0 _ _ rfl lq cD cE) (@cT _) (cg rfl)) bi bh (cg rfl) ff) (fZ rfl) (.inl rfl)) (@dI _ _ _ _ _ (@ic _ _ 3 _ _ _ _ fk.nd rfl rh (@rE _ _ _ _ (@cT _)) (fZ rfl) (.inl rfl)) (@dI _ _ _ _ _ (@ic _ _ 4 _ _ _ _ fk.nd rfl rj (@rE _ _ _ _ (@cT _)) (fZ rfl) (.inl rfl)) (@dI _ _ _ _ _ (@pC _ _ _ _ _ _ _ _ PassesOwn.never rfl (@sW _ _ _ _ _ _ mr M.m_range (@bO _ _ _ _ _ (@fY _ _ _ _ _ _ _ _ _ iU jv M.m_len pW (@bO _ _ _ _ _ (@cO _ 1 _ _ rfl ls bo bq) (@cT _) (cg rfl)) aA az (cg rfl) ff) (@cT _) (cg rfl)) (star1' rfl)) (@fj _ _ 5 _ fk.nd rfl rB (.inl rfl)) (@dI _ _ _ _ _ (@r8 _ _ _ _ (@uo _ _ _ _ _ _ _ _ _ _ _ _ PySem.F.plainAttrs_list PySem.F.slot_list_append PySem.F.type_list_append nR (@cO _ 3 _ _ rfl fO bD bE) (@bO _ _ _ _ _ (@iI _ _ _ _ _ _ _ _ IB (@rE _ _ _ _ (@bO _ _ _ _ _ (@dw _ _ _ _) (@cT _) (cg rfl))) (@fY _ _ _ _ _ _ _ _ _ iU jv M.m_len pW (@bO _ _ _ _ _ (@cO _ 0 _ _ rfl lq cD cE) (@cT _) (cg rfl)) aA az (cg rfl) ff)) (@cT _) (cg rfl)) (by rfl) (by rfl) (by rfl) (by rfl) (by rfl)) (fZ rfl)) (@eF _ _ _ (@r8 _ _ _ _ (@uo _ _ _ _ _ _ _ _ _ _ _ _ PySem.F.plainAttrs_list PySem.F.slot_list_append PySem.F.type_list_append nR (@cO _ 4 _ _ rfl lu fU fV) (@bO _ _ _ _ _ (@fX _ _ _ _ _ _ _ _ _ _ _ my hr mt (@bO _ _ _ _ _ (@cO _ 1 _ _ rfl ls bo bq) (@bO _ _ _ _ _ (@cO _ 3 _ _ rfl fO bD bE) (@bO _ _ _ _ _ (@cO _ 2 _ _ rfl re fQ fR) (@bO _ _ _ _ _ (@cO _ 5 _ _ rfl rq aT aU) (@cT _) (cg rfl)) (cg rfl)) (cg rfl)) (cg rfl)) (by decide) sO (cg rfl) (fT rfl (fT rfl (fT rfl ff)))) (@cT _) (cg rfl)) (by rfl) (by rfl) (by rfl) (by rfl) (by rfl)) (fZ rfl)))) (by intro _; rfl)) (@eF _ _ _ (@ia _ _ _ _ (@tP _ _ _ _ _ (@bO _ _ _ _ _ (@mS _ _ _ _ _ _ _ _ _ _ _ _ _ _ _ rfl (CompOk.make (N':=["flow"]) (ix:=[]) (nl:=1) (by rfl) fm0 (by rfl) (by decide +kernel) rfl (by decide +kernel) rfl True.intro) (@kL _ _ _ _ (@cO _ 3 _ _ rfl fO bD bE)) (fun _ _ _ _ _=>(@fj _ _ 0 _ (show List.Nodup (["flow"]:List Str) from by decide) rfl (Or.inl rfl) (by first | exact .inl rfl | exact .inr rfl | assumption))) (fun _ _ _ _ _=>(@nk _)) (fun _ _ _ _ _=>(@fY _ _ _ _ _ _ _ _ _ (Dk (K:=K) rfl rfl) rfl M.m_sum wO (@bO _ _ _ _ _ (@pv _ 0 _ _ (by rfl) (by decreasing_trivial) (by decide) (by decide)) (@cT _) (cg rfl)) dR dQ (cg rfl) ff)) (by intro _; rfl)) (@bO _ _ _ _ _ (@mS _ _ _ _ _ _ _ _ _ _ _ _ _ _ _ rfl (CompOk.make (N':=["flow"]) (ix:=[]) (nl:=1) (by rfl) fm0 (by rfl) (by decide +kernel) rfl (by decide +kernel) rfl True.intro) (@kL _ _ _ _ (@cO _ 3 _ _ rfl fO bD bE)) (fun _ _ _ _ _=>(@fj _ _ 0 _ (show List.Nodup (["flow"]:List Str) from by decide) rfl (Or.inl rfl) (by first | exact .inl rfl | exact .inr rfl | assumption))) (fun _ _ _ _ _=>(@nk _)) (fun _ _ _ _ _=>(@fX _ _ _ _ _ _ _ _ _ _ _ iX hr rfl (@bO _ _ _ _ _ (@pv _ 0 _ _ (by rfl) (by decreasing_trivial) (by decide) (by decide)) (@cT _) (cg rfl)) (by decide) qv (cg rfl) ff)) (by intro _; rfl)) (@bO _ _ _ _ _ (@cO _ 4 _ _ rfl lu fU fV) (@cT _) (cg rfl)) (cg rfl)) (cg rfl))))))))),?_⟩
 obtain⟨us,hus,hpa⟩:=id hL
 have lus:us.length=L.length:=Paired.length hpa
 have l64:=lo.l
 trivial
 refine⟨_,hrm,fun fa hfa=>⟨by decide,fun p hp=>⟨by decide,fun ca hca=>?_⟩⟩⟩
 have pfa:p≠fa:=fun z=>by rw[z,cY] at hp; cases hp
 have hpH:H p=none:=by rw[er pfa] at hp; exact hp
 have cap:ca≠p:=fun z=>by rw[z,cY] at hca; cases hca
 have cafa:ca≠fa:=fun z=>by rw[z,er (Ne.symm pfa),cY] at hca; cases hca
 have hcaH:H ca=none:=by rw[er cap,er cafa] at hca; exact hca
 have S1:=((fD hfa (.lst (rooms.map V.int))).trans (fD hp (.lst []))).trans (fD hca (.lst []))
 refine⟨us,.inl (S1.seq hus),by omega,by omega,?_⟩
 obtain⟨Pv,hP⟩:∃ Pv:Nat→St→Hp→Prop,Pv=fun i σ H'=>∃ (rs:List Addr) (F:List (List Int)) (lf:List Int) (cs:List V) (x:Option V),FlAt H' p rs F∧Flo L i rooms.length rooms F lf∧H' fa=some (.lst (lf.map V.int))∧fa ∉ rs∧p ∉ rs∧ca ∉ rs∧(∀ r∈rs,H r=none)∧H' ca=some (.lst cs)∧cs.length=i∧(∀ (e:Nat) (v:V),cs[e]?=some v→CutAt L rooms.length rooms F lf H' (fun c=>c ∉ rs∧c≠fa∧c≠p∧c≠ca∧H c=none) e v)∧(∀ (e e':Nat) (c:Addr),cs[e]?=some (V.ref c)→cs[e']?=some (V.ref c)→e=e')∧Same H H'∧σ=[some (.ref rm),some (.ref l),some (.ref fa),some (.ref p),some (.ref ca),x]:=⟨_,rfl⟩
 refine ue Pv ?_ ?_ ?_
 ·rw[hP]
  refine⟨[],[],rooms,[],_,⟨by rw[er (Ne.symm cap),cY]; rfl,rfl,(fun e r fl z=>by cases z),List.nodup_nil,(fun r z=>by cases z)⟩,⟨⟨rfl,fun r z=>by cases z⟩,fun e j=>by simp [fl],fun e j z=>by simp [fl] at z,rfl,fun j=>?_,fun j hj=>?_⟩,by rw[er (Ne.symm cafa),er (Ne.symm pfa),cY],by simp,by simp,by simp,(fun r z=>by cases z),cY,rfl,(fun e v z=>by cases z),(fun e e' c z=>by cases z),S1,rfl⟩
  ·by_cases hj:j<rooms.length
   ·rw[My.getD_at hj]
    exact r0 _ (List.getElem_mem hj)
   ·simp [List.getD,List.getElem?_eq_none (show rooms.length≤j by omega)]
  ·simp [colS]
 ·intro i σ H3 hi h
  rw[hP] at h
  obtain⟨rs,F3,lf3,cs,x,hF3,flo3,f3,frs,prs,crs,rs0,c3,lcs,cut3,sep3,e3,rfl⟩:=h
  have hi':i<L.length:=by omega
  trivial
  have mm:=lo.m
  have lrs:rs.length=i:=by rw[hF3.len,flo3.rows.1]
  refine⟨.inl ⟨rfl,_,SqL.of hF3.top⟩,by decide,fun a1 h1=>⟨rooms.map V.int,.inl ((e3.trans (fD h1 _)).seq hrm),[.int 0],cY,by omega,by rw[List.length_map]; omega,?_,fun r h2=>?_⟩⟩
  ·rw[List.length_map,List.length_singleton]
   refine Nat.le_trans (m:=1000) (by omega) (by decide)
  obtain⟨Ha,ga,Sa,la⟩:=DY (K:=K) h1 [.int 0]
  rw[← ga] at h2 ⊢
  clear ga
  have ez:(List.replicate ((rooms.map V.int).length:Int).toNat [V.int 0]).flatten=(zr rooms.length).map V.int:=by
   rw[List.length_map,A2,zr,List.map_replicate]
   rfl
  rw[ez]
  have hr2:Ha r=none:=h2
  obtain⟨Hb,gb,Sb,lb⟩:∃ Hb,Hb=upd Ha r (.lst ((zr rooms.length).map V.int))∧Same Ha Hb∧Hb r=some (.lst ((zr rooms.length).map V.int)):=⟨_,rfl,fD h2 _,cY⟩
  rw[← gb]
  clear gb
  have Sab:=Sa.trans Sb
  have rn:∀ b u,H3 b=some u→r≠b:=fun b u hb z=>by
   rw[← z] at hb
   rw[Sa _ _ hb] at hr2
   cases hr2
  have rp:r≠p:=rn _ _ hF3.top
  have rfa:r≠fa:=rn _ _ f3
  have rca:r≠ca:=rn _ _ c3
  have rrs:r ∉ rs:=fun z=>by
   obtain⟨e,he⟩:=List.mem_iff_getElem?.mp z
   have hl:=(List.getElem?_eq_some_iff.mp he).1
   have hl2:e<F3.length:=by rw[← hF3.len]; exact hl
   exact rn _ _ (hF3.row e r _ he (List.getElem?_eq_getElem hl2)) rfl
  have rH:H r=none:=by
   cases hh:H r with
   | none=>rfl
   | some u=>exact absurd rfl (rn _ _ (e3 _ _ hh))
  refine⟨rs.map V.ref,Sab _ _ hF3.top,by rw[List.length_map]; exact Nat.lt_of_lt_of_le (m:=1000) (by omega) (by decide),.inl ⟨rfl,cs,SqL.of (by rw[er cap]; exact Sab _ _ c3)⟩,?_⟩
  have hFb:=Hs (hF3.same Sab) lb rrs rp prs
  rw[List.map_append,List.map_cons,List.map_nil] at hFb
  have hSb:Same H (upd Hb p (.lst (rs.map V.ref++[.ref r]))):=fS (e3.trans Sab) hpH _
  have hfb:(upd Hb p (.lst (rs.map V.ref++[.ref r]))) fa=some (.lst (lf3.map V.int)):=by
   rw[er (Ne.symm pfa)]
   exact Sab _ _ f3
  have hcb:(upd Hb p (.lst (rs.map V.ref++[.ref r]))) ca=some (.lst cs):=by
   rw[er cap]
   exact Sab _ _ c3
  have flob:=Hq flo3
  have frs2:fa ∉ rs++[r]:=fun z=>by
   rcases List.mem_append.mp z with z | z
   ·exact frs z
   ·exact rfa (List.mem_singleton.mp z).symm
  have prs2:p ∉ rs++[r]:=fun z=>by
   rcases List.mem_append.mp z with z | z
   ·exact prs z
   ·exact rp (List.mem_singleton.mp z).symm
  have crs2:ca ∉ rs++[r]:=fun z=>by
   rcases List.mem_append.mp z with z | z
   ·exact crs z
   ·exact rca (List.mem_singleton.mp z).symm
  have rs02:∀ b∈rs++[r],H b=none:=fun b z=>by
   rcases List.mem_append.mp z with z | z
   ·exact rs0 b z
   ·rw[List.mem_singleton.mp z]
    exact rH
  have hen:L[i]?=some L[i]:=List.getElem?_eq_getElem hi'
  have ewt:wt L i=(L[i]).2:=by rw[wt,List.getD,hen]; rfl
  have sizb:Siz rooms.length L (F3++[zr rooms.length]):=⟨by rw[flob.rows.1]; omega,lo.l,flob.rows.2,lo.pl,lo.nd,lo.m⟩
  obtain⟨Hc,gc⟩:∃ Hc,Hc=upd Hb p (.lst (rs.map V.ref++[.ref r])):=⟨_,rfl⟩
  have old:∀ c u,(c ∉ rs∧c≠fa∧c≠p∧c≠ca∧H c=none)→H3 c=some u→(c ∉ rs++[r])∧Hc c=some u:=fun c u hc hu=>by
   refine⟨fun z=>?_,?_⟩
   ·rcases List.mem_append.mp z with z | z
    ·exact hc.1 z
    ·exact rn _ _ hu (List.mem_singleton.mp z).symm
   ·rw[gc,er hc.2.2.1]
    exact Sab _ _ hu
  rw[← gc] at hFb hSb hfb hcb ⊢
  refine⟨l,p,fa,i,rooms.length,L,rs++[r],F3++[zr rooms.length],lf3,rooms,L[i],H,by rw[Int.zero_add],hL,hSb,hfa,rs02,hFb,sizb,flob,hfb,frs2,Ne.symm pfa,hen,lo.w _ (List.getElem_mem hi'),FO flo3.rows,?_⟩
  intro F4 lf4 H4 S4 fr4 hF4 hf4 flo4 row4 sh4
  have hc4:H4 ca=some (.lst cs):=fr4 _ _ crs2 cafa hcb
  have lc:cs.length<sizeLine:=Nat.lt_of_lt_of_le (m:=1000) (by omega) (by decide)
  have olds:∀ (v0:V) (e:Nat) (v:V),cs[e]?=some v→CutAt L rooms.length rooms F4 lf4 (upd H4 ca (.lst (cs++[v0]))) (fun c=>c ∉ rs++[r]∧c≠fa∧c≠p∧c≠ca∧H c=none) e v:=fun v0 e v hv=>by
   have he:e<i:=by rw[← lcs]; exact (List.getElem?_eq_some_iff.mp hv).1
   refine (cut3 e v hv).go (fun e' he'=>?_) (fun S sh=>sh4 S (Gc flo3.rows sh)) (fun c u hc hu=>?_)
   ·rw[row4 e' (by omega),HN flo3.rows (by omega)]
   ·obtain⟨o1,o2⟩:=old c u hc hu
    exact⟨⟨o1,hc.2⟩,by rw[er hc.2.2.2.1]; exact fr4 _ _ o1 hc.2.1 o2⟩
  have sepc:∀ v0:V,(∀ (e:Nat) (c:Addr),cs[e]?=some (V.ref c)→v0≠V.ref c)→∀ (e e':Nat) (c:Addr),(cs++[v0])[e]?=some (V.ref c)→(cs++[v0])[e']?=some (V.ref c)→e=e':=fun v0 hn0 e e' c h1 h2=>by
   have a1:=(List.getElem?_eq_some_iff.mp h1).1
   have a2:=(List.getElem?_eq_some_iff.mp h2).1
   rw[List.length_append,List.length_singleton] at a1 a2
   by_cases b1:e<cs.length <;> by_cases b2:e'<cs.length
   ·rw[List.getElem?_append_left b1] at h1
    rw[List.getElem?_append_left b2] at h2
    exact sep3 e e' c h1 h2
   ·rw[List.getElem?_append_left b1] at h1
    rw[List.getElem?_append_right (by omega),show e' - cs.length=0 by omega] at h2
    exact absurd (Option.some.inj h2) (hn0 _ _ h1)
   ·rw[List.getElem?_append_left b2] at h2
    rw[List.getElem?_append_right (by omega),show e-cs.length=0 by omega] at h1
    exact absurd (Option.some.inj h1) (hn0 _ _ h2)
   ·omega
  have done:∀ v0:V,CutAt L rooms.length rooms F4 lf4 (upd H4 ca (.lst (cs++[v0]))) (fun c=>c ∉ rs++[r]∧c≠fa∧c≠p∧c≠ca∧H c=none) i v0→(∀ (e:Nat) (c:Addr),cs[e]?=some (V.ref c)→v0≠V.ref c)→Pv (i+1) [some (V.ref rm),some (V.ref l),some (V.ref fa),some (V.ref p),some (V.ref ca),some (V.int (0+(i:Int)))] (upd H4 ca (.lst (cs++[v0]))):=fun v0 hv0 hn0=>by
   rw[hP]
   refine⟨rs++[r],F4,lf4,cs++[v0],_,⟨by rw[er (Ne.symm cap)]; exact hF4.top,hF4.len,fun e b fl he hf=>?_,hF4.nd,hF4.ne⟩,flo4,by rw[er (Ne.symm cafa)]; exact hf4,frs2,prs2,crs2,rs02,cY,by rw[List.length_append,lcs]; rfl,fun e v hv=>?_,sepc v0 hn0,fS S4 hcaH _,rfl⟩
   ·rw[er (fun z:b=ca=>crs2 (z ▸ List.mem_iff_getElem?.mpr ⟨_,he⟩))]
    exact hF4.row e b fl he hf
   ·by_cases he:e<cs.length
    ·rw[List.getElem?_append_left he] at hv
     exact olds v0 e v hv
    ·have he2:=(List.getElem?_eq_some_iff.mp hv).1
     rw[List.length_append,List.length_singleton] at he2
     have ee:e=i:=by omega
     subst ee
     rw[List.getElem?_append_right (by omega),lcs,Nat.sub_self] at hv
     cases hv
     exact hv0
  refine⟨fun e4=>⟨cs,hc4,lc,done .non (.inl ⟨rfl,by rw[e4,ewt]⟩) (fun _ _ _ z=>by cases z)⟩,fun c ns hcn hc lt4 so4 rg4 sh4' in4=>⟨cs,hc4,lc,done (.ref c) (.inr ?_) ?_⟩⟩
  rotate_left
  ·intro e c' hc' z
   cases z
   rcases cut3 e _ hc' with ⟨z,_⟩ | ⟨c2,ns2,z,ok2,h2,_⟩
   ·cases z
   ·cases z
    rw[(old _ _ ok2 h2).2] at hcn
    cases hcn
  have cn:∀ b u,Hc b=some u→c≠b:=fun b u hb z=>by rw[z,hb] at hcn; cases hcn
  refine⟨c,ns,rfl,⟨fun z=>?_,cn _ _ hfb,cn _ _ hFb.top,cn _ _ hcb,none_of hSb hcn⟩,by rw[er (cn _ _ hcb)]; exact hc,by rw[ewt]; exact lt4,so4,rg4,sh4',in4,?_⟩
  ·obtain⟨e,he⟩:=List.mem_iff_getElem?.mp z
   have hl:=(List.getElem?_eq_some_iff.mp he).1
   have hl2:e<(F3++[zr rooms.length]).length:=by rw[← hFb.len]; exact hl
   exact cn _ _ (hFb.row e c _ he (List.getElem?_eq_getElem hl2)) rfl
  ·refine tight flo4 (inS ns) ?_
   have ei:(fun j:Nat=>inS ns j=true)=fun j:Nat=>(j:Int)∈ns:=by
    funext j
    simp [inS]
   rw[ei]
   exact sh4'
 ·intro σ H3 h
  rw[hP] at h
  obtain⟨rs,F3,lf3,cs,x,hF3,flo3,f3,frs,prs,crs,rs0,c3,lcs,cut3,sep3,e3,rfl⟩:=h
  rw[show ((us.length:Int)).toNat=L.length by omega] at flo3 lcs
  trivial
  have mm:=lo.m
  have lrs:rs.length=L.length:=by rw[hF3.len,flo3.rows.1]
  refine⟨⟨_,SqL.of hF3.top⟩,fun D1 hD1=>?_⟩
  have at3:∀ (i:Nat) (x:V),(rs.map V.ref)[i]?=some x→∃ (r:Addr) (row:List Int),x=.ref r∧F3[i]?=some row∧H3 r=some (.lst (row.map V.int))∧row∈F3∧i<L.length:=fun i x hx=>by
   rw[List.getElem?_map] at hx
   obtain⟨r,hr,rfl⟩:=Option.map_eq_some_iff.mp hx
   have hl:=(List.getElem?_eq_some_iff.mp hr).1
   have hl2:i<F3.length:=by rw[← hF3.len]; exact hl
   exact⟨r,F3[i],rfl,List.getElem?_eq_getElem hl2,hF3.row i r _ hr (List.getElem?_eq_getElem hl2),List.getElem_mem hl2,by omega⟩
  obtain⟨Pc,hC⟩:∃ Pc:Nat→St→Hp→Prop,Pc=fun i τ H'=>∃ (z:Option V),H' D1=some (.lst (((F3.take i).map List.sum).map V.int))∧Same H3 H'∧τ=[z]:=⟨_,rfl⟩
  refine mC (rs.map V.ref) Pc ?_ (fun i τ H' _ h=>by rw[hC] at h; obtain⟨z,_,e,_⟩:=h; exact SqL.of (e _ _ hF3.top)) ?_ ?_
  ·rw[hC]
   exact⟨_,cY,fD hD1 _,rfl⟩
  ·intro i x τ H' R' hx h next
   rw[hC] at h
   obtain⟨z,d1,e1,rfl⟩:=h
   obtain⟨r,row,rfl,hrow,hr,_,li⟩:=at3 i x hx
   trivial
   refine⟨row,SqL.of (e1 _ _ hr),_,d1,?_,next _ _ ?_⟩
   ·rw[List.length_map,List.length_map,List.length_take]
    exact Nat.lt_of_lt_of_le (m:=1000) (by omega) (by decide)
   ·rw[hC]
    refine⟨_,?_,fS e1 hD1 _,rfl⟩
    rw[cY,List.take_add_one,hrow,List.map_append,List.map_append]
    rfl
  intro τ H4 h
  rw[hC] at h
  obtain⟨z,d1,e1,rfl⟩:=h
  rw[List.length_map,hF3.len,List.take_length] at d1
  refine⟨⟨_,SqL.of (e1 _ _ hF3.top)⟩,fun D2 hD2=>?_⟩
  obtain⟨Pd,hD⟩:∃ Pd:Nat→St→Hp→Prop,Pd=fun i τ H'=>∃ (z:Option V) (ras:List Addr),H' D2=some (.lst (ras.map V.ref))∧Paired (fun a (row:List Int)=>∃ us,H' a=some (.lst us)∧RtAt K H' us (rt row)∧a≠D2∧H4 a=none) ras (F3.take i)∧ras.Nodup∧Same H4 H'∧τ=[z]:=⟨_,rfl⟩
  refine mC (rs.map V.ref) Pd ?_ (fun i τ H' _ h=>by rw[hD] at h; obtain⟨z,_,_,_,_,e,_⟩:=h; exact SqL.of (e _ _ (e1 _ _ hF3.top))) ?_ ?_
  ·rw[hD]
   exact⟨_,[],cY,.nil,List.nodup_nil,fD hD2 _,rfl⟩
  ·intro i x τ H' R' hx h next
   rw[hD] at h
   obtain⟨z,ras,d2,pr,nd,e2,rfl⟩:=h
   obtain⟨r,row,rfl,hrow,hr,mrow,li⟩:=at3 i x hx
   have lru:ras.length≤i:=by
    rw[Paired.length pr,List.length_take]
    omega
   trivial
   refine⟨r,row,rfl,SqL.of (e2 _ _ (e1 _ _ hr)),by rw[flo3.rows.2 row mrow]; omega,fun a vs H6 e6 ha h6 rt6=>?_⟩
   have aD:a≠D2:=fun z=>by rw[z,d2] at ha; cases ha
   refine⟨ras.map V.ref,e6 _ _ d2,Nat.lt_of_lt_of_le (m:=1000) (by rw[List.length_map]; omega) (by decide),next _ _ ?_⟩
   have anr:a ∉ ras:=fun z=>by
    obtain⟨_,us,h2,_⟩:=vR pr z
    rw[h2] at ha
    cases ha
   rw[hD]
   refine⟨_,ras++[a],by rw[cY,List.map_append]; rfl,?_,x9 nd anr,fS (e2.trans e6) hD2 _,rfl⟩
   rw[List.take_add_one,hrow]
   refine se ?_ (Paired.mapP pr fun v row=>?_)
   ·exact⟨vs,by rw[er aD]; exact h6,RtAt.upd (e6 _ _ d2) (fun ys z=>by cases z) (fun _ _ z=>by cases z) rt6,aD,none_of e2 ha⟩
   ·rintro⟨ws,h2,h3,h4,h5⟩
    exact⟨ws,by rw[er h4]; exact e6 _ _ h2,RtAt.upd (e6 _ _ d2) (fun ys z=>by cases z) (fun _ _ z=>by cases z) (h3.same e6),h4,h5⟩
  intro τ H5 h
  rw[hD] at h
  obtain⟨z,ras,d2,pr,nd,e2,rfl⟩:=h
  rw[List.length_map,hF3.len,List.take_length] at pr
  refine⟨by decide,fun t ht=>?_⟩
  obtain⟨H6,g6,S6,T6⟩:=ki (K:=K) ht [.ref D1,.ref D2,.ref ca]
  rw[← g6]
  clear g6
  have e36:=(e1.trans e2).trans S6
  have tH:H t=none:=by
   cases hh:H t with
   | none=>rfl
   | some u =>
    rw[(e1.trans e2) _ _ (e3 _ _ hh)] at ht
    cases ht
  have D2H:H D2=none:=none_of (e3.trans e1) hD2
  have rsH:∀ r∈ras,H4 r=none:=fun r hr=>by
   obtain⟨_,_,_,_,_,h⟩:=vR pr hr
   exact h
  have rD2:∀ r∈ras,r≠D2:=fun r hr=>by
   obtain⟨_,_,_,_,h,_⟩:=vR pr hr
   exact h
  have nn:∀ {Hx:Hp} {a b:Addr} {u:HO},Hx a=none→Hx b=some u→b≠a:=fun h1 h2 z=>by rw[z,h1] at h2; cases h2
  have c4:=e1 _ _ c3
  refine q t D1 D2 ca F3 lf3 ras cs H6 (e3.trans e36) tH ⟨T6,(e2.trans S6) _ _ d1,S6 _ _ d2,Paired.mapP pr fun a row=>?_,e36 _ _ c3⟩ lcs (fun e v hv=>(cut3 e v hv).go (fun _ _=>rfl) (fun _ h=>h) fun c u hc hu=>⟨⟨hc.2.2.2.2,nn hD1 hu,nn hD2 (e1 _ _ hu),hc.2.2.2.1,fun z=>nn (rsH c z) (e1 _ _ hu) rfl⟩,e36 _ _ hu⟩) flo3 ⟨none_of e3 hD1,D2H,hcaH,fun r hr=>none_of (e3.trans e1) (rsH r hr),nd,nn hD2 d1,Ne.symm (nn hD1 c3),Ne.symm (nn hD2 c4),fun z=>nn (rsH _ z) d1 rfl,fun z=>rD2 _ z rfl,fun z=>nn (rsH _ z) c4 rfl,sep3⟩
  rintro⟨ws,h2,h3,h4,h5⟩
  exact⟨ws,S6 _ _ h2,h3.same S6⟩
end
end MyI
namespace MyJ
open My MyB MyC MyD MyE MyF MyG MyS MyI PySem L2
def top (i:Nat):Stmt:=PySem.Challenge.pw_tariffgate_k66_said_otherwise.main.body.getD i (.Pass ⟨0,0,0,0⟩)
theorem ax:(("_law_script":Str) == ("__debug__":Str))=false:=by decide
theorem ay:(("_law_script":Str) == ("__classdict__":Str))=false:=by decide
theorem aR:(("_law_k":Str) == ("__debug__":Str))=false:=by decide
theorem aS:(("_law_k":Str) == ("__classdict__":Str))=false:=by decide
theorem nH:(("_law_first":Str) == ("__debug__":Str))=false:=by decide
theorem nI:(("_law_first":Str) == ("__classdict__":Str))=false:=by decide
theorem dS:(("_law_head":Str) == ("__debug__":Str))=false:=by decide
theorem dU:(("_law_head":Str) == ("__classdict__":Str))=false:=by decide
theorem kh:(("_law_top":Str) == ("__debug__":Str))=false:=by decide
theorem kj:(("_law_top":Str) == ("__classdict__":Str))=false:=by decide
theorem br:(("_law_many":Str) == ("__debug__":Str))=false:=by decide
theorem bu:(("_law_many":Str) == ("__classdict__":Str))=false:=by decide
theorem cZ:(("_law_cell":Str) == ("__debug__":Str))=false:=by decide
theorem oY:(("_law_part":Str) == ("__debug__":Str))=false:=by decide
theorem oZ:(("_law_part":Str) == ("__classdict__":Str))=false:=by decide
theorem aa:(("_law_line_here":Str) == ("__debug__":Str))=false:=by decide
theorem ae:(("_law_line_here":Str) == ("__classdict__":Str))=false:=by decide
theorem fJ:(("_law_cell_here":Str) == ("__debug__":Str))=false:=by decide
theorem fK:(("_law_cell_here":Str) == ("__classdict__":Str))=false:=by decide
theorem eN:(("_law_places":Str) == ("__debug__":Str))=false:=by decide
theorem eO:(("_law_places":Str) == ("__classdict__":Str))=false:=by decide
theorem aM:(("_law_place":Str) == ("__debug__":Str))=false:=by decide
theorem aN:(("_law_place":Str) == ("__classdict__":Str))=false:=by decide
theorem eP:(("_law_weight":Str) == ("__debug__":Str))=false:=by decide
theorem eQ:(("_law_weight":Str) == ("__classdict__":Str))=false:=by decide
theorem aE:(("_law_found":Str) == ("__debug__":Str))=false:=by decide
theorem aF:(("_law_found":Str) == ("__classdict__":Str))=false:=by decide
theorem bb:(("isinstance":Str) == ("__debug__":Str))=false:=by decide
theorem bf:("isinstance":Str)≠"__name__":=by decide
theorem o4:(("int":Str) == ("__debug__":Str))=false:=by decide
theorem o5:("int":Str)≠"__name__":=by decide
theorem mD:(("bool":Str) == ("__debug__":Str))=false:=by decide
theorem mE:("bool":Str)≠"__name__":=by decide
abbrev bF:Stmt:=top 23
theorem hX:FnScope ["_law_script","_law_k","_law_first"] ["_law_script","_law_k"] (defScope bF):=⟨rfl,rfl,rfl,by decide +kernel,rfl,by decide +kernel,by decide +kernel⟩
theorem db:Vis (defScope bF) "_law_script":=by decreasing_trivial
theorem cx:Vis (defScope bF) "_law_k":=by decreasing_trivial
theorem o6:Vis (defScope bF) "_law_first":=by decreasing_trivial
theorem jx:Loc (defScope bF) "_law_first":=by first | exact Or.inl rfl | exact Or.inr rfl
theorem eR:(defScope bF).names.lookup ("len":Str)=some .globalImplicit:=by rfl
abbrev aI:Stmt:=top 24
theorem dW:FnScope ["_law_script","_law_head","_law_top","_law_many"] ["_law_script"] (defScope aI):=⟨rfl,rfl,rfl,by decide +kernel,rfl,by decide +kernel,by decide +kernel⟩
theorem nK:Vis (defScope aI) "_law_script":=by decreasing_trivial
theorem i9:Vis (defScope aI) "_law_head":=by decreasing_trivial
theorem nL:Loc (defScope aI) "_law_head":=by first | exact Or.inl rfl | exact Or.inr rfl
theorem nM:Loc (defScope aI) "_law_top":=by first | exact Or.inl rfl | exact Or.inr rfl
theorem nN:Vis (defScope aI) "_law_many":=by decreasing_trivial
theorem nO:Loc (defScope aI) "_law_many":=by first | exact Or.inl rfl | exact Or.inr rfl
theorem iC:(defScope aI).names.lookup ("_law_cell":Str)=some .globalImplicit:=by rfl
theorem j5:(defScope aI).names.lookup ("range":Str)=some .globalImplicit:=by rfl
abbrev am:Stmt:=top 25
theorem bS:FnScope ["_law_script","_law_many","_law_head","_law_top","_law_part","_law_line_here","_law_k","_law_cell_here","_law_places"] ["_law_script","_law_many"] (defScope am):=⟨rfl,rfl,rfl,by decide +kernel,rfl,by decide +kernel,by decide +kernel⟩
theorem gj:Vis (defScope am) "_law_script":=by decreasing_trivial
theorem jz:Vis (defScope am) "_law_many":=by decreasing_trivial
theorem jA:Vis (defScope am) "_law_head":=by decreasing_trivial
theorem o7:Loc (defScope am) "_law_head":=by first | exact Or.inl rfl | exact Or.inr rfl
theorem jB:Vis (defScope am) "_law_top":=by decreasing_trivial
theorem o8:Loc (defScope am) "_law_top":=by first | exact Or.inl rfl | exact Or.inr rfl
theorem o9:Vis (defScope am) "_law_part":=by decreasing_trivial
theorem pc:Loc (defScope am) "_law_part":=by first | exact Or.inl rfl | exact Or.inr rfl
theorem jC:Vis (defScope am) "_law_line_here":=by decreasing_trivial
theorem pe:Loc (defScope am) "_law_line_here":=by first | exact Or.inl rfl | exact Or.inr rfl
theorem ph:Vis (defScope am) "_law_k":=by decreasing_trivial
theorem pj:Loc (defScope am) "_law_k":=by first | exact Or.inl rfl | exact Or.inr rfl
theorem jD:Vis (defScope am) "_law_cell_here":=by decreasing_trivial
theorem pq:Loc (defScope am) "_law_cell_here":=by first | exact Or.inl rfl | exact Or.inr rfl
theorem pz:Vis (defScope am) "_law_places":=by decreasing_trivial
theorem pA:Loc (defScope am) "_law_places":=by first | exact Or.inl rfl | exact Or.inr rfl
theorem cF:(defScope am).names.lookup ("_law_cell":Str)=some .globalImplicit:=by rfl
theorem gk:(defScope am).names.lookup ("range":Str)=some .globalImplicit:=by rfl
abbrev cG:Stmt:=top 26
theorem qw:FnScope ["_law_line_here"] ["_law_line_here"] (defScope cG):=⟨rfl,rfl,rfl,by decide +kernel,rfl,by decide +kernel,by decide +kernel⟩
theorem pB:Vis (defScope cG) "_law_line_here":=by decreasing_trivial
def yd (K:PySem.W.Frag):Sp:=fun vs H Q _=>∃ (a:Addr) (ns:List Int) (k:Int),vs=[.ref a,.int k]∧SqL K H a (ns.map V.int)∧0≤k∧k≤1000∧∀ c,Q (.int c) H
def yz (K:PySem.W.Frag):Sp:=fun vs H Q _=>∃ (a:Addr) (ns:List Int),vs=[.ref a]∧SqL K H a (ns.map V.int)∧∀ (l:Addr) (rooms:List Int) (H':Hp),Same H H'→H l=none→H' l=some (.lst (rooms.map V.int))→rooms.length≤6→(∀ x∈rooms,0≤x∧x≤10 ^ 15)→Q (.ref l) H'
structure LnL (m:Nat) (L:List En):Prop where
 l:L.length≤40
 pl:∀ en∈L,en.1.Sublist (List.range m)
 w:∀ en∈L,0≤en.2∧en.2≤10 ^ 15
def Am (K:PySem.W.Frag):Sp:=fun vs H Q _=>∃ (a:Addr) (ns:List Int) (m:Nat),vs=[.ref a,.int m]∧SqL K H a (ns.map V.int)∧m≤6∧∀ (l:Addr) (L:List En) (H':Hp),Same H H'→H l=none→LnAt K H' l L→LnL m L→Q (.ref l) H'
def LnNew (K:PySem.W.Frag) (H0 H:Hp) (l:Addr) (L:List En):Prop:=∃ us,H l=some (.lst us)∧Paired (fun v (e:En)=>∃ t q,v=V.ref t∧SqT K H t [.ref q,.int e.2]∧H q=some (.lst (e.1.map fun j:Nat=>V.int (j:Int)))∧q≠l∧H0 q=none) us L
theorem LnNew.at {K:PySem.W.Frag} {H0 H:Hp} {l:Addr} {L:List En} (h:LnNew K H0 H l L):LnAt K H l L:=by
 obtain⟨us,a,b⟩:=h
 refine⟨us,SqL.of a,Paired.mapP b fun v e=>?_⟩
 rintro⟨t,q,h1,h2,h3,_⟩
 exact⟨t,q,h1,h2,SqL.of h3⟩
def yh (K:PySem.W.Frag):Sp:=fun vs H Q _=>∃ (l:Addr) (L:List En),vs=[.ref l]∧LnAt K H l L∧L.length≤64∧∀ (l':Addr) (H':Hp),Same H H'→H l'=none→LnNew K H H' l' L→Q (.ref l') H'
theorem GH (c:Int):∃ t:Int,[V.int 3,V.int 12,V.int 1000,V.int (10 ^ 15)][(c / 12 % 4).toNat]?=some (.int t)∧0≤t∧t≤10 ^ 15:=by
 have a:=Int.emod_nonneg (c / 12) (show (4:Int)≠0 by decide)
 have b:=Int.emod_lt_of_pos (c / 12) (show (0:Int)<4 by decide)
 have h:(c / 12 % 4).toNat<4:=by omega
 generalize (c / 12 % 4).toNat=n at h
 rcases n with _ | _ | _ | _ | n
 ·exact⟨_,rfl,by decide,by decide⟩
 ·exact⟨_,rfl,by decide,by decide⟩
 ·exact⟨_,rfl,by decide,by decide⟩
 ·exact⟨_,rfl,by decide,by decide⟩
 ·omega
theorem Iz (c:Int):∃ n:Nat,[V.int 0,V.int 1,V.int 1,V.int 2,V.int 2,V.int 3,V.int 3,V.int 3,V.int 4,V.int 4,V.int 5,V.int 6][(c % 12).toNat]?=some (.int (n:Int))∧n≤6:=by
 have a:=Int.emod_nonneg c (show (12:Int)≠0 by decide)
 have b:=Int.emod_lt_of_pos c (show (0:Int)<12 by decide)
 have h:(c % 12).toNat<12:=by omega
 generalize (c % 12).toNat=n at h
 rcases n with _ | _ | _ | _ | _ | _ | _ | _ | _ | _ | _ | _ | n
 ·exact⟨0,rfl,by decide⟩
 ·exact⟨1,rfl,by decide⟩
 ·exact⟨1,rfl,by decide⟩
 ·exact⟨2,rfl,by decide⟩
 ·exact⟨2,rfl,by decide⟩
 ·exact⟨3,rfl,by decide⟩
 ·exact⟨3,rfl,by decide⟩
 ·exact⟨3,rfl,by decide⟩
 ·exact⟨4,rfl,by decide⟩
 ·exact⟨4,rfl,by decide⟩
 ·exact⟨5,rfl,by decide⟩
 ·exact⟨6,rfl,by decide⟩
 ·omega
theorem J1 {m:Nat} (h:m≤6):∃ n:Nat,[V.int 40,V.int 40,V.int 40,V.int 40,V.int 24,V.int 12,V.int 12][((m:Nat):Int).toNat]?=some (.int (n:Int))∧n≤40:=by
 rw[Int.toNat_natCast]
 rcases m with _ | _ | _ | _ | _ | _ | _ | m
 ·exact⟨40,rfl,by decide⟩
 ·exact⟨40,rfl,by decide⟩
 ·exact⟨40,rfl,by decide⟩
 ·exact⟨40,rfl,by decide⟩
 ·exact⟨24,rfl,by decide⟩
 ·exact⟨12,rfl,by decide⟩
 ·exact⟨12,rfl,by decide⟩
 ·omega
theorem JP (c x y:Int):[V.int x,V.int y][(c / 48 % 2).toNat]?=some (.int x)∨[V.int x,V.int y][(c / 48 % 2).toNat]?=some (.int y):=by
 have a:=Int.emod_nonneg (c / 48) (show (2:Int)≠0 by decide)
 have b:=Int.emod_lt_of_pos (c / 48) (show (0:Int)<2 by decide)
 have h:(c / 48 % 2).toNat<2:=by omega
 generalize (c / 48 % 2).toNat=n at h
 rcases n with _ | _ | n
 ·exact .inl rfl
 ·exact .inr rfl
 ·omega
theorem J6 {s1 s2 s3 s4 tl:TS} {D:Ends} {σ:St} {H:Hp} (h:∀ tl',tl'=tl→uV s1 (uV s2 (uV s3 (uV s4 tl'))) D σ H):uV s1 (uV s2 (uV s3 (uV s4 tl))) D σ H:=h tl rfl
section
variable {P:Program} {w:World} {K:PySem.W.Frag} {mg:Str→Option Value} {base:Heap} {f:Addr} {fd:FuncData}
theorem BB (F:Fun K "_law_cell" "_law_cell" bF f fd) (M:Mg mg):FnOk P w K mg base CX0 1 f fd ["_law_script","_law_k"] (yd K):=by
 refine F.ok hX (fun vs H Q E h=>?_) (fun cdv A outer s H vs Q E hr h=>?_)
 ·obtain⟨a,ns,k,rfl,_⟩:=h
  rfl
 obtain⟨a,ns,k,rfl,hS,k0,k1,q⟩:=h
 refine⟨_,(@dI _ _ _ _ _ (@nC _ _ _ _ _ _ _ _ (@kB _ _ _ _ _ _ _ _ (@Gx _) (@cO _ 1 _ _ rfl cx aR aS) (@fY _ _ _ _ _ _ _ _ _ iU eR M.m_len pW (@bO _ _ _ _ _ (@cO _ 0 _ _ rfl db ax ay) (@cT _) (cg rfl)) aA az (cg rfl) ff) (i8 _)) (@eF _ _ _ (@ia _ _ _ _ (@gu _ _ _ _ _ _ _ (@iV _) (@cO _ 0 _ _ rfl db ax ay) (@cO _ 1 _ _ rfl cx aR aS) (fun _ _=>rfl)))) (@m8 _)) (@dI _ _ _ _ _ (@ic _ _ 2 _ _ _ _ hX.nd rfl jx (@dw _ _ _ _) (fZ rfl) (.inl rfl)) (@dI _ _ _ _ _ (@nC _ _ _ _ _ _ _ _ (@kB _ _ _ _ _ _ _ _ (@vK _) (@fY _ _ _ _ _ _ _ _ _ iU eR M.m_len pW (@bO _ _ _ _ _ (@cO _ 0 _ _ rfl db ax ay) (@cT _) (cg rfl)) aA az (cg rfl) ff) (@dw _ _ _ _) (i8 _)) (@eF _ _ _ (@ic _ _ 2 _ _ _ _ hX.nd rfl jx (@iI _ _ _ _ _ _ _ _ (@qU _) (@iI _ _ _ _ _ _ _ _ (@tO _) (@gu _ _ _ _ _ _ _ (@iV _) (@cO _ 0 _ _ rfl db ax ay) (@iI _ _ _ _ _ _ _ _ (@tO _) (@iI _ _ _ _ _ _ _ _ (@qU _) (@iI _ _ _ _ _ _ _ _ (@vD _) (@cO _ 1 _ _ rfl cx aR aS) (@dw _ _ _ _)) (@dw _ _ _ _)) (@fY _ _ _ _ _ _ _ _ _ iU eR M.m_len pW (@bO _ _ _ _ _ (@cO _ 0 _ _ rfl db ax ay) (@cT _) (cg rfl)) aA az (cg rfl) ff)) (fun _ _=>rfl)) (@dw _ _ _ _)) (@dw _ _ _ _)) (fZ rfl) (.inl rfl))) (@m8 _)) (@eF _ _ _ (@ia _ _ _ _ (@iI _ _ _ _ _ _ _ _ (@tO _) (@iI _ _ _ _ _ _ _ _ (@vD _) (@iI _ _ _ _ _ _ _ _ (@tO _) (@iI _ _ _ _ _ _ _ _ (@vD _) (@cO _ 2 _ _ rfl o6 nH nI) (@dw _ _ _ _)) (@dw _ _ _ _)) (@iI _ _ _ _ _ _ _ _ (@qU _) (@iI _ _ _ _ _ _ _ _ (@qU _) (@iI _ _ _ _ _ _ _ _ (@vD _) (@cO _ 1 _ _ rfl cx aR aS) (@cO _ 1 _ _ rfl cx aR aS)) (@iI _ _ _ _ _ _ _ _ (@vD _) (@dw _ _ _ _) (@cO _ 1 _ _ rfl cx aR aS))) (@dw _ _ _ _))) (@dw _ _ _ _))))))),?_⟩
 trivial
 refine⟨_,.inl hS,?_⟩
 rw[List.length_map]
 by_cases hk:k<(ns.length:Int)
 ·rw[if_pos hk]
  exact⟨_,hS,_,uF k0 hk,q _⟩
 rw[if_neg hk]
 have kk0:=Int.mul_nonneg k0 k0
 have kk1:k * k≤1000 * 1000:=Int.mul_le_mul k1 k1 k0 (by decide)
 have fin:∀ f:Int,0≤f→f≤10 ^ 7→CMulB f 48271∧(0:Int)<2147483647∧CMulB k k∧CMulB 3 k∧CMulB (f * 48271 % 2147483647) (k * k+3 * k+11)∧(0:Int)<1000000007∧Q (.int (f * 48271 % 2147483647 * (k * k+3 * k+11) % 1000000007)) H:=fun f f0 f1=>by
  have m0:=Int.emod_nonneg (f * 48271) (show (2147483647:Int)≠0 by decide)
  have m1:=Int.emod_lt_of_pos (f * 48271) (show (0:Int)<2147483647 by decide)
  exact⟨Ay (by omega) (by omega) (by decide) (by decide),by decide,Ay (by omega) (by omega) (by omega) (by omega),Ay (by decide) (by decide) (by omega) (by omega),Ay (by omega) (by omega) (by omega) (by omega),by decide,q _⟩
 refine⟨_,.inl hS,?_⟩
 rw[List.length_map]
 by_cases hz:0<(ns.length:Int)
 ·rw[if_pos hz]
  have j0:=Int.emod_nonneg (k * 7+1) (Int.ne_of_gt hz)
  have j1:=Int.emod_lt_of_pos (k * 7+1) hz
  refine⟨Ay (by omega) (by omega) (by decide) (by decide),_,.inl hS,?_,_,hS,?_⟩
  ·rw[List.length_map]
   exact hz
  ·rw[List.length_map]
   refine⟨_,uF j0 j1,_,rfl,by decide,?_⟩
   have e0:=Int.emod_nonneg (ns.getD ((k * 7+1) % (ns.length:Int)).toNat 0) (show (1000003:Int)≠0 by decide)
   have e1:=Int.emod_lt_of_pos (ns.getD ((k * 7+1) % (ns.length:Int)).toNat 0) (show (0:Int)<1000003 by decide)
   exact fin _ (by omega) (by omega)
 ·rw[if_neg hz]
  exact fin 5 (by decide) (by decide)
theorem AO (F:Fun K "_law_rooms" "_law_rooms" aI f fd) (M:Mg mg) (bP:Cal P w K mg base CX0 "_law_cell" 1 ["_law_script","_law_k"] (yd K)):FnOk P w K mg base CX0 2 f fd ["_law_script"] (yz K):=by
 refine F.ok dW (fun vs H Q E h=>?_) (fun cdv A outer s H vs Q E hr h=>?_)
 ·obtain⟨a,ns,rfl,_⟩:=h
  rfl
 obtain⟨a,ns,rfl,hS,q⟩:=h
 refine⟨_,(@dI _ _ _ _ _ (@ic _ _ 1 _ _ _ _ dW.nd rfl nL (@fX _ _ _ _ _ _ _ _ _ _ _ bP hr iC (@bO _ _ _ _ _ (@cO _ 0 _ _ rfl nK ax ay) (@bO _ _ _ _ _ (@dw _ _ _ _) (@cT _) (cg rfl)) (cg rfl)) (by decide) cZ (cg rfl) (fT rfl ff)) (fZ rfl) (.inl rfl)) (@dI _ _ _ _ _ (@ic _ _ 2 _ _ _ _ dW.nd rfl nM (@uG _ _ _ _ _ _ _ (@bO _ _ _ _ _ (@dw _ _ _ _) (@bO _ _ _ _ _ (@dw _ _ _ _) (@bO _ _ _ _ _ (@dw _ _ _ _) (@bO _ _ _ _ _ (@iI _ _ _ _ _ _ _ _ (@DZ _) (@dw _ _ _ _) (@dw _ _ _ _)) (@cT _) (cg rfl)) (cg rfl)) (cg rfl)) (cg rfl)) (@iI _ _ _ _ _ _ _ _ (@tO _) (@iI _ _ _ _ _ _ _ _ (@vj _) (@cO _ 1 _ _ rfl i9 dS dU) (@dw _ _ _ _)) (@dw _ _ _ _)) (fun _ _=>rfl)) (fZ rfl) (.inl rfl)) (@dI _ _ _ _ _ (@ic _ _ 3 _ _ _ _ dW.nd rfl nO (@uG _ _ _ _ _ _ _ (@bO _ _ _ _ _ (@dw _ _ _ _) (@bO _ _ _ _ _ (@dw _ _ _ _) (@bO _ _ _ _ _ (@dw _ _ _ _) (@bO _ _ _ _ _ (@dw _ _ _ _) (@bO _ _ _ _ _ (@dw _ _ _ _) (@bO _ _ _ _ _ (@dw _ _ _ _) (@bO _ _ _ _ _ (@dw _ _ _ _) (@bO _ _ _ _ _ (@dw _ _ _ _) (@bO _ _ _ _ _ (@dw _ _ _ _) (@bO _ _ _ _ _ (@dw _ _ _ _) (@bO _ _ _ _ _ (@dw _ _ _ _) (@bO _ _ _ _ _ (@dw _ _ _ _) (@cT _) (cg rfl)) (cg rfl)) (cg rfl)) (cg rfl)) (cg rfl)) (cg rfl)) (cg rfl)) (cg rfl)) (cg rfl)) (cg rfl)) (cg rfl)) (cg rfl)) (@iI _ _ _ _ _ _ _ _ (@tO _) (@cO _ 1 _ _ rfl i9 dS dU) (@dw _ _ _ _)) (fun _ _=>rfl)) (fZ rfl) (.inl rfl)) (@eF _ _ _ (@ia _ _ _ _ (@mS _ _ _ _ _ _ _ _ _ _ _ _ _ _ _ rfl (CompOk.make (N':=["_law_script","_law_top","_law_k"]) (ix:=[0,2]) (nl:=1) (by rfl) (fm1 rfl (fm1 rfl fm0)) (by rfl) (by decide +kernel) rfl (by decide +kernel) rfl (And.intro ⟨rfl,.inl rfl,.inl rfl⟩ (And.intro ⟨rfl,.inl rfl,.inl rfl⟩ True.intro))) (@sW _ _ _ _ _ _ j5 M.m_range (@bO _ _ _ _ _ (@cO _ 3 _ _ rfl nN br bu) (@cT _) (cg rfl)) (star1' rfl)) (fun _ _ _ _ _=>(@fj _ _ 2 _ (show List.Nodup (["_law_script","_law_top","_law_k"]:List Str) from by decide) rfl (Or.inl rfl) (by first | exact .inl rfl | exact .inr rfl | assumption))) (fun _ _ _ _ _=>(@nk _)) (fun _ _ _ _ _=>(@iI _ _ _ _ _ _ _ _ (@tO _) (@fX _ _ _ _ _ _ _ _ _ _ _ bP hr rfl (@bO _ _ _ _ _ (@pv _ 0 _ _ (by rfl) (by decreasing_trivial) (by decide) (by decide)) (@bO _ _ _ _ _ (@iI _ _ _ _ _ _ _ _ (@qU _) (@dw _ _ _ _) (@pv _ 2 _ _ (by rfl) (by decreasing_trivial) (by decide) (by decide))) (@cT _) (cg rfl)) (cg rfl)) (by decide) cZ (cg rfl) (fT rfl ff)) (@iI _ _ _ _ _ _ _ _ (@qU _) (@pv _ 1 _ _ (by rfl) (by decreasing_trivial) (by decide) (by decide)) (@dw _ _ _ _)))) (by intro _; rfl))))))),?_⟩
 trivial
 refine⟨a,ns,0,rfl,hS,by decide,by decide,fun c=>⟨Io,by decide,c,rfl,cdiv (by decide) (by decide),by decide,Int.emod_nonneg _ (by decide),?_⟩⟩
 obtain⟨t,ht,t0,t1⟩:=GH c
 refine⟨_,ht,by decide,c,rfl,by decide,Int.emod_nonneg _ (by decide),?_⟩
 obtain⟨n,hn,n6⟩:=Iz c
 refine⟨_,hn,_,rfl,by omega,by omega,fun D hD=>?_⟩
 obtain⟨Pc,hC⟩:∃ Pc:Nat→St→Hp→Prop,Pc=fun i τ H'=>∃ (z:Option V) (rooms:List Int),H' D=some (.lst (rooms.map V.int))∧rooms.length=i∧(∀ x∈rooms,0≤x∧x≤10 ^ 15)∧Same H H'∧τ=[some (.ref a),some (.int t),z]:=⟨_,rfl⟩
 refine vA Pc ?_ ?_ ?_
 ·rw[hC]
  exact⟨_,[],cY,rfl,(fun x z=>by cases z),fD hD _,rfl⟩
 ·intro i τ H' R' hi h next
  rw[hC] at h
  obtain⟨z,rooms,d1,lr,b,e,rfl⟩:=h
  trivial
  refine⟨a,ns,_,rfl,e.seq hS,by omega,by omega,fun c2=>⟨c2,rfl,by omega,_,d1,?_,next _ _ ?_⟩⟩
  ·rw[List.length_map]
   exact Nat.lt_of_lt_of_le (m:=1000) (by omega) (by decide)
  ·rw[hC]
   refine⟨_,rooms++[c2 % (t+1)],?_,by rw[List.length_append,lr]; rfl,fun x hx=>?_,fS e hD _,rfl⟩
   ·rw[cY,List.map_append]
    rfl
   ·rcases List.mem_append.mp hx with hx | hx
    ·exact b x hx
    ·rw[List.mem_singleton.mp hx]
     have:=Int.emod_nonneg c2 (show t+1≠0 by omega)
     have:=Int.emod_lt_of_pos c2 (show 0<t+1 by omega)
     omega
 ·intro τ H' h
  rw[hC] at h
  obtain⟨z,rooms,d1,lr,b,e,rfl⟩:=h
  exact q D rooms H' e hD d1 (by omega) b
theorem BS (F:Fun K "_law_line" "_law_line" am f fd) (M:Mg mg) (bP:Cal P w K mg base CX0 "_law_cell" 1 ["_law_script","_law_k"] (yd K)):FnOk P w K mg base CX0 2 f fd ["_law_script","_law_many"] (Am K):=by
 refine F.ok bS (fun vs H Q E h=>?_) (fun cdv A outer s H vs Q E hr h=>?_)
 ·obtain⟨a,ns,m,rfl,_⟩:=h
  rfl
 obtain⟨a,ns,m,rfl,hS,m6,q⟩:=h
 refine⟨_,(@dI _ _ _ _ _ (@ic _ _ 2 _ _ _ _ bS.nd rfl o7 (@fX _ _ _ _ _ _ _ _ _ _ _ bP hr cF (@bO _ _ _ _ _ (@cO _ 0 _ _ rfl gj ax ay) (@bO _ _ _ _ _ (@dw _ _ _ _) (@cT _) (cg rfl)) (cg rfl)) (by decide) cZ (cg rfl) (fT rfl ff)) (fZ rfl) (.inl rfl)) (@dI _ _ _ _ _ (@ic _ _ 3 _ _ _ _ bS.nd rfl o8 (@uG _ _ _ _ _ _ _ (@bO _ _ _ _ _ (@dw _ _ _ _) (@bO _ _ _ _ _ (@dw _ _ _ _) (@bO _ _ _ _ _ (@dw _ _ _ _) (@bO _ _ _ _ _ (@iI _ _ _ _ _ _ _ _ (@DZ _) (@dw _ _ _ _) (@dw _ _ _ _)) (@cT _) (cg rfl)) (cg rfl)) (cg rfl)) (cg rfl)) (@iI _ _ _ _ _ _ _ _ (@tO _) (@iI _ _ _ _ _ _ _ _ (@vj _) (@cO _ 2 _ _ rfl jA dS dU) (@dw _ _ _ _)) (@dw _ _ _ _)) (fun _ _=>rfl)) (fZ rfl) (.inl rfl)) (@dI _ _ _ _ _ (@ic _ _ 4 _ _ _ _ bS.nd rfl pc (@uG _ _ _ _ _ _ _ (@bO _ _ _ _ _ (@iI _ _ _ _ _ _ _ _ (@qU _) (@cO _ 3 _ _ rfl jB kh kj) (@dw _ _ _ _)) (@bO _ _ _ _ _ (@iI _ _ _ _ _ _ _ _ (@qU _) (@iI _ _ _ _ _ _ _ _ (@vj _) (@cO _ 3 _ _ rfl jB kh kj) (@dw _ _ _ _)) (@dw _ _ _ _)) (@cT _) (cg rfl)) (cg rfl)) (@iI _ _ _ _ _ _ _ _ (@tO _) (@iI _ _ _ _ _ _ _ _ (@vj _) (@cO _ 2 _ _ rfl jA dS dU) (@dw _ _ _ _)) (@dw _ _ _ _)) (fun _ _=>rfl)) (fZ rfl) (.inl rfl)) (@dI _ _ _ _ _ (@ic _ _ 5 _ _ _ _ bS.nd rfl pe (@rE _ _ _ _ (@cT _)) (fZ rfl) (.inl rfl)) (@dI _ _ _ _ _ (@pC _ _ _ _ _ _ _ _ PassesOwn.never rfl (@sW _ _ _ _ _ _ gk M.m_range (@bO _ _ _ _ _ (@iI _ _ _ _ _ _ _ _ (@tO _) (@fX _ _ _ _ _ _ _ _ _ _ _ bP hr cF (@bO _ _ _ _ _ (@cO _ 0 _ _ rfl gj ax ay) (@bO _ _ _ _ _ (@dw _ _ _ _) (@cT _) (cg rfl)) (cg rfl)) (by decide) cZ (cg rfl) (fT rfl ff)) (@iI _ _ _ _ _ _ _ _ (@qU _) (@uG _ _ _ _ _ _ _ (@bO _ _ _ _ _ (@dw _ _ _ _) (@bO _ _ _ _ _ (@dw _ _ _ _) (@bO _ _ _ _ _ (@dw _ _ _ _) (@bO _ _ _ _ _ (@dw _ _ _ _) (@bO _ _ _ _ _ (@dw _ _ _ _) (@bO _ _ _ _ _ (@dw _ _ _ _) (@bO _ _ _ _ _ (@dw _ _ _ _) (@cT _) (cg rfl)) (cg rfl)) (cg rfl)) (cg rfl)) (cg rfl)) (cg rfl)) (cg rfl)) (@cO _ 1 _ _ rfl jz br bu) (fun _ _=>rfl)) (@dw _ _ _ _))) (@cT _) (cg rfl)) (star1' rfl)) (@fj _ _ 6 _ bS.nd rfl pj (.inl rfl)) (@dI _ _ _ _ _ (@ic _ _ 7 _ _ _ _ bS.nd rfl pq (@fX _ _ _ _ _ _ _ _ _ _ _ bP hr cF (@bO _ _ _ _ _ (@cO _ 0 _ _ rfl gj ax ay) (@bO _ _ _ _ _ (@iI _ _ _ _ _ _ _ _ (@qU _) (@dw _ _ _ _) (@cO _ 6 _ _ rfl ph aR aS)) (@cT _) (cg rfl)) (cg rfl)) (by decide) cZ (cg rfl) (fT rfl ff)) (fZ rfl) (.inl rfl)) (@dI _ _ _ _ _ (@uE _ _ _ _ _ _ _ _ _ _ _ _ _ _ _ 8 _ _ _ bS.nd rfl pA rfl (CompOk.make (N':=["_law_cell_here","_law_place"]) (ix:=[7]) (nl:=1) (by rfl) (fm1 rfl fm0) (by rfl) (by decide +kernel) rfl (by decide +kernel) rfl (And.intro ⟨rfl,.inl rfl,.inl rfl⟩ True.intro)) (@sW _ _ _ _ _ _ gk M.m_range (@bO _ _ _ _ _ (@cO _ 1 _ _ rfl jz br bu) (@cT _) (cg rfl)) (star1' rfl)) (fun _ _ _ _ _=>(@fj _ _ 1 _ (show List.Nodup (["_law_cell_here","_law_place"]:List Str) from by decide) rfl (Or.inl rfl) (by first | exact .inl rfl | exact .inr rfl | assumption))) (fun _ _ _ _ _=>(@ux _ _ _ (@kB _ _ _ _ _ _ _ _ (@um _) (@iI _ _ _ _ _ _ _ _ yj (@iI _ _ _ _ _ _ _ _ ER (@iI _ _ _ _ _ _ _ _ (@tO _) (@pv _ 0 _ _ (by rfl) (by decreasing_trivial) (by decide) (by decide)) (@dw _ _ _ _)) (@pv _ 1 _ _ (by rfl) (by decreasing_trivial) (by decide) (by decide))) (@dw _ _ _ _)) (@dw _ _ _ _) (i8 _)))) (fun _ _ _ _ _=>(@pv _ 1 _ _ (by rfl) (by decreasing_trivial) (by decide) (by decide))) (by rfl) (by intro _; rfl) (by first | exact .inl rfl | exact .inr rfl | assumption)) (@eF _ _ _ (@r8 _ _ _ _ (@uo _ _ _ _ _ _ _ _ _ _ _ _ PySem.F.plainAttrs_list PySem.F.slot_list_append PySem.F.type_list_append nR (@cO _ 5 _ _ rfl jC aa ae) (@bO _ _ _ _ _ (@tP _ _ _ _ _ (@bO _ _ _ _ _ (@cO _ 8 _ _ rfl pz eN eO) (@bO _ _ _ _ _ (@iI _ _ _ _ _ _ _ _ (@tO _) (@iI _ _ _ _ _ _ _ _ (@qU _) (@iI _ _ _ _ _ _ _ _ (@IL _) (@iI _ _ _ _ _ _ _ _ (@vj _) (@cO _ 7 _ _ rfl jD fJ fK) (@dw _ _ _ _)) (@dw _ _ _ _)) (@cO _ 7 _ _ rfl jD fJ fK)) (@cO _ 4 _ _ rfl o9 oY oZ)) (@cT _) (cg rfl)) (cg rfl))) (@cT _) (cg rfl)) (by rfl) (by rfl) (by rfl) (by rfl) (by rfl)) (fZ rfl))))) (by intro _; rfl)) (@eF _ _ _ (@ia _ _ _ _ (@cO _ 5 _ _ rfl jC aa ae)))))))),?_⟩
 refine J6 fun tl htl=>?_
 have tail:∀ (H':Hp) (p:Addr) (v1 v2:V) (pt:Int),Same H H'→H p=none→H' p=some (.lst [])→0<pt→pt≤10 ^ 15+1→tl { nx:=fun _ H'=>Q .non H',rt:=Q } [some (.ref a),some (.int m),some v1,some v2,some (.int pt),some (.ref p),none,none,none] H':=by
  intro H1 p v1 v2 pt S1 hp d1 p0 p1
  obtain⟨mo,hn,m40⟩:=J1 m6
  rw[htl]
  trivial
  refine⟨a,ns,7,rfl,S1.seq hS,by decide,by decide,fun c=>⟨by decide,by omega,_,hn,_,rfl,c,rfl,by omega,?_⟩⟩
  have c0:=Int.emod_nonneg c (show (mo:Int)+1≠0 by omega)
  have c1:=Int.emod_lt_of_pos c (show 0<(mo:Int)+1 by omega)
  refine⟨by omega,by omega,?_⟩
  obtain⟨Pv,hP⟩:∃ Pv:Nat→St→Hp→Prop,Pv=fun i σ H'=>∃ (us:List V) (L:List En) (z1 z2 z3:Option V),H' p=some (.lst us)∧Paired (fun v (e:En)=>∃ t q,v=V.ref t∧SqT K H' t [.ref q,.int e.2]∧H' q=some (.lst (e.1.map fun j:Nat=>V.int (j:Int)))∧q≠p) us L∧L.length=i∧(∀ en∈L,en.1.Sublist (List.range m))∧(∀ en∈L,0≤en.2∧en.2≤10 ^ 15)∧Same H H'∧σ=[some (.ref a),some (.int m),some v1,some v2,some (.int pt),some (.ref p),z1,z2,z3]:=⟨_,rfl⟩
  refine ue Pv ?_ ?_ ?_
  ·rw[hP]
   exact⟨[],[],_,_,_,d1,.nil,rfl,(fun en z=>by cases z),(fun en z=>by cases z),S1,rfl⟩
  ·intro i σ H3 hi h
   rw[hP] at h
   obtain⟨us,L,z1,z2,z3,d3,pr,lL,sb,wb,e3,rfl⟩:=h
   have lus:us.length=i:=by rw[Paired.length pr,lL]
   trivial
   refine⟨a,ns,_,rfl,e3.seq hS,by omega,by omega,fun c2=>⟨by omega,by omega,fun D hD=>?_⟩⟩
   have Dp:D≠p:=fun z=>by rw[z,d3] at hD; cases hD
   obtain⟨fp,hfp⟩:∃ fp:Nat→Bool,fp=fun j=>decide (Builtin.bitAnd (c2 % 64 / 2 ^ j) 1=1):=⟨_,rfl⟩
   obtain⟨Pc,hC⟩:∃ Pc:Nat→St→Hp→Prop,Pc=fun j τ H'=>∃ (z:Option V),H' D=some (.lst (((List.range j).filter fp).map fun j:Nat=>V.int (j:Int)))∧Same H3 H'∧τ=[some (.int c2),z]:=⟨_,rfl⟩
   refine vA Pc ?_ ?_ ?_
   ·rw[hC]
    exact⟨_,cY,fD hD _,rfl⟩
   ·intro j τ H' R' hj h next
    rw[hC] at h
    obtain⟨z,d4,e4,rfl⟩:=h
    have ep:(List.range (j+1)).filter fp=(List.range j).filter fp++[j].filter fp:=by
     rw[List.range_succ,List.filter_append]
    have ll:((List.range j).filter fp).length≤j:=by
     refine Nat.le_trans (List.length_filter_le ..) ?_
     rw[List.length_range]
     exact Nat.le_refl _
    trivial
    rw[show (0+(j:Int))=((j:Nat):Int) by omega,Int.toNat_natCast]
    refine⟨by decide,by omega,?_⟩
    by_cases hz:Builtin.bitAnd (c2 % 64 / 2 ^ j) 1=1
    ·rw[if_pos hz]
     refine⟨_,d4,by rw[List.length_map]; exact Nat.lt_of_lt_of_le (m:=1000) (by omega) (by decide),next _ _ ?_⟩
     rw[hC]
     refine⟨_,?_,fS e4 hD _,rfl⟩
     rw[cY,ep,List.filter_cons_of_pos (by rw[hfp]; exact decide_eq_true hz),List.filter_nil,List.map_append]
     rfl
    ·rw[if_neg hz]
     refine next _ _ ?_
     rw[hC]
     refine⟨_,?_,e4,rfl⟩
     rw[ep,List.filter_cons_of_neg (by rw[hfp]; simpa using hz),List.filter_nil,List.append_nil]
     exact d4
   intro τ H4 h
   rw[hC] at h
   obtain⟨z,d4,e4,rfl⟩:=h
   rw[Int.toNat_natCast] at d4
   have w0:=Int.emod_nonneg (c2 / 64 * 7+c2) (show pt≠0 by omega)
   have w1:=Int.emod_lt_of_pos (c2 / 64 * 7+c2) p0
   refine⟨.inl ⟨rfl,_,SqL.of (e4 _ _ d3)⟩,c2,rfl,cdiv (by decide) (by decide),.inr (by decide),c2,rfl,p0,by decide,fun t ht=>?_⟩
   obtain⟨H5,g5,S5,T5⟩:=ki (K:=K) ht [.ref D,.int ((c2 / 64 * 7+c2) % pt)]
   rw[← g5]
   clear g5
   have e35:=e4.trans S5
   have d5:=e35 _ _ d3
   refine⟨_,d5,Nat.lt_of_lt_of_le (m:=1000) (by omega) (by decide),?_⟩
   rw[hP]
   refine⟨us++[.ref t],L++[((List.range m).filter fp,(c2 / 64 * 7+c2) % pt)],_,_,_,cY,?_,by rw[List.length_append,lL]; rfl,fun en hen=>?_,fun en hen=>?_,fS (e3.trans e35) hp _,rfl⟩
   ·have kt:∀ (b:Addr) (xs:List V),SqT K H5 b xs→SqT K (upd H5 p (.lst (us++[.ref t]))) b xs:=fun b xs hb=>yX d5 (fun ys z=>by cases z) (fun _ _ z=>by cases z) (fun b hb=>er hb) hb
    refine se ?_ (Paired.mapP pr fun v row=>?_)
    ·exact⟨t,D,rfl,kt _ _ T5,by rw[er Dp]; exact S5 _ _ d4,Dp⟩
    ·rintro⟨b,q',h1,h2,h3,h4⟩
     exact⟨b,q',h1,kt _ _ (Same.tup e35 h2),by rw[er h4]; exact e35 _ _ h3,h4⟩
   ·rcases List.mem_append.mp hen with hen | hen
    ·exact sb en hen
    ·rw[List.mem_singleton.mp hen]
     exact List.filter_sublist
   ·rcases List.mem_append.mp hen with hen | hen
    ·exact wb en hen
    ·rw[List.mem_singleton.mp hen]
     exact⟨w0,by omega⟩
  ·intro σ H3 h
   rw[hP] at h
   obtain⟨us,L,z1,z2,z3,d3,pr,lL,sb,wb,e3,rfl⟩:=h
   trivial
   refine q p L H3 e3 hp ⟨us,SqL.of d3,Paired.mapP pr fun v e=>?_⟩ ⟨by omega,sb,wb⟩
   rintro⟨b,q',h1,h2,h3,h4⟩
   exact⟨b,q',h1,h2,SqL.of h3⟩
 trivial
 refine⟨a,ns,0,rfl,hS,by decide,by decide,fun c=>⟨Io,by decide,c,rfl,cdiv (by decide) (by decide),by decide,Int.emod_nonneg _ (by decide),?_⟩⟩
 obtain⟨t,ht,t0,t1⟩:=GH c
 refine⟨_,ht,t,rfl,t,rfl,cdiv (by decide) (by decide),by decide,c,rfl,cdiv (by decide) (by decide),by decide,Int.emod_nonneg _ (by decide),?_⟩
 obtain⟨pt,hpt,p0,p1⟩:∃ pt:Int,[V.int (t+1),V.int (t / 3+2)][(c / 48 % 2).toNat]?=some (.int pt)∧0<pt∧pt≤10 ^ 15+1:=by
  rcases JP c (t+1) (t / 3+2) with h | h
  ·exact⟨_,h,by omega,by omega⟩
  ·exact⟨_,h,by omega,by omega⟩
 refine⟨_,hpt,by decide,fun p hp=>?_⟩
 exact tail _ p _ _ pt (fD hp _) hp cY p0 p1
theorem BC (F:Fun K "_law_copy" "_law_copy" cG f fd) (M:Mg mg):FnOk P w K mg base CX0 1 f fd ["_law_line_here"] (yh K):=by
 refine F.ok qw (fun vs H Q E h=>?_) (fun cdv A outer s H vs Q E hr h=>?_)
 ·obtain⟨l,L,rfl,_⟩:=h
  rfl
 obtain⟨l,L,rfl,hL,l64,q⟩:=h
 refine⟨_,(@eF _ _ _ (@ia _ _ _ _ (@mS _ _ _ _ _ _ _ _ _ _ _ _ _ _ _ rfl (CompOk.make (N':=["_law_places","_law_weight"]) (ix:=[]) (nl:=2) (by rfl) fm0 (by rfl) (by decide +kernel) rfl (by decide +kernel) rfl True.intro) (@kL _ _ _ _ (@cO _ 0 _ _ rfl pB aa ae)) (fun _ _ _ _ _=>(@uv _ K _ _ 2 _ _ rfl rfl (@gS _ _ _ _ _ (@fj _ _ 0 _ (show List.Nodup (["_law_places","_law_weight"]:List Str) from by decide) rfl (Or.inl rfl) (by first | exact .inl rfl | exact .inr rfl | assumption)) (@gS _ _ _ _ _ (@fj _ _ 1 _ (show List.Nodup (["_law_places","_law_weight"]:List Str) from by decide) rfl (Or.inl rfl) (by first | exact .inl rfl | exact .inr rfl | assumption)) (@oW _) (by rfl)) (by rfl)) (by rfl) (by rfl))) (fun _ _ _ _ _=>(@nk _)) (fun _ _ _ _ _=>(@tP _ _ _ _ _ (@bO _ _ _ _ _ (@nS _ _ _ _ _ _ _ _ _ (xx (K:=K) rfl) rfl M.m_list tM (@bO _ _ _ _ _ (@pv _ 0 _ _ (by rfl) (by decreasing_trivial) (by decide) (by decide)) (@cT _) (cg rfl)) bi bh (cg rfl) ff) (@bO _ _ _ _ _ (@pv _ 1 _ _ (by rfl) (by decreasing_trivial) (by decide) (by decide)) (@cT _) (cg rfl)) (cg rfl)))) (by intro _; rfl)))),?_⟩
 trivial
 obtain⟨us,hus,hpa⟩:=hL
 have lus:us.length=L.length:=Paired.length hpa
 refine⟨⟨_,hus⟩,fun D hD=>?_⟩
 obtain⟨Pc,hC⟩:∃ Pc:Nat→St→Hp→Prop,Pc=fun i τ H'=>∃ (ws:List V) (y z:Option V),H' D=some (.lst ws)∧Paired (fun v (e:En)=>∃ t q,v=V.ref t∧SqT K H' t [.ref q,.int e.2]∧H' q=some (.lst (e.1.map fun j:Nat=>V.int (j:Int)))∧q≠D∧H q=none) ws (L.take i)∧Same H H'∧τ=[y,z]:=⟨_,rfl⟩
 refine mC us Pc ?_ (fun i τ H' _ h=>by rw[hC] at h; obtain⟨_,_,_,_,_,e,_⟩:=h; exact e.seq hus) ?_ ?_
 ·rw[hC]
  exact⟨[],_,_,cY,.nil,fD hD _,rfl⟩
 ·intro i x τ H' R' hx h next
  rw[hC] at h
  obtain⟨ws,y,z,d1,pr,e,rfl⟩:=h
  have li:i<us.length:=(List.getElem?_eq_some_iff.mp hx).1
  have hen:L[i]?=some (L[i]'(by omega)):=List.getElem?_eq_getElem (by omega)
  generalize L[i]'(by omega)=en at hen
  obtain⟨t,q',a1,a2,a3⟩:=tT hpa hen
  rw[hx] at a1
  cases a1
  have lw:ws.length≤i:=by
   rw[Paired.length pr,List.length_take]
   omega
  trivial
  refine⟨_,Same.tup e a2,rfl,?_⟩
  trivial
  refine⟨_,e.seq a3,fun l2 hl2=>⟨by decide,fun t2 ht2=>?_⟩⟩
  have l2D:l2≠D:=fun z=>by rw[z,d1] at hl2; cases hl2
  obtain⟨H4,g4,S4,T4⟩:∃ H4,H4=upd H' l2 (.lst (en.1.map fun j:Nat=>V.int (j:Int)))∧Same H' H4∧H4 l2=some (.lst (en.1.map fun j:Nat=>V.int (j:Int))):=⟨_,rfl,fD hl2 _,cY⟩
  rw[← g4] at ht2 ⊢
  clear g4
  obtain⟨H5,g5,S5,T5⟩:=ki (K:=K) ht2 [.ref l2,.int en.2]
  rw[← g5]
  clear g5
  have e45:=S4.trans S5
  have d5:=e45 _ _ d1
  refine⟨_,d5,Nat.lt_of_lt_of_le (m:=1000) (by omega) (by decide),next _ _ ?_⟩
  rw[hC]
  refine⟨ws++[.ref t2],_,_,cY,?_,fS (e.trans e45) hD _,rfl⟩
  have kt:∀ (b:Addr) (xs:List V),SqT K H5 b xs→SqT K (upd H5 D (.lst (ws++[.ref t2]))) b xs:=fun b xs hb=>yX d5 (fun ys z=>by cases z) (fun _ _ z=>by cases z) (fun b hb=>er hb) hb
  rw[List.take_add_one,hen]
  refine se ?_ (Paired.mapP pr fun v row=>?_)
  ·exact⟨t2,l2,rfl,kt _ _ T5,by rw[er l2D]; exact S5 _ _ T4,l2D,none_of e hl2⟩
  ·rintro⟨b,q',h1,h2,h3,h4⟩
   exact⟨b,q',h1,kt _ _ (Same.tup e45 h2),by rw[er h4.1]; exact e45 _ _ h3,h4⟩
 ·intro τ H' h
  rw[hC] at h
  obtain⟨ws,y,z,d1,pr,e,rfl⟩:=h
  rw[lus,List.take_length] at pr
  exact q D H' e hD ⟨ws,d1,pr⟩
end
end MyJ
namespace MyK
open My MyB MyC MyD MyE MyF MyG MyS MyI MyJ PySem L2
def mj (s:Nat) (j:Nat):Bool:=decide (Builtin.bitAnd ((s:Int) / 2 ^ j) 1=1)
def tw (j:Nat):Int:=([1,2,4,8,16,32]:List Int).getD j 0
def xS (l:List Nat):Int:=(l.map tw).sum
def subs:List Nat→List (List Nat)
 | []=>[[]]
 | x::xs=>subs xs++(subs xs).map (x::·)
theorem Ft {l xs:List Nat} (h:l.Sublist xs):l∈subs xs:=by
 induction h with
 | slnil=>exact List.mem_singleton.mpr rfl
 | cons a h ih=>exact List.mem_append_left _ ih
 | cons_cons a h ih=>exact List.mem_append_right _ (List.mem_map.mpr ⟨_,ih,rfl⟩)
theorem Ge:∀ l∈subs (List.range 6),∀ s∈List.range 64,decide (Builtin.bitAnd (s:Int) (xS l)=xS l)=l.all (mj s):=by decide +kernel
def Jh (m:Nat) (b:List Bool):Nat:=((List.range m).map fun j=>if b.getD j false=true then 2 ^ j else 0).sum
theorem FA:∀ m∈List.range 7,∀ b0 b1 b2 b3 b4 b5:Bool,Jh m [b0,b1,b2,b3,b4,b5]<2 ^ m∧∀ j∈List.range m,mj (Jh m [b0,b1,b2,b3,b4,b5]) j=[b0,b1,b2,b3,b4,b5].getD j false:=by decide +kernel
theorem Jg {m:Nat} (h:m≤6) (S:Nat→Bool):∃ s,s<2 ^ m∧∀ j,j<m→mj s j=S j:=by
 obtain⟨a,b⟩:=FA m (List.mem_range.mpr (by omega)) (S 0) (S 1) (S 2) (S 3) (S 4) (S 5)
 refine⟨_,a,fun j hj=>(b j (List.mem_range.mpr hj)).trans ?_⟩
 have h6:j<6:=by omega
 rcases j with _ | _ | _ | _ | _ | _ | j
 ·rfl
 ·rfl
 ·rfl
 ·rfl
 ·rfl
 ·rfl
 ·omega
theorem x8 {m:Nat} {L:List En} (h:LnL m L) {e:Nat} (he:e<L.length):(pl L e).Sublist (List.range m):=by
 unfold pl
 rw[My.getD_at he]
 exact h.pl _ (List.getElem_mem he)
theorem Cz {m s:Nat} {L:List En} (h:LnL m L) (m6:m≤6) (hs:s<64) {e:Nat} (he:e<L.length):Builtin.bitAnd (s:Int) (xS (pl L e))=xS (pl L e)↔(pl L e).all (mj s)=true:=by
 have:=Ge _ (Ft ((x8 h he).trans (List.range_sublist.mpr m6))) s (List.mem_range.mpr hs)
 rw[← this]
 exact decide_eq_true_iff.symm
structure Most (rooms:List Int) (L:List En) (G:List Int):Prop where
 len:G.length=L.length
 nn:∀ e,e<L.length→0≤G.getD e 0
 le:∀ e,e<L.length→G.getD e 0≤wt L e
 loose:∀ S k,k≤L.length→sumG L (fun e=>G.getD e 0) S k≤roomS rooms rooms.length S
 tight:∀ e,e<L.length→G.getD e 0<wt L e→∃ S:Nat→Bool,(pl L e).all S=true∧roomS rooms rooms.length S=sumG L (fun e=>G.getD e 0) S (e+1)
theorem xu {rooms:List Int} {m:Nat} {S S':Nat→Bool} (h:∀ j,j<m→S j=S' j):roomS rooms m S=roomS rooms m S':=by
 unfold roomS
 exact jw fun j hj=>by rw[h j hj]
theorem all_congr {l:List Nat} {S S':Nat→Bool} (h:∀ j∈l,S j=S' j):l.all S=l.all S':=by
 induction l with
 | nil=>rfl
 | cons x xs ih=>rw[List.all_cons,List.all_cons,h x List.mem_cons_self,ih fun j hj=>h j (List.mem_cons_of_mem _ hj)]
theorem xy {L:List En} {G:Nat→Int} {S S':Nat→Bool} {k:Nat} (h:∀ e,e<k→∀ j∈pl L e,S j=S' j):sumG L G S k=sumG L G S' k:=by
 unfold sumG
 exact jw fun e he=>by rw[all_congr (h e he)]
theorem F0 {rooms:List Int} {L:List En} {G G':List Int} (a:Most rooms L G) (b:Most rooms L G'):G=G':=by
 have key:∀ {G G':List Int},Most rooms L G→Most rooms L G'→∀ e,e<L.length→(∀ e',e'<e→G.getD e' 0=G'.getD e' 0)→¬ G.getD e 0<G'.getD e 0:=fun {G G'} a b e he ih lt=>by
  obtain⟨S,h1,h2⟩:=a.tight e he (Int.lt_of_lt_of_le lt (b.le e he))
  have h3:=b.loose S (e+1) (by omega)
  have e1:sumG L (fun e=>G.getD e 0) S (e+1)=sumG L (fun e=>G.getD e 0) S e+G.getD e 0:=by
   unfold sumG
   rw[iN,if_pos h1]
  have e2:sumG L (fun e=>G'.getD e 0) S (e+1)=sumG L (fun e=>G'.getD e 0) S e+G'.getD e 0:=by
   unfold sumG
   rw[iN,if_pos h1]
  have e3:sumG L (fun e=>G.getD e 0) S e=sumG L (fun e=>G'.getD e 0) S e:=ud fun e' he'=>ih e' he'
  omega
 have all:∀ k,k≤L.length→∀ e,e<k→G.getD e 0=G'.getD e 0:=by
  intro k
  induction k with
  | zero=>intro _ e he; omega
  | succ k ih =>
   intro hk e he
   have ih':=ih (by omega)
   by_cases z:e<k
   ·exact ih' e z
   ·have ee:e=k:=by omega
    subst ee
    have x:=key a b e (by omega) ih'
    have y:=key b a e (by omega) fun e' h'=>(ih' e' h').symm
    omega
 refine List.ext_getElem (by rw[a.len,b.len]) fun e h1 h2=>?_
 have:=all _ (Nat.le_refl _) e (by rw[← a.len]; exact h1)
 rwa [My.getD_at h1,My.getD_at h2] at this
theorem sum_at {F:List (List Int)} {e:Nat}:(F.map List.sum).getD e 0=nt F e:=by
 unfold nt
 rw[List.getD,List.getElem?_map,List.getD]
 cases F[e]? <;> rfl
theorem G0 {K:PySem.W.Frag} {rooms:List Int} {L:List En} {F:List (List Int)} {lf:List Int} {cs:List V} {H:Hp} {ok:Addr→Prop} (flo:Flo L L.length rooms.length rooms F lf) (lc:cs.length=L.length) (h:∀ (e:Nat) (v:V),cs[e]?=some v→CutAt L rooms.length rooms F lf H ok e v):Most rooms L (F.map List.sum):=by
 have ef:(fun e=>(F.map List.sum).getD e 0)=nt F:=by
  funext e
  exact sum_at
 have cut:∀ e,e<L.length→∃ v,CutAt L rooms.length rooms F lf H ok e v:=fun e he=>⟨_,h e _ (List.getElem?_eq_getElem (by omega))⟩
 refine⟨by rw[List.length_map,flo.rows.1],fun e he=>?_,fun e he=>?_,fun S k hk=>?_,fun e he hlt=>?_⟩
 ·rw[sum_at,yD flo.rows he]
  exact wY fun j _=>flo.nn e j
 ·obtain⟨v,hv⟩:=cut e he
  rw[sum_at]
  rcases hv with ⟨_,z⟩ | ⟨c,ns,_,_,_,z,_⟩
  ·omega
  ·omega
 ·rw[ef]
  exact MyS.loose flo S k hk
 ·obtain⟨v,hv⟩:=cut e he
  rw[sum_at] at hlt
  rcases hv with ⟨_,z⟩ | ⟨c,ns,_,_,_,_,_,_,_,z1,z2⟩
  ·omega
  ·refine⟨inS ns,?_,?_⟩
   ·rw[List.all_eq_true]
    intro j hj
    exact decide_eq_true (z1 j hj)
   ·rw[ef]
    exact z2
theorem JV {m:Nat} {L:List En} (h:LnL m L) (m6:m≤6):LnOk m L:=by
 have len:∀ en∈L,en.1.length≤m:=fun en hen=>by
  have:=(h.pl en hen).length_le
  rwa [List.length_range] at this
 refine⟨by have:=h.l; omega,fun en hen=>⟨by have:=len en hen; omega,fun o ho=>List.mem_range.mp ((h.pl en hen).subset ho)⟩,fun en hen=>(h.pl en hen).nodup List.nodup_range,by omega,fun en hen=>(h.w en hen).1⟩
end MyK
namespace MyT
open My MyB MyC MyD MyE MyF MyG MyS MyI MyJ MyK PySem L2
def top (i:Nat):Stmt:=PySem.Challenge.pw_tariffgate_k66_said_otherwise.main.body.getD i (.Pass ⟨0,0,0,0⟩)
theorem cH:(("thing":Str) == ("__debug__":Str))=false:=by decide
theorem cI:(("thing":Str) == ("__classdict__":Str))=false:=by decide
theorem s0:(("many":Str) == ("__debug__":Str))=false:=by decide
theorem tj:(("many":Str) == ("__classdict__":Str))=false:=by decide
theorem gm:(("grant":Str) == ("__debug__":Str))=false:=by decide
theorem gn:(("grant":Str) == ("__classdict__":Str))=false:=by decide
theorem ie:(("is_whole":Str) == ("__debug__":Str))=false:=by decide
theorem mF:(("some":Str) == ("__debug__":Str))=false:=by decide
theorem mG:(("some":Str) == ("__classdict__":Str))=false:=by decide
theorem dy:(("all":Str) == ("__debug__":Str))=false:=by decide
theorem dz:("all":Str)≠"__name__":=by decide
theorem r9:(("set":Str) == ("__debug__":Str))=false:=by decide
theorem sd:("set":Str)≠"__name__":=by decide
theorem sQ:(("tuple":Str) == ("__debug__":Str))=false:=by decide
theorem sR:("tuple":Str)≠"__name__":=by decide
theorem dJ:(("route":Str) == ("__debug__":Str))=false:=by decide
theorem dL:(("route":Str) == ("__classdict__":Str))=false:=by decide
theorem fA:(("are_places":Str) == ("__debug__":Str))=false:=by decide
theorem rC:(("is_pair":Str) == ("__debug__":Str))=false:=by decide
abbrev bL:Stmt:=top 1
theorem qx:FnScope ["thing"] ["thing"] (defScope bL):=⟨rfl,rfl,rfl,by decide +kernel,rfl,by decide +kernel,by decide +kernel⟩
theorem jE:Vis (defScope bL) "thing":=by decreasing_trivial
theorem dN:(defScope bL).names.lookup ("isinstance":Str)=some .globalImplicit:=by rfl
theorem mH:(defScope bL).names.lookup ("int":Str)=some .globalImplicit:=by rfl
theorem ly:(defScope bL).names.lookup ("bool":Str)=some .globalImplicit:=by rfl
abbrev aY:Stmt:=top 3
theorem nT:FnScope ["thing","many"] ["thing","many"] (defScope aY):=⟨rfl,rfl,rfl,by decide +kernel,rfl,by decide +kernel,by decide +kernel⟩
theorem iD:Vis (defScope aY) "thing":=by decreasing_trivial
theorem mI:Vis (defScope aY) "many":=by decreasing_trivial
theorem gP:(defScope aY).names.lookup ("isinstance":Str)=some .globalImplicit:=by rfl
theorem j7:(defScope aY).names.lookup ("list":Str)=some .globalImplicit:=by rfl
theorem kM:(defScope aY).names.lookup ("len":Str)=some .globalImplicit:=by rfl
abbrev bQ:Stmt:=top 4
theorem qy:FnScope ["entry","grant"] ["entry","grant"] (defScope bQ):=⟨rfl,rfl,rfl,by decide +kernel,rfl,by decide +kernel,by decide +kernel⟩
theorem pG:Vis (defScope bQ) "entry":=by decreasing_trivial
theorem jF:Vis (defScope bQ) "grant":=by decreasing_trivial
theorem jj:(defScope bQ).names.lookup ("is_whole":Str)=some .globalImplicit:=by rfl
abbrev bv:Stmt:=top 5
theorem nU:FnScope ["some","allowed"] ["some","allowed"] (defScope bv):=⟨rfl,rfl,rfl,by decide +kernel,rfl,by decide +kernel,by decide +kernel⟩
theorem eS:Vis (defScope bv) "some":=by decreasing_trivial
theorem kN:(defScope bv).names.lookup ("all":Str)=some .globalImplicit:=by rfl
theorem gp:(defScope bv).names.lookup ("len":Str)=some .globalImplicit:=by rfl
theorem kO:(defScope bv).names.lookup ("set":Str)=some .globalImplicit:=by rfl
abbrev bN:Stmt:=top 6
theorem rD:FnScope ["thing"] ["thing"] (defScope bN):=⟨rfl,rfl,rfl,by decide +kernel,rfl,by decide +kernel,by decide +kernel⟩
theorem eW:Vis (defScope bN) "thing":=by decreasing_trivial
theorem iY:(defScope bN).names.lookup ("isinstance":Str)=some .globalImplicit:=by rfl
theorem lA:(defScope bN).names.lookup ("tuple":Str)=some .globalImplicit:=by rfl
theorem nV:(defScope bN).names.lookup ("len":Str)=some .globalImplicit:=by rfl
theorem jG:(defScope bN).names.lookup ("is_whole":Str)=some .globalImplicit:=by rfl
abbrev aV:Stmt:=top 7
theorem qz:FnScope ["entry","grant","route"] ["entry","grant","route"] (defScope aV):=⟨rfl,rfl,rfl,by decide +kernel,rfl,by decide +kernel,by decide +kernel⟩
theorem pH:Vis (defScope aV) "entry":=by decreasing_trivial
theorem pI:Vis (defScope aV) "grant":=by decreasing_trivial
theorem dX:Vis (defScope aV) "route":=by decreasing_trivial
theorem iE:(defScope aV).names.lookup ("isinstance":Str)=some .globalImplicit:=by rfl
theorem lB:(defScope aV).names.lookup ("list":Str)=some .globalImplicit:=by rfl
theorem mJ:(defScope aV).names.lookup ("all":Str)=some .globalImplicit:=by rfl
theorem iF:(defScope aV).names.lookup ("are_places":Str)=some .globalImplicit:=by rfl
theorem mK:(defScope aV).names.lookup ("sum":Str)=some .globalImplicit:=by rfl
def Jm:Kn→Bool
 | .int=>true
 | _=>false
def uS (K:PySem.W.Frag):Sp:=fun vs H Q _=>∃ v k,vs=[v]∧Kd K H v k∧Q (.bl (Jm k)) H
section
variable {P:Program} {w:World} {K:PySem.W.Frag} {mg:Str→Option Value} {base:Heap} {f:Addr} {fd:FuncData}
theorem A7 (F:Fun K "is_whole" "is_whole" bL f fd) (M:Mg mg):FnOk P w K mg base CX0 1 f fd ["thing"] (uS K):=by
 refine F.ok qx (fun vs H Q E h=>?_) (fun cdv A outer s H vs Q E hr h=>?_)
 ·obtain⟨v,k,rfl,_⟩:=h
  rfl
 obtain⟨v,k,rfl,hk,q⟩:=h
 refine⟨_,(@eF _ _ _ (@ia _ _ _ _ (@uO _ _ _ _ _ _ _ (@fY _ _ _ _ _ _ _ _ _ uI dN M.m_isinstance tD (@bO _ _ _ _ _ (@cO _ 0 _ _ rfl jE cH cI) (@bO _ _ _ _ _ (@u9 _ _ (.ty "int") _ _ mH M.m_int JK rfl o5 o4) (@cT _) (cg rfl)) (cg rfl)) bf bb (cg rfl) (fT rfl ff)) (@vm _ _ _ _ _ (@IR _ _ _ _ (@fY _ _ _ _ _ _ _ _ _ uI dN M.m_isinstance tD (@bO _ _ _ _ _ (@cO _ 0 _ _ rfl jE cH cI) (@bO _ _ _ _ _ (@u9 _ _ (.ty "bool") _ _ ly M.m_bool IT rfl mE mD) (@cT _) (cg rfl)) (cg rfl)) bf bb (cg rfl) (fT rfl ff))))))),?_⟩
 trivial
 refine⟨_,hk,?_⟩
 cases k with
 | int=>exact⟨_,hk,q⟩
 | bl=>exact⟨_,hk,q⟩
 | _=>exact q
end
inductive Dt where
 | non | bl (b:Bool) | int (i:Int) | str (z:Str) | lst (ds:List Dt) | tup (ds:List Dt) | dct
mutual
inductive Rp (K:PySem.W.Frag) (H:Hp):V→Dt→Prop
 | non:Rp K H .non .non
 | bl (b:Bool):Rp K H (.bl b) (.bl b)
 | int (i:Int):Rp K H (.int i) (.int i)
 | str (z:Str):Rp K H (.str z) (.str z)
 | lst {a:Addr} {xs:List V} {ds:List Dt}:SqL K H a xs→RpAll K H xs ds→ds.length≤500→Rp K H (.ref a) (.lst ds)
 | tup {a:Addr} {xs:List V} {ds:List Dt}:SqT K H a xs→RpAll K H xs ds→Rp K H (.ref a) (.tup ds)
 | dct {a:Addr}:H a=some (dctO a)→Rp K H (.ref a) .dct
inductive RpAll (K:PySem.W.Frag) (H:Hp):List V→List Dt→Prop
 | nil:RpAll K H [] []
 | cons {x:V} {d:Dt} {xs:List V} {ds:List Dt}:Rp K H x d→RpAll K H xs ds→RpAll K H (x::xs) (d::ds)
end
mutual
theorem Rp.same {K:PySem.W.Frag} {H H':Hp} (e:Same H H'):∀ {v:V} {d:Dt},Rp K H v d→Rp K H' v d
 | _,_,.non=>.non
 | _,_,.bl b=>.bl b
 | _,_,.int i=>.int i
 | _,_,.str z=>.str z
 | _,_,.lst h r l=>.lst (e.seq h) (RpAll.same e r) l
 | _,_,.tup h r=>.tup (xM e h) (RpAll.same e r)
 | _,_,.dct h=>.dct (e _ _ h)
theorem RpAll.same {K:PySem.W.Frag} {H H':Hp} (e:Same H H'):∀ {xs:List V} {ds:List Dt},RpAll K H xs ds→RpAll K H' xs ds
 | _,_,.nil=>.nil
 | _,_,.cons h r=>.cons (Rp.same e h) (RpAll.same e r)
end
theorem RpAll.len {K:PySem.W.Frag} {H:Hp}:∀ {xs:List V} {ds:List Dt},RpAll K H xs ds→xs.length=ds.length
 | _,_,.nil=>rfl
 | _,_,.cons _ r=>by rw[List.length_cons,List.length_cons,RpAll.len r]
theorem RpAll.get {K:PySem.W.Frag} {H:Hp}:∀ {xs:List V} {ds:List Dt} {i:Nat} {v:V},RpAll K H xs ds→xs[i]?=some v→∃ d,ds[i]?=some d∧Rp K H v d
 | _,_,_,_,.nil,h=>by cases h
 | _,_,0,_,.cons r _,h=>by cases h; exact⟨_,rfl,r⟩
 | _,_,i+1,_,.cons _ r,h=>by
  rw[List.getElem?_cons_succ] at h
  obtain⟨d,a,b⟩:=RpAll.get r h
  exact⟨d,by rw[List.getElem?_cons_succ]; exact a,b⟩
theorem RpAll.snoc {K:PySem.W.Frag} {H:Hp} {v:V} {d:Dt} (h:Rp K H v d):∀ {xs:List V} {ds:List Dt},RpAll K H xs ds→RpAll K H (xs++[v]) (ds++[d])
 | _,_,.nil=>.cons h .nil
 | _,_,.cons a r=>.cons a (RpAll.snoc h r)
def knD:Dt→Kn
 | .non=>.non
 | .bl _=>.bl
 | .int _=>.int
 | .str _=>.str
 | .lst _=>.lst
 | .tup _=>.tup
 | .dct=>.dct
theorem Rp.kd {K:PySem.W.Frag} {H:Hp} {v:V} {d:Dt} (h:Rp K H v d):Kd K H v (knD d):=by
 cases h with
 | non=>exact rfl
 | bl b=>exact rfl
 | int i=>exact rfl
 | str z=>exact rfl
 | lst h _ _=>exact Kd.lst h
 | tup h _=>exact Kd.tup h
 | dct h=>exact Kd.dct h
def pF (n:Nat):Dt→Bool
 | .lst ds=>decide (ds.length=n)
 | _=>false
def tW (w:Int):Dt→Bool
 | .int i=>decide (0≤i) && decide (i≤w)
 | _=>false
def uM:Dt→Bool
 | .tup [_,.int i]=>decide (1≤i)
 | _=>false
def t7:Dt→Dt
 | .tup [a,_]=>a
 | _=>.non
def xW:Dt→Int
 | .tup [_,.int i]=>i
 | _=>0
def intOf:Dt→Int
 | .int i=>i
 | _=>0
def uC (al:List Int):Dt→Bool
 | .int i=>decide (i∈al)
 | _=>false
def qO (al:List Int) (ds:List Dt):Bool:=ds.all (uC al) && decide ((ds.map intOf).Nodup)
def ua (ps:List Nat) (g:Int):Dt→Bool
 | .lst ds=>ds.all uM && (qO (ps.map fun j:Nat=>(j:Int)) (ds.map t7) && decide ((ds.map xW).sum=g))
 | _=>false
theorem uA (ps:List Nat) (g:Int) (ds:List Dt):ua ps g (.lst ds)=(ds.all uM && (qO (ps.map fun j:Nat=>(j:Int)) (ds.map t7) && decide ((ds.map xW).sum=g))):=rfl
def xF (K:PySem.W.Frag):Sp:=fun vs H Q _=>∃ (v:V) (d:Dt) (n:Nat),vs=[v,.int (n:Int)]∧Rp K H v d∧Q (.bl (pF n d)) H
def x6 (K:PySem.W.Frag):Sp:=fun vs H Q _=>∃ (v x:V) (d:Dt) (t:Addr) (w:Int),vs=[.ref t,v]∧SqT K H t [x,.int w]∧Rp K H v d∧Q (.bl (tW w d)) H
def vJ (K:PySem.W.Frag):Sp:=fun vs H Q _=>∃ (a b:Addr) (us:List V) (ds:List Dt) (al:List Int),vs=[.ref a,.ref b]∧SqL K H a us∧RpAll K H us ds∧ds.length≤500∧SqL K H b (al.map V.int)∧∀ H',Same H H'→Q (.bl (qO al ds)) H'
def yx (K:PySem.W.Frag):Sp:=fun vs H Q _=>∃ (v:V) (d:Dt),vs=[v]∧Rp K H v d∧Q (.bl (uM d)) H
def xQ (K:PySem.W.Frag):Sp:=fun vs H Q _=>∃ (v:V) (d:Dt) (t q:Addr) (ps:List Nat) (w g:Int),vs=[.ref t,.int g,v]∧SqT K H t [.ref q,.int w]∧SqL K H q (ps.map fun j:Nat=>V.int (j:Int))∧Rp K H v d∧∀ H',Same H H'→Q (.bl (ua ps g d)) H'
theorem uN (ks:List Int) (j:Int):inV (.int j) (ks.map V.int)=decide (j∈ks):=by
 unfold inV
 rw[Bool.eq_iff_iff,List.any_eq_true,decide_eq_true_iff]
 refine⟨?_,fun h=>⟨_,List.mem_map.mpr ⟨j,h,rfl⟩,by simp [eqV]⟩⟩
 rintro⟨x,hx,e⟩
 obtain⟨i,hi,rfl⟩:=List.mem_map.mp hx
 have:i=j:=by simpa [eqV] using e
 rw[← this]
 exact hi
theorem vt (ks:List Int):(ks.map V.int).all uD=true:=by
 rw[List.all_eq_true]
 intro x hx
 obtain⟨j,_,rfl⟩:=List.mem_map.mp hx
 rfl
theorem E6:∀ (ns:List Int),(∀ k,(ns.foldl PySem.SetL.addS (fun _=>false,0)).1 k=decide (k∈ns))∧(ns.foldl PySem.SetL.addS (fun _=>false,0)).2≤ns.length∧((ns.foldl PySem.SetL.addS (fun _=>false,0)).2=ns.length↔ns.Nodup):=fun ns=>by
 have key:∀ (ms ns:List Int),ns.length=ms.length→ns.reverse=ms→(∀ k,(ns.foldl PySem.SetL.addS (fun _=>false,0)).1 k=decide (k∈ns))∧(ns.foldl PySem.SetL.addS (fun _=>false,0)).2≤ns.length∧((ns.foldl PySem.SetL.addS (fun _=>false,0)).2=ns.length↔ns.Nodup):=by
  intro ms
  induction ms with
  | nil =>
   intro ns hl hr
   have:ns=[]:=List.reverse_eq_nil_iff.mp hr
   subst this
   exact⟨fun k=>by simp,Nat.le_refl _,by simp⟩
  | cons m ms ih =>
   intro ns hl hr
   obtain⟨xs,rfl⟩:∃ xs,ns=xs++[m]:=⟨ms.reverse,by rw[← List.reverse_reverse ns,hr,List.reverse_cons]⟩
   have hx:xs.reverse=ms:=by simpa using hr
   obtain⟨h1,h2,h3⟩:=ih xs (by rw[← hx,List.length_reverse]) hx
   rw[List.foldl_append]
   simp only [List.foldl_cons,List.foldl_nil]
   generalize xs.foldl PySem.SetL.addS (fun _=>false,0)=p at h1 h2 h3
   refine⟨fun k=>?_,?_,?_⟩
   ·show (p.1 k || decide (k=m))=_
    rw[h1,Bool.eq_iff_iff]
    simp
   ·show (if p.1 m=true then p.2 else p.2+1)≤_
    rw[List.length_append,List.length_singleton]
    split <;> omega
   ·show (if p.1 m=true then p.2 else p.2+1)=_↔_
    rw[List.length_append,List.length_singleton,h1]
    by_cases hm:m∈xs
    ·rw[if_pos (decide_eq_true hm)]
     refine⟨fun z=>by omega,fun z=>?_⟩
     rw[List.nodup_append] at z
     exact absurd rfl (z.2.2 m hm m (List.mem_singleton.mpr rfl))
    ·rw[if_neg (fun z=>hm (of_decide_eq_true z))]
     rw[List.nodup_append]
     refine⟨fun z=>⟨h3.mp (by omega),by simp,fun a ha b hb z2=>?_⟩,fun z=>by rw[h3.mpr z.1]⟩
     rw[List.mem_singleton.mp hb] at z2
     exact hm (z2 ▸ ha)
 exact key ns.reverse ns (by rw[List.length_reverse]) rfl
theorem all_ints {K:PySem.W.Frag} {H:Hp} {al:List Int}:∀ {us:List V} {ds:List Dt},RpAll K H us ds→ds.all (uC al)=true→us=(ds.map intOf).map V.int
 | _,_,.nil,_=>rfl
 | _,_,.cons (d:=d) h r,ha=>by
  rw[List.all_cons,Bool.and_eq_true] at ha
  rw[List.map_cons,List.map_cons,← all_ints r ha.2]
  cases h with
  | int i=>rfl
  | _=>exact absurd ha.1 (by simp [uC])
theorem Ci {K:PySem.W.Frag} {H:Hp} {v:V} {d:Dt} (h:Rp K H v d) (hp:uM d=true):∃ t x i,v=V.ref t∧SqT K H t [x,.int i]∧Rp K H x (t7 d)∧xW d=i∧1≤i:=by
 cases h with
 | tup hT hA =>
  rename_i a xs ds
  cases hA with
  | nil=>cases hp
  | cons h1 r1 =>
   cases r1 with
   | nil=>cases hp
   | cons h2 r2 =>
    cases r2 with
    | nil =>
     rename_i x d x2 d2
     cases h2 with
     | int i=>exact⟨a,x,i,rfl,hT,h1,rfl,of_decide_eq_true hp⟩
     | _=>cases hp
    | cons h3 r3 =>
     cases h2 <;> cases hp
 | _=>cases hp
section
variable {P:Program} {w:World} {K:PySem.W.Frag} {mg:Str→Option Value} {base:Heap} {f:Addr} {fd:FuncData}
theorem zy (F:Fun K "is_list_of" "is_list_of" aY f fd) (M:Mg mg):FnOk P w K mg base CX0 1 f fd ["thing","many"] (xF K):=by
 refine F.ok nT (fun vs H Q E h=>?_) (fun cdv A outer s H vs Q E hr h=>?_)
 ·obtain⟨v,d,n,rfl,_⟩:=h
  rfl
 obtain⟨v,d,n,rfl,hv,q⟩:=h
 refine⟨_,(@eF _ _ _ (@ia _ _ _ _ (@uO _ _ _ _ _ _ _ (@fY _ _ _ _ _ _ _ _ _ uI gP M.m_isinstance tD (@bO _ _ _ _ _ (@cO _ 0 _ _ rfl iD cH cI) (@bO _ _ _ _ _ (@u9 _ _ (.ty "list") _ _ j7 M.m_list tM rfl bi bh) (@cT _) (cg rfl)) (cg rfl)) bf bb (cg rfl) (fT rfl ff)) (@vm _ _ _ _ _ (@rZ _ _ _ _ _ _ _ _ (@um _) (@fY _ _ _ _ _ _ _ _ _ iU kM M.m_len pW (@bO _ _ _ _ _ (@cO _ 0 _ _ rfl iD cH cI) (@cT _) (cg rfl)) aA az (cg rfl) ff) (@cO _ 1 _ _ rfl mI s0 tj) (i8 _)))))),?_⟩
 trivial
 refine⟨_,hv.kd,?_⟩
 cases hv with
 | lst hL hA hz =>
  rename_i a xs ds
  refine⟨_,rfl,_,.inl hL,?_⟩
  rw[hA.len]
  have e:pF n (.lst ds)=decide ((ds.length:Int)=(n:Int)):=decide_eq_decide.mpr ⟨fun z=>by omega,fun z=>by omega⟩
  rw[e] at q
  exact q
 | _=>exact q
theorem Bo (F:Fun K "is_grant" "is_grant" bQ f fd) (M:Mg mg) (bR:Cal P w K mg base CX0 "is_whole" 1 ["thing"] (uS K)):FnOk P w K mg base CX0 2 f fd ["entry","grant"] (x6 K):=by
 refine F.ok qy (fun vs H Q E h=>?_) (fun cdv A outer s H vs Q E hr h=>?_)
 ·obtain⟨v,x,d,t,w,rfl,_⟩:=h
  rfl
 obtain⟨v,x,d,t,w,rfl,ht,hv,q⟩:=h
 refine⟨_,(@eF _ _ _ (@ia _ _ _ _ (@uO _ _ _ _ _ _ _ (@fX _ _ _ _ _ _ _ _ _ _ _ bR hr jj (@bO _ _ _ _ _ (@cO _ 1 _ _ rfl jF gm gn) (@cT _) (cg rfl)) (by decide) ie (cg rfl) ff) (@vm _ _ _ _ _ (@Gq _ _ _ _ _ _ _ _ _ _ _ _ zP zP (@dw _ _ _ _) (@cO _ 1 _ _ rfl jF gm gn) (@gu _ _ _ _ _ _ _ (@ni _) (@cO _ 0 _ _ rfl pG aT aU) (@dw _ _ _ _) (fun _ _=>rfl)) (by with_unfolding_all rfl)))))),?_⟩
 trivial
 refine⟨v,_,rfl,hv.kd,?_⟩
 cases hv with
 | int i =>
  refine⟨true,rfl,?_⟩
  rw[if_pos rfl]
  refine⟨_,rfl,?_⟩
  by_cases h0:0≤i
  ·rw[if_pos h0]
   refine⟨_,ht,_,rfl,_,rfl,_,rfl,?_⟩
   have:tW w (.int i)=decide (i≤w):=by
    show (decide (0≤i) && decide (i≤w))=_
    rw[decide_eq_true h0]
    rfl
   rw[this] at q
   exact q
  ·rw[if_neg h0]
   have:tW w (.int i)=false:=by
    show (decide (0≤i) && decide (i≤w))=_
    rw[decide_eq_false h0]
    rfl
   rw[this] at q
   exact q
 | _ =>
  refine⟨false,rfl,?_⟩
  rw[if_neg (by decide)]
  exact q
theorem zA (F:Fun K "are_places" "are_places" bv f fd) (M:Mg mg) (bR:Cal P w K mg base CX0 "is_whole" 1 ["thing"] (uS K)):FnOk P w K mg base CX0 2 f fd ["some","allowed"] (vJ K):=by
 refine F.ok nU (fun vs H Q E h=>?_) (fun cdv A outer s H vs Q E hr h=>?_)
 ·obtain⟨a,b,us,ds,al,rfl,_⟩:=h
  rfl
 obtain⟨a,b,us,ds,al,rfl,ha,hA,lz,hb,q⟩:=h
 refine⟨_,(@dI _ _ _ _ _ (@nC _ _ _ _ _ _ _ _ (@qT _ _ _ _ (@pV _ _ _ (@fY _ _ _ _ _ _ _ _ _ (tR rfl) kN M.m_all vo (@bO _ _ _ _ _ (@mS _ _ _ _ _ _ _ _ _ _ _ _ _ _ _ rfl (CompOk.make (N':=["allowed","place"]) (ix:=[1]) (nl:=1) (by rfl) (fm1 rfl fm0) (by rfl) (by decide +kernel) rfl (by decide +kernel) rfl (And.intro ⟨rfl,.inl rfl,.inl rfl⟩ True.intro)) (@kL _ _ _ _ (@cO _ 0 _ _ rfl eS mF mG)) (fun _ _ _ _ _=>(@fj _ _ 1 _ (show List.Nodup (["allowed","place"]:List Str) from by decide) rfl (Or.inl rfl) (by first | exact .inl rfl | exact .inr rfl | assumption))) (fun _ _ _ _ _=>(@nk _)) (fun _ _ _ _ _=>(@uO _ _ _ _ _ _ _ (@fX _ _ _ _ _ _ _ _ _ _ _ bR hr rfl (@bO _ _ _ _ _ (@pv _ 1 _ _ (by rfl) (by decreasing_trivial) (by decide) (by decide)) (@cT _) (cg rfl)) (by decide) ie (cg rfl) ff) (@vm _ _ _ _ _ (@rZ _ _ _ _ _ _ _ _ (uZ (K:=K) rfl) (@pv _ 1 _ _ (by rfl) (by decreasing_trivial) (by decide) (by decide)) (@pv _ 0 _ _ (by rfl) (by decreasing_trivial) (by decide) (by decide)) (by with_unfolding_all rfl))))) (by intro _; rfl)) (@cT _) (cg rfl)) dz dy (cg rfl) ff) (sZ rfl))) (@eF _ _ _ (@ia _ _ _ _ (@tY _ _ _ _))) (@m8 _)) (@eF _ _ _ (@ia _ _ _ _ (@rZ _ _ _ _ _ _ _ _ (@um _) (@fY _ _ _ _ _ _ _ _ _ zI gp M.m_len pW (@bO _ _ _ _ _ (@nS _ _ _ _ _ _ _ _ _ (BO rfl) kO M.m_set JM (@bO _ _ _ _ _ (@cO _ 0 _ _ rfl eS mF mG) (@cT _) (cg rfl)) sd r9 (cg rfl) ff) (@cT _) (cg rfl)) aA az (cg rfl) ff) (@fY _ _ _ _ _ _ _ _ _ iU gp M.m_len pW (@bO _ _ _ _ _ (@cO _ 0 _ _ rfl eS mF mG) (@cT _) (cg rfl)) aA az (cg rfl) ff) (i8 _))))),?_⟩
 trivial
 have lus:=hA.len
 refine⟨⟨_,ha⟩,fun D hD=>?_⟩
 obtain⟨Pc,hC⟩:∃ Pc:Nat→St→Hp→Prop,Pc=fun i τ H'=>∃ (z:Option V),H' D=some (.lst (((ds.take i).map (uC al)).map V.bl))∧Same H H'∧τ=[some (.ref b),z]:=⟨_,rfl⟩
 refine mC us Pc ?_ (fun i τ H' _ h=>by rw[hC] at h; obtain⟨_,_,e,_⟩:=h; exact e.seq ha) ?_ ?_
 ·rw[hC]
  exact⟨_,cY,fD hD _,rfl⟩
 ·intro i x τ H' R' hx h next
  rw[hC] at h
  obtain⟨z,d1,e,rfl⟩:=h
  obtain⟨d,hd,hv⟩:=hA.get hx
  have li:=(List.getElem?_eq_some_iff.mp hx).1
  have fin:∀ b':Bool,b'=uC al d→∃ xs,H' D=some (.lst xs)∧xs.length<sizeLine∧R' [some (V.ref b),some x] (upd H' D (.lst (xs++[.bl b']))):=fun b' hb'=>by
   refine⟨_,d1,?_,next _ _ ?_⟩
   ·rw[List.length_map,List.length_map,List.length_take]
    exact Nat.lt_of_lt_of_le (m:=1000) (by omega) (by decide)
   ·rw[hC]
    refine⟨_,?_,fS e hD _,rfl⟩
    rw[cY,List.take_add_one,hd,List.map_append,List.map_append,hb']
    rfl
  trivial
  refine⟨x,_,rfl,(hv.same e).kd,?_⟩
  cases hv with
  | int j =>
   refine⟨true,rfl,?_⟩
   rw[if_pos rfl]
   refine⟨b,_,rfl,.inl (e.seq hb),rfl,vt al,?_⟩
   rw[uN]
   exact fin _ rfl
  | _ =>
   refine⟨false,rfl,?_⟩
   rw[if_neg (by decide)]
   exact fin _ rfl
 intro τ H1 h
 rw[hC] at h
 obtain⟨z,d1,e1,rfl⟩:=h
 clear hC
 rw[lus,List.take_length] at d1
 have ea:((ds.map (uC al)).all id)=ds.all (uC al):=by rw[List.all_map]; rfl
 refine⟨D,rfl,_,SqL.of d1,?_⟩
 rw[ea]
 cases hz:ds.all (uC al) with
 | false =>
  rw[if_pos rfl]
  have:=q _ e1
  unfold qO at this
  rw[hz] at this
  exact this
 | true =>
  rw[if_neg (by decide)]
  have eu:=all_ints hA hz
  have ha1:=e1.seq ha
  rw[eu] at ha1
  refine⟨_,ha1,by rw[List.length_map]; omega,fun l hl=>?_⟩
  obtain⟨s1,s2,s3⟩:=E6 (ds.map intOf)
  refine⟨_,_,cY,?_⟩
  have S2:=fD hl (.set ((ds.map intOf).foldl PySem.SetL.addS (fun _=>false,0)).1 ((ds.map intOf).foldl PySem.SetL.addS (fun _=>false,0)).2)
  refine⟨_,.inl (S2.seq ha1),?_⟩
  have:=q _ (e1.trans S2)
  unfold qO at this
  rw[hz,Bool.true_and] at this
  rw[show (decide (((((ds.map intOf).foldl PySem.SetL.addS (fun _=>false,0)).2:Nat):Int)=((((ds.map intOf).map V.int).length:Nat):Int)))=decide ((ds.map intOf).Nodup) from decide_eq_decide.mpr ⟨fun z=>s3.mp (by rw[List.length_map] at z; omega),fun z=>by rw[s3.mpr z,List.length_map (f:=V.int)]⟩]
  exact this
theorem Di (F:Fun K "is_pair" "is_pair" bN f fd) (M:Mg mg) (bR:Cal P w K mg base CX0 "is_whole" 1 ["thing"] (uS K)):FnOk P w K mg base CX0 2 f fd ["thing"] (yx K):=by
 refine F.ok rD (fun vs H Q E h=>?_) (fun cdv A outer s H vs Q E hr h=>?_)
 ·obtain⟨v,d,rfl,_⟩:=h
  rfl
 obtain⟨v,d,rfl,hv,q⟩:=h
 refine⟨_,(@eF _ _ _ (@ia _ _ _ _ (@uO _ _ _ _ _ _ _ (@fY _ _ _ _ _ _ _ _ _ uI iY M.m_isinstance tD (@bO _ _ _ _ _ (@cO _ 0 _ _ rfl eW cH cI) (@bO _ _ _ _ _ (@u9 _ _ (.ty "tuple") _ _ lA M.m_tuple GW rfl sR sQ) (@cT _) (cg rfl)) (cg rfl)) bf bb (cg rfl) (fT rfl ff)) (@uO _ _ _ _ _ _ _ (@rZ _ _ _ _ _ _ _ _ (@um _) (@fY _ _ _ _ _ _ _ _ _ iU nV M.m_len pW (@bO _ _ _ _ _ (@cO _ 0 _ _ rfl eW cH cI) (@cT _) (cg rfl)) aA az (cg rfl) ff) (@dw _ _ _ _) (i8 _)) (@uO _ _ _ _ _ _ _ (@fX _ _ _ _ _ _ _ _ _ _ _ bR hr jG (@bO _ _ _ _ _ (@gu _ _ _ _ _ _ _ (@ni _) (@cO _ 0 _ _ rfl eW cH cI) (@dw _ _ _ _) (fun _ _=>rfl)) (@cT _) (cg rfl)) (by decide) ie (cg rfl) ff) (@vm _ _ _ _ _ (@rZ _ _ _ _ _ _ _ _ (@JQ _) (@gu _ _ _ _ _ _ _ (@ni _) (@cO _ 0 _ _ rfl eW cH cI) (@dw _ _ _ _) (fun _ _=>rfl)) (@dw _ _ _ _) (i8 _)))))))),?_⟩
 trivial
 refine⟨_,hv.kd,?_⟩
 cases hv with
 | tup hT hA =>
  rename_i a xs ds
  refine⟨_,rfl,_,.inr hT,?_⟩
  rw[hA.len]
  by_cases h2:(ds.length:Int)=2
  ·rw[if_pos h2]
   obtain⟨d1,d2,rfl⟩:∃ d1 d2,ds=[d1,d2]:=by
    rcases ds with _ | ⟨d1,_ | ⟨d2,_ | ⟨d3,ds⟩⟩⟩
    ·simp at h2
    ·simp at h2
    ·exact⟨d1,d2,rfl⟩
    ·simp only [List.length_cons] at h2
     omega
   cases hA with
   | cons h1 r1 =>
    cases r1 with
    | cons h2' r2 =>
     cases r2
     rename_i x1 x2
     refine⟨_,rfl,_,hT,_,rfl,_,_,rfl,h2'.kd,?_⟩
     cases h2' with
     | int i =>
      refine⟨true,rfl,?_⟩
      rw[if_pos rfl]
      exact⟨_,rfl,_,hT,_,rfl,_,rfl,q⟩
     | _ =>
      refine⟨false,rfl,?_⟩
      rw[if_neg (by decide)]
      exact q
  ·rw[if_neg h2]
   have:uM (.tup ds)=false:=by
    rcases ds with _ | ⟨d1,_ | ⟨d2,_ | ⟨d3,ds⟩⟩⟩
    ·rfl
    ·cases d1 <;> rfl
    ·exact absurd rfl h2
    ·cases d2 <;> rfl
   rw[this] at q
   exact q
 | _=>exact q
theorem BJ (F:Fun K "is_route" "is_route" aV f fd) (M:Mg mg) (cB:Cal P w K mg base CX0 "are_places" 2 ["some","allowed"] (vJ K)) (jH:Cal P w K mg base CX0 "is_pair" 2 ["thing"] (yx K)):FnOk P w K mg base CX0 3 f fd ["entry","grant","route"] (xQ K):=by
 refine F.ok qz (fun vs H Q E h=>?_) (fun cdv A outer s H vs Q E hr h=>?_)
 ·obtain⟨v,d,t,q,ps,w,g,rfl,_⟩:=h
  rfl
 obtain⟨v,d,t,q',ps,w,g,rfl,ht,hq,hv,q⟩:=h
 refine⟨_,(@dI _ _ _ _ _ (@nC _ _ _ _ _ _ _ _ (@PW.pt _ _ _ (@Dv _ _ _ _ _ _ _ (@qT _ _ _ _ (@pV _ _ _ (@fY _ _ _ _ _ _ _ _ _ uI iE M.m_isinstance tD (@bO _ _ _ _ _ (@cO _ 2 _ _ rfl dX dJ dL) (@bO _ _ _ _ _ (@u9 _ _ (.ty "list") _ _ lB M.m_list tM rfl bi bh) (@cT _) (cg rfl)) (cg rfl)) bf bb (cg rfl) (fT rfl ff)) (sZ rfl))) (@AR _ _ _ _ (@qT _ _ _ _ (@pV _ _ _ (@fY _ _ _ _ _ _ _ _ _ (tR rfl) mJ M.m_all vo (@bO _ _ _ _ _ (@mS _ _ _ _ _ _ _ _ _ _ _ _ _ _ _ rfl (CompOk.make (N':=["pair"]) (ix:=[]) (nl:=1) (by rfl) fm0 (by rfl) (by decide +kernel) rfl (by decide +kernel) rfl True.intro) (@kL _ _ _ _ (@cO _ 2 _ _ rfl dX dJ dL)) (fun _ _ _ _ _=>(@fj _ _ 0 _ (show List.Nodup (["pair"]:List Str) from by decide) rfl (Or.inl rfl) (by first | exact .inl rfl | exact .inr rfl | assumption))) (fun _ _ _ _ _=>(@nk _)) (fun _ _ _ _ _=>(@fX _ _ _ _ _ _ _ _ _ _ _ jH hr rfl (@bO _ _ _ _ _ (@pv _ 0 _ _ (by rfl) (by decreasing_trivial) (by decide) (by decide)) (@cT _) (cg rfl)) (by decide) rC (cg rfl) ff)) (by intro _; rfl)) (@cT _) (cg rfl)) dz dy (cg rfl) ff) (sZ rfl)))))) (@eF _ _ _ (@ia _ _ _ _ (@tY _ _ _ _))) (@m8 _)) (@dI _ _ _ _ _ (@nC _ _ _ _ _ _ _ _ (@qT _ _ _ _ (@pV _ _ _ (@fX _ _ _ _ _ _ _ _ _ _ _ cB hr iF (@bO _ _ _ _ _ (@mS _ _ _ _ _ _ _ _ _ _ _ _ _ _ _ rfl (CompOk.make (N':=["pair"]) (ix:=[]) (nl:=1) (by rfl) fm0 (by rfl) (by decide +kernel) rfl (by decide +kernel) rfl True.intro) (@kL _ _ _ _ (@cO _ 2 _ _ rfl dX dJ dL)) (fun _ _ _ _ _=>(@fj _ _ 0 _ (show List.Nodup (["pair"]:List Str) from by decide) rfl (Or.inl rfl) (by first | exact .inl rfl | exact .inr rfl | assumption))) (fun _ _ _ _ _=>(@nk _)) (fun _ _ _ _ _=>(@gu _ _ _ _ _ _ _ (wM (K:=K) rfl) (@pv _ 0 _ _ (by rfl) (by decreasing_trivial) (by decide) (by decide)) (@dw _ _ _ _) (fun _ _=>rfl))) (by intro _; rfl)) (@bO _ _ _ _ _ (@gu _ _ _ _ _ _ _ (@ni _) (@cO _ 0 _ _ rfl pH aT aU) (@dw _ _ _ _) (fun _ _=>rfl)) (@cT _) (cg rfl)) (cg rfl)) (by decide) fA (cg rfl) (fT rfl ff)) (sZ rfl))) (@eF _ _ _ (@ia _ _ _ _ (@tY _ _ _ _))) (@m8 _)) (@eF _ _ _ (@ia _ _ _ _ (@rZ _ _ _ _ _ _ _ _ (@um _) (@fY _ _ _ _ _ _ _ _ _ (uw rfl) mK M.m_sum wO (@bO _ _ _ _ _ (@mS _ _ _ _ _ _ _ _ _ _ _ _ _ _ _ rfl (CompOk.make (N':=["pair"]) (ix:=[]) (nl:=1) (by rfl) fm0 (by rfl) (by decide +kernel) rfl (by decide +kernel) rfl True.intro) (@kL _ _ _ _ (@cO _ 2 _ _ rfl dX dJ dL)) (fun _ _ _ _ _=>(@fj _ _ 0 _ (show List.Nodup (["pair"]:List Str) from by decide) rfl (Or.inl rfl) (by first | exact .inl rfl | exact .inr rfl | assumption))) (fun _ _ _ _ _=>(@nk _)) (fun _ _ _ _ _=>(@gu _ _ _ _ _ _ _ (wM (K:=K) rfl) (@pv _ 0 _ _ (by rfl) (by decreasing_trivial) (by decide) (by decide)) (@dw _ _ _ _) (fun _ _=>rfl))) (by intro _; rfl)) (@cT _) (cg rfl)) dR dQ (cg rfl) ff) (@cO _ 1 _ _ rfl pI gm gn) (i8 _)))))),?_⟩
 trivial
 refine⟨_,hv.kd,?_⟩
 cases hv with
 | lst hL hA hz =>
  rename_i a xs ds
  rw[if_neg (fun z:m9 (knD (Dt.lst ds)) Kn.lst=false=>by cases z)]
  have lxs:=hA.len
  refine⟨_,rfl,⟨_,hL⟩,fun D hD=>?_⟩
  obtain⟨Pc,hC⟩:∃ Pc:Nat→St→Hp→Prop,Pc=fun i τ H'=>∃ (z:Option V),H' D=some (.lst (((ds.take i).map uM).map V.bl))∧Same H H'∧τ=[z]:=⟨_,rfl⟩
  refine mC xs Pc ?_ (fun i τ H' _ h=>by rw[hC] at h; obtain⟨_,_,e,_⟩:=h; exact e.seq hL) ?_ ?_
  ·rw[hC]
   exact⟨_,cY,fD hD _,rfl⟩
  ·intro i x τ H' R' hx h next
   rw[hC] at h
   obtain⟨z,d1,e,rfl⟩:=h
   obtain⟨d,hd,hv⟩:=hA.get hx
   have li:=(List.getElem?_eq_some_iff.mp hx).1
   trivial
   refine⟨x,d,rfl,hv.same e,_,d1,?_,next _ _ ?_⟩
   ·rw[List.length_map,List.length_map,List.length_take]
    exact Nat.lt_of_lt_of_le (m:=1000) (by omega) (by decide)
   ·rw[hC]
    refine⟨_,?_,fS e hD _,rfl⟩
    rw[cY,List.take_add_one,hd,List.map_append,List.map_append]
    rfl
  intro τ H1 h
  rw[hC] at h
  obtain⟨z,d1,e1,rfl⟩:=h
  clear hC
  rw[lxs,List.take_length] at d1
  have ea:((ds.map uM).all id)=ds.all uM:=by rw[List.all_map]; rfl
  refine⟨D,rfl,_,SqL.of d1,?_⟩
  rw[ea]
  cases hz2:ds.all uM with
  | false =>
   rw[if_pos rfl]
   have:=q _ e1
   rw[uA] at this
   rw[hz2] at this
   exact this
  | true =>
   rw[if_neg (by decide)]
   have all2:=List.all_eq_true.mp hz2
   refine⟨_,rfl,⟨_,e1.seq hL⟩,fun D2 hD2=>?_⟩
   obtain⟨Pc,hC⟩:∃ Pc:Nat→St→Hp→Prop,Pc=fun i τ H'=>∃ (z:Option V) (ws:List V),H' D2=some (.lst ws)∧RpAll K H ws ((ds.take i).map t7)∧Same H1 H'∧τ=[z]:=⟨_,rfl⟩
   refine mC xs Pc ?_ (fun i τ H' _ h=>by rw[hC] at h; obtain⟨_,_,_,_,e,_⟩:=h; exact (e1.trans e).seq hL) ?_ ?_
   ·rw[hC]
    exact⟨_,[],cY,.nil,fD hD2 _,rfl⟩
   ·intro i x τ H' R' hx h next
    rw[hC] at h
    obtain⟨z,ws,d1,hw,e,rfl⟩:=h
    obtain⟨d,hd,hv⟩:=hA.get hx
    have li:=(List.getElem?_eq_some_iff.mp hx).1
    obtain⟨tt,x1,i1,rfl,hT,hf,_,_⟩:=Ci hv (all2 d (List.mem_of_getElem? hd))
    have lw:=hw.len
    rw[List.length_map,List.length_take] at lw
    trivial
    refine⟨_,Same.tup (e1.trans e) hT,_,rfl,_,d1,Nat.lt_of_lt_of_le (m:=1000) (by omega) (by decide),next _ _ ?_⟩
    rw[hC]
    refine⟨_,_,cY,?_,fS e hD2 _,rfl⟩
    rw[List.take_add_one,hd,List.map_append]
    exact hw.snoc hf
   intro τ H2 h
   rw[hC] at h
   obtain⟨z,ws,d2,hw,e2,rfl⟩:=h
   clear hC
   rw[lxs,List.take_length] at hw
   have e12:=e1.trans e2
   refine⟨_,Same.tup e12 ht,_,rfl,D2,q',ws,ds.map t7,ps.map fun j:Nat=>(j:Int),rfl,SqL.of d2,hw.same e12,by rw[List.length_map]; exact hz,by rw[List.map_map]; exact e12.seq hq,fun H3 e3=>⟨_,rfl,?_⟩⟩
   cases hz3:qO (ps.map fun j:Nat=>(j:Int)) (ds.map t7) with
   | false =>
    rw[if_pos rfl]
    have:=q _ (e12.trans e3)
    rw[uA] at this
    rw[hz2,hz3] at this
    exact this
   | true =>
    rw[if_neg (by decide)]
    have e13:=e12.trans e3
    refine⟨_,rfl,⟨_,e13.seq hL⟩,fun D3 hD3=>?_⟩
    obtain⟨Pc,hC⟩:∃ Pc:Nat→St→Hp→Prop,Pc=fun i τ H'=>∃ (z:Option V),H' D3=some (.lst (((ds.take i).map xW).map V.int))∧Same H3 H'∧τ=[z]:=⟨_,rfl⟩
    refine mC xs Pc ?_ (fun i τ H' _ h=>by rw[hC] at h; obtain⟨_,_,e,_⟩:=h; exact (e13.trans e).seq hL) ?_ ?_
    ·rw[hC]
     exact⟨_,cY,fD hD3 _,rfl⟩
    ·intro i x τ H' R' hx h next
     rw[hC] at h
     obtain⟨z,d1,e,rfl⟩:=h
     obtain⟨d,hd,hv⟩:=hA.get hx
     have li:=(List.getElem?_eq_some_iff.mp hx).1
     obtain⟨tt,x1,i1,rfl,hT,hf,hs,_⟩:=Ci hv (all2 d (List.mem_of_getElem? hd))
     trivial
     refine⟨_,Same.tup (e13.trans e) hT,_,rfl,_,d1,?_,next _ _ ?_⟩
     ·rw[List.length_map,List.length_map,List.length_take]
      exact Nat.lt_of_lt_of_le (m:=1000) (by omega) (by decide)
     ·rw[hC]
      refine⟨_,?_,fS e hD3 _,rfl⟩
      rw[cY,List.take_add_one,hd,List.map_append,List.map_append,← hs]
      rfl
    intro τ H4 h
    rw[hC] at h
    obtain⟨z,d4,e4,rfl⟩:=h
    clear hC
    rw[lxs,List.take_length] at d4
    refine⟨D3,rfl,_,SqL.of d4,?_⟩
    have:=q _ (e13.trans e4)
    rw[uA] at this
    rw[hz2,hz3] at this
    exact this
 | _=>exact q _ (fun _ _ h=>h)
end
end MyT
namespace MyU
open My MyB MyC MyD MyE MyF MyG MyS MyI MyJ MyK MyT PySem L2
def top (i:Nat):Stmt:=PySem.Challenge.pw_tariffgate_k66_said_otherwise.main.body.getD i (.Pass ⟨0,0,0,0⟩)
theorem fm:(("routes":Str) == ("__debug__":Str))=false:=by decide
theorem fo:(("routes":Str) == ("__classdict__":Str))=false:=by decide
theorem sU:(("total":Str) == ("__debug__":Str))=false:=by decide
theorem sV:(("total":Str) == ("__classdict__":Str))=false:=by decide
theorem j8:(("amount_through":Str) == ("__debug__":Str))=false:=by decide
theorem iG:(("cut":Str) == ("__debug__":Str))=false:=by decide
theorem iH:(("cut":Str) == ("__classdict__":Str))=false:=by decide
theorem cJ:(("granted":Str) == ("__debug__":Str))=false:=by decide
theorem cK:(("granted":Str) == ("__classdict__":Str))=false:=by decide
theorem sf:(("inside":Str) == ("__debug__":Str))=false:=by decide
theorem sj:(("inside":Str) == ("__classdict__":Str))=false:=by decide
theorem jI:(("is_within":Str) == ("__debug__":Str))=false:=by decide
theorem sk:(("is_cut":Str) == ("__debug__":Str))=false:=by decide
abbrev aq:Stmt:=top 8
theorem cw:FnScope ["routes","place","total","route"] ["routes","place"] (defScope aq):=⟨rfl,rfl,rfl,by decide +kernel,rfl,by decide +kernel,by decide +kernel⟩
theorem jJ:Vis (defScope aq) "routes":=by decreasing_trivial
theorem jK:Vis (defScope aq) "total":=by decreasing_trivial
theorem fq:Loc (defScope aq) "total":=by first | exact Or.inl rfl | exact Or.inr rfl
theorem jL:Vis (defScope aq) "route":=by decreasing_trivial
theorem jM:Loc (defScope aq) "route":=by first | exact Or.inl rfl | exact Or.inr rfl
theorem iZ:(defScope aq).names.lookup ("sum":Str)=some .globalImplicit:=by rfl
abbrev aW:Stmt:=top 9
theorem kP:FnScope ["rooms","routes"] ["rooms","routes"] (defScope aW):=⟨rfl,rfl,rfl,by decide +kernel,rfl,by decide +kernel,by decide +kernel⟩
theorem fL:Vis (defScope aW) "rooms":=by decreasing_trivial
theorem jk:(defScope aW).names.lookup ("all":Str)=some .globalImplicit:=by rfl
theorem cV:(defScope aW).names.lookup ("enumerate":Str)=some .globalImplicit:=by rfl
abbrev bT:Stmt:=top 10
theorem pJ:FnScope ["entry","cut"] ["entry","cut"] (defScope bT):=⟨rfl,rfl,rfl,by decide +kernel,rfl,by decide +kernel,by decide +kernel⟩
theorem nX:Vis (defScope bT) "entry":=by decreasing_trivial
theorem lC:(defScope bT).names.lookup ("all":Str)=some .globalImplicit:=by rfl
abbrev aH:Stmt:=top 11
theorem nE:FnScope ["rooms","line","granted","cut","inside"] ["rooms","line","granted","cut"] (defScope aH):=⟨rfl,rfl,rfl,by decide +kernel,rfl,by decide +kernel,by decide +kernel⟩
theorem rF:Vis (defScope aH) "rooms":=by decreasing_trivial
theorem lD:Vis (defScope aH) "line":=by decreasing_trivial
theorem rG:Vis (defScope aH) "granted":=by decreasing_trivial
theorem fP:Vis (defScope aH) "cut":=by decreasing_trivial
theorem rJ:Vis (defScope aH) "inside":=by decreasing_trivial
theorem rK:Loc (defScope aH) "inside":=by first | exact Or.inl rfl | exact Or.inr rfl
theorem jl:(defScope aH).names.lookup ("isinstance":Str)=some .globalImplicit:=by rfl
theorem jb:(defScope aH).names.lookup ("list":Str)=some .globalImplicit:=by rfl
theorem jm:(defScope aH).names.lookup ("are_places":Str)=some .globalImplicit:=by rfl
theorem mL:(defScope aH).names.lookup ("range":Str)=some .globalImplicit:=by rfl
theorem pK:(defScope aH).names.lookup ("len":Str)=some .globalImplicit:=by rfl
theorem jN:(defScope aH).names.lookup ("is_within":Str)=some .globalImplicit:=by rfl
theorem jO:(defScope aH).names.lookup ("sum":Str)=some .globalImplicit:=by rfl
theorem pL:(defScope aH).names.lookup ("zip":Str)=some .globalImplicit:=by rfl
abbrev bw:Stmt:=top 12
theorem pM:FnScope ["rooms","line","granted","cut"] ["rooms","line","granted","cut"] (defScope bw):=⟨rfl,rfl,rfl,by decide +kernel,rfl,by decide +kernel,by decide +kernel⟩
theorem nY:Vis (defScope bw) "rooms":=by decreasing_trivial
theorem jc:Vis (defScope bw) "line":=by decreasing_trivial
theorem jd:Vis (defScope bw) "granted":=by decreasing_trivial
theorem nZ:Vis (defScope bw) "cut":=by decreasing_trivial
theorem jP:(defScope bw).names.lookup ("is_cut":Str)=some .globalImplicit:=by rfl
def zT (j:Int):Dt→Int
 | .lst ds=>((ds.filter fun p=>decide (intOf (t7 p)=j)).map xW).sum
 | _=>0
def thr (rs:List Dt) (j:Int):Int:=(rs.map (zT j)).sum
def JW (d:Dt):Prop:=∃ i a,d=.tup [.int i,.int a]
def RtI (d:Dt):Prop:=∃ ds,d=.lst ds∧∀ p∈ds,JW p
def wZ (rooms:List Int) (rs:List Dt):Bool:=(List.range rooms.length).all fun j=>decide (thr rs (j:Int)≤rooms.getD j 0)
def rgI (m:Nat):List Int:=(List.range m).map fun j:Nat=>(j:Int)
def zL (rooms ns:List Int):Int:=(ns.map fun x=>rooms.getD x.toNat 0).sum
def Gg (rooms:List Int) (L:List En) (G:List Int):Dt→Bool
 | .lst ds=>qO (rgI rooms.length) ds && ((pl L (L.length-1)).all (inS (ds.map intOf)) && decide (sumG L (fun e=>G.getD e 0) (inS (ds.map intOf)) L.length=zL rooms (ds.map intOf)))
 | _=>false
def uU (rooms:List Int) (L:List En) (G:List Int) (d:Dt):Bool:=decide (G.getD (L.length-1) 0=wt L (L.length-1)) || Gg rooms L G d
theorem xC (rooms:List Int) (L:List En) (G:List Int) (ds:List Dt):Gg rooms L G (.lst ds)=(qO (rgI rooms.length) ds && ((pl L (L.length-1)).all (inS (ds.map intOf)) && decide (sumG L (fun e=>G.getD e 0) (inS (ds.map intOf)) L.length=zL rooms (ds.map intOf)))):=rfl
def wg (K:PySem.W.Frag):Sp:=fun vs H Q _=>∃ (a:Addr) (us:List V) (rs:List Dt) (j:Int),vs=[.ref a,.int j]∧SqL K H a us∧RpAll K H us rs∧(∀ d∈rs,RtI d)∧∀ H',Same H H'→Q (.int (thr rs j)) H'
def AG (K:PySem.W.Frag):Sp:=fun vs H Q _=>∃ (rm a:Addr) (rooms:List Int) (us:List V) (rs:List Dt),vs=[.ref rm,.ref a]∧SqL K H rm (rooms.map V.int)∧rooms.length≤60∧SqL K H a us∧RpAll K H us rs∧(∀ d∈rs,RtI d)∧∀ H',Same H H'→Q (.bl (wZ rooms rs)) H'
def wI (K:PySem.W.Frag):Sp:=fun vs H Q _=>∃ (t q c:Addr) (x:V) (ps:List Nat) (ns:List Int),vs=[.ref t,.ref c]∧SqT K H t [.ref q,x]∧SqL K H q (ps.map fun j:Nat=>V.int (j:Int))∧ps.length≤64∧SqL K H c (ns.map V.int)∧∀ H',Same H H'→Q (.bl (ps.all (inS ns))) H'
def AF (K:PySem.W.Frag):Sp:=fun vs H Q _=>∃ (rm l g:Addr) (v:V) (d:Dt) (rooms G:List Int) (L:List En),vs=[.ref rm,.ref l,.ref g,v]∧SqL K H rm (rooms.map V.int)∧LnAt K H l L∧LnOk rooms.length L∧0<L.length∧SqL K H g (G.map V.int)∧G.length=L.length∧Rp K H v d∧∀ H',Same H H'→Q (.bl (Gg rooms L G d)) H'
def xA (K:PySem.W.Frag):Sp:=fun vs H Q _=>∃ (rm l g:Addr) (v:V) (d:Dt) (rooms G:List Int) (L:List En),vs=[.ref rm,.ref l,.ref g,v]∧SqL K H rm (rooms.map V.int)∧LnAt K H l L∧LnOk rooms.length L∧0<L.length∧SqL K H g (G.map V.int)∧G.length=L.length∧Rp K H v d∧∀ H',Same H H'→Q (.bl (uU rooms L G d)) H'
theorem vV {α:Type} {xs:List α} {x:α} (h:0<xs.length) (hx:xs[xs.length-1]?=some x):atI xs (-1)=some x:=by
 unfold atI ixN
 rw[if_neg (by decide),if_pos (by omega)]
 show xs[((-1:Int)+(xs.length:Int)).toNat]?=some x
 rw[show ((-1:Int)+(xs.length:Int)).toNat=xs.length-1 by omega]
 exact hx
section
variable {P:Program} {w:World} {K:PySem.W.Frag} {mg:Str→Option Value} {base:Heap} {f:Addr} {fd:FuncData}
theorem xh (F:Fun K "amount_through" "amount_through" aq f fd) (M:Mg mg):FnOk P w K mg base CX0 1 f fd ["routes","place"] (wg K):=by
 refine F.ok cw (fun vs H Q E h=>?_) (fun cdv A outer s H vs Q E hr h=>?_)
 ·obtain⟨a,us,rs,j,rfl,_⟩:=h
  rfl
 obtain⟨a,us,rs,j,rfl,ha,hA,ok,q⟩:=h
 refine⟨_,(@dI _ _ _ _ _ (@ic _ _ 2 _ _ _ _ cw.nd rfl fq (@dw _ _ _ _) (fZ rfl) (.inl rfl)) (@dI _ _ _ _ _ (@pC _ _ _ _ _ _ _ _ PassesOwn.never rfl (@kL _ _ _ _ (@cO _ 0 _ _ rfl jJ fm fo)) (@fj _ _ 3 _ cw.nd rfl jM (.inl rfl)) (@eF _ _ _ (@DJ _ _ 2 _ _ _ _ _ _ cw.nd rfl fq (@fY _ _ _ _ _ _ _ _ _ (uw rfl) iZ M.m_sum wO (@bO _ _ _ _ _ (@mS _ _ _ _ _ _ _ _ _ _ _ _ _ _ _ rfl (CompOk.make (N':=["place","pair"]) (ix:=[1]) (nl:=1) (by rfl) (fm1 rfl fm0) (by rfl) (by decide +kernel) rfl (by decide +kernel) rfl (And.intro ⟨rfl,.inl rfl,.inl rfl⟩ True.intro)) (@kL _ _ _ _ (@cO _ 3 _ _ rfl jL dJ dL)) (fun _ _ _ _ _=>(@fj _ _ 1 _ (show List.Nodup (["place","pair"]:List Str) from by decide) rfl (Or.inl rfl) (by first | exact .inl rfl | exact .inr rfl | assumption))) (fun _ _ _ _ _=>(@ux _ _ _ (@kB _ _ _ _ _ _ _ _ (@um _) (@gu _ _ _ _ _ _ _ (wM (K:=K) rfl) (@pv _ 1 _ _ (by rfl) (by decreasing_trivial) (by decide) (by decide)) (@dw _ _ _ _) (fun _ _=>rfl)) (@pv _ 0 _ _ (by rfl) (by decreasing_trivial) (by decide) (by decide)) (i8 _)))) (fun _ _ _ _ _=>(@gu _ _ _ _ _ _ _ (wM (K:=K) rfl) (@pv _ 1 _ _ (by rfl) (by decreasing_trivial) (by decide) (by decide)) (@dw _ _ _ _) (fun _ _=>rfl))) (by intro _; rfl)) (@cT _) (cg rfl)) dR dQ (cg rfl) ff) EZ (.inl rfl))) (by intro _; rfl)) (@eF _ _ _ (@ia _ _ _ _ (@cO _ 2 _ _ rfl jK sU sV))))),?_⟩
 trivial
 refine⟨⟨_,ha⟩,?_⟩
 obtain⟨Pv,hP⟩:∃ Pv:Nat→St→Hp→Prop,Pv=fun i σ H'=>∃ (z:Option V) (n:Int),n=((rs.take i).map (zT j)).sum∧Same H H'∧σ=[some (.ref a),some (.int j),some (.int n),z]:=⟨_,rfl⟩
 refine sy us Pv ?_ (fun i σ H' _ h=>by rw[hP] at h; obtain⟨_,_,_,e,_⟩:=h; exact e.seq ha) ?_ ?_
 ·rw[hP]
  exact⟨_,_,rfl,fun _ _ h=>h,rfl⟩
 ·intro i v σ H1 hv h
  rw[hP] at h
  obtain⟨z,n,en,e1,rfl⟩:=h
  obtain⟨d,hd,hr'⟩:=hA.get hv
  obtain⟨ds,rfl,hp⟩:=ok d (List.mem_of_getElem? hd)
  cases hr' with
  | lst hL hB hz =>
   rename_i b xs
   have lxs:=hB.len
   trivial
   refine⟨⟨_,e1.seq hL⟩,fun D hD=>?_⟩
   obtain⟨Pc,hC⟩:∃ Pc:Nat→St→Hp→Prop,Pc=fun i τ H'=>∃ (z:Option V),H' D=some (.lst ((((ds.take i).filter fun p=>decide (intOf (t7 p)=j)).map xW).map V.int))∧Same H1 H'∧τ=[some (.int j),z]:=⟨_,rfl⟩
   refine mC xs Pc ?_ (fun i τ H' _ h=>by rw[hC] at h; obtain⟨_,_,e,_⟩:=h; exact (e1.trans e).seq hL) ?_ ?_
   ·rw[hC]
    exact⟨_,cY,fD hD _,rfl⟩
   ·intro i2 x τ H' R' hx h next
    rw[hC] at h
    obtain⟨z,d1,e,rfl⟩:=h
    obtain⟨p,hp1,hv2⟩:=hB.get hx
    have li:=(List.getElem?_eq_some_iff.mp hx).1
    obtain⟨i3,a3,rfl⟩:=hp p (List.mem_of_getElem? hp1)
    have ep:(ds.take (i2+1)).filter (fun p=>decide (intOf (t7 p)=j))=(ds.take i2).filter (fun p=>decide (intOf (t7 p)=j))++[Dt.tup [.int i3,.int a3]].filter (fun p=>decide (intOf (t7 p)=j)):=by
     rw[List.take_add_one,hp1,List.filter_append]
     rfl
    have lf:((ds.take i2).filter fun p=>decide (intOf (t7 p)=j)).length≤500:=by
     refine Nat.le_trans (List.length_filter_le ..) ?_
     rw[List.length_take]
     omega
    cases hv2 with
    | tup hT hR =>
     cases hR with
     | cons h1 r1 =>
      cases r1 with
      | cons h2 r2 =>
       cases r2
       cases h1
       cases h2
       have hT':=Same.tup (e1.trans e) hT
       trivial
       refine⟨_,hT',_,rfl,?_⟩
       refine⟨rfl,?_⟩
       by_cases hz:i3=j
       ·rw[if_pos (by rw[hz])]
        refine⟨_,hT',_,rfl,_,d1,by rw[List.length_map,List.length_map]; exact Nat.lt_of_le_of_lt lf (by decide),next _ _ ?_⟩
        rw[hC]
        refine⟨_,?_,fS e hD _,rfl⟩
        rw[cY,ep,List.filter_cons_of_pos (by rw[← hz]; exact decide_eq_true rfl),List.filter_nil,List.map_append,List.map_append]
        rfl
       ·rw[if_neg (fun y=>hz (V.int.inj y))]
        refine next _ _ ?_
        rw[hC]
        refine⟨_,?_,e,rfl⟩
        rw[ep,List.filter_cons_of_neg (p:=fun p=>decide (intOf (t7 p)=j)) (a:=Dt.tup [.int i3,.int a3]) (fun y=>hz (of_decide_eq_true y)),List.filter_nil,List.append_nil]
        exact d1
   intro τ H2 h
   rw[hC] at h
   obtain⟨z2,d2,e2,rfl⟩:=h
   rw[lxs,List.take_length] at d2
   refine⟨D,rfl,_,SqL.of d2,?_⟩
   rw[hP]
   refine⟨_,_,?_,e1.trans e2,rfl⟩
   rw[List.take_add_one,hd,List.map_append,List.sum_append,en]
   show _=_+(zT j (.lst ds)+0)
   rw[Int.add_zero]
   rfl
 ·intro σ H1 h
  rw[hP] at h
  obtain⟨z,n,en,e1,rfl⟩:=h
  rw[hA.len,List.take_length] at en
  trivial
  rw[en]
  exact q _ e1
theorem xZ (F:Fun K "keep_to_rooms" "keep_to_rooms" aW f fd) (M:Mg mg) (dM:Cal P w K mg base CX0 "amount_through" 1 ["routes","place"] (wg K)):FnOk P w K mg base CX0 2 f fd ["rooms","routes"] (AG K):=by
 refine F.ok kP (fun vs H Q E h=>?_) (fun cdv A outer s H vs Q E hr h=>?_)
 ·obtain⟨rm,a,rooms,us,rs,rfl,_⟩:=h
  rfl
 obtain⟨rm,a,rooms,us,rs,rfl,hrm,m60,ha,hA,ok,q⟩:=h
 refine⟨_,(@eF _ _ _ (@ia _ _ _ _ (@fY _ _ _ _ _ _ _ _ _ (tR rfl) jk M.m_all vo (@bO _ _ _ _ _ (@mS _ _ _ _ _ _ _ _ _ _ _ _ _ _ _ rfl (CompOk.make (N':=["routes","place","room"]) (ix:=[1]) (nl:=2) (by rfl) (fm1 rfl fm0) (by rfl) (by decide +kernel) rfl (by decide +kernel) rfl (And.intro ⟨rfl,.inl rfl,.inl rfl⟩ True.intro)) (@CA _ _ _ _ _ (@vZ _ _ _ _ _ _ _ _ cV M.m_enumerate (@bO _ _ _ _ _ (@cO _ 0 _ _ rfl fL cD cE) (@cT _) (cg rfl)) (by rfl)) (@xV _ _ _ _ _ _ _ _ cV M.m_enumerate (@bO _ _ _ _ _ (@cO _ 0 _ _ rfl fL cD cE) (@cT _) (cg rfl)) (by rfl))) (fun _ _ _ _ _=>(@uv _ K _ _ 2 _ _ rfl rfl (@gS _ _ _ _ _ (@fj _ _ 1 _ (show List.Nodup (["routes","place","room"]:List Str) from by decide) rfl (Or.inl rfl) (by first | exact .inl rfl | exact .inr rfl | assumption)) (@gS _ _ _ _ _ (@fj _ _ 2 _ (show List.Nodup (["routes","place","room"]:List Str) from by decide) rfl (Or.inl rfl) (by first | exact .inl rfl | exact .inr rfl | assumption)) (@oW _) (by rfl)) (by rfl)) (by rfl) (by rfl))) (fun _ _ _ _ _=>(@nk _)) (fun _ _ _ _ _=>(@rZ _ _ _ _ _ _ _ _ zP (@fX _ _ _ _ _ _ _ _ _ _ _ dM hr rfl (@bO _ _ _ _ _ (@pv _ 0 _ _ (by rfl) (by decreasing_trivial) (by decide) (by decide)) (@bO _ _ _ _ _ (@pv _ 1 _ _ (by rfl) (by decreasing_trivial) (by decide) (by decide)) (@cT _) (cg rfl)) (cg rfl)) (by decide) j8 (cg rfl) (fT rfl ff)) (@pv _ 2 _ _ (by rfl) (by decreasing_trivial) (by decide) (by decide)) (i8 _))) (by intro _; rfl)) (@cT _) (cg rfl)) dz dy (cg rfl) ff))),?_⟩
 trivial
 obtain⟨Pc,hC⟩:∃ Pc:Addr→Nat→St→Hp→Prop,Pc=fun D i τ H'=>∃ (y z:Option V),H' D=some (.lst (((List.range i).map fun j:Nat=>decide (thr rs (j:Int)≤rooms.getD j 0)).map V.bl))∧Same H H'∧τ=[some (.ref a),y,z]:=⟨_,rfl⟩
 refine xw (rooms.map V.int) (.inl hrm) _ Pc ?_ (fun D i τ H' hD h=>by rw[hC] at h; obtain⟨y,z,_,e,_⟩:=h; exact e) ?_ ?_
 ·intro D hD
  rw[hC]
  exact⟨_,_,cY,fD hD _,rfl⟩
 ·intro D i x T τ H' R' hD hx h hT next
  rw[hC] at h
  obtain⟨y,z,d1,e,rfl⟩:=h
  rw[List.getElem?_map] at hx
  obtain⟨o,ho,rfl⟩:=Option.map_eq_some_iff.mp hx
  have li:=(List.getElem?_eq_some_iff.mp ho).1
  have eo:rooms.getD i 0=o:=by rw[List.getD,ho]; rfl
  obtain⟨H2,g2,S2,T2⟩:=ki (K:=K) hT [.int i,.int o]
  rw[← g2]
  clear g2
  trivial
  refine⟨_,T2,rfl,?_⟩
  trivial
  refine⟨a,us,rs,_,rfl,(e.trans S2).seq ha,hA.same (e.trans S2),ok,fun H3 e3=>⟨_,rfl,_,(S2.trans e3) _ _ d1,?_,next _ _ ?_⟩⟩
  ·rw[List.length_map,List.length_map,List.length_range]
   exact Nat.lt_of_lt_of_le (m:=1000) (by omega) (by decide)
  ·rw[hC]
   refine⟨_,_,?_,fS ((e.trans S2).trans e3) hD _,rfl⟩
   rw[cY,List.range_succ,List.map_append,List.map_append,← eo]
   rfl
 ·intro D τ H1 hD h
  rw[hC] at h
  obtain⟨y,z,d1,e1,rfl⟩:=h
  rw[List.length_map] at d1
  refine⟨D,rfl,_,SqL.of d1,?_⟩
  rw[List.all_map]
  exact q _ e1
theorem AU (F:Fun K "is_within" "is_within" bT f fd) (M:Mg mg):FnOk P w K mg base CX0 1 f fd ["entry","cut"] (wI K):=by
 refine F.ok pJ (fun vs H Q E h=>?_) (fun cdv A outer s H vs Q E hr h=>?_)
 ·obtain⟨t,q,c,x,ps,ns,rfl,_⟩:=h
  rfl
 obtain⟨t,q',c,x,ps,ns,rfl,ht,hq,l64,hc,q⟩:=h
 refine⟨_,(@eF _ _ _ (@ia _ _ _ _ (@fY _ _ _ _ _ _ _ _ _ (tR rfl) lC M.m_all vo (@bO _ _ _ _ _ (@mS _ _ _ _ _ _ _ _ _ _ _ _ _ _ _ rfl (CompOk.make (N':=["cut","place"]) (ix:=[1]) (nl:=1) (by rfl) (fm1 rfl fm0) (by rfl) (by decide +kernel) rfl (by decide +kernel) rfl (And.intro ⟨rfl,.inl rfl,.inl rfl⟩ True.intro)) (@kL _ _ _ _ (@gu _ _ _ _ _ _ _ (@ni _) (@cO _ 0 _ _ rfl nX aT aU) (@dw _ _ _ _) (fun _ _=>rfl))) (fun _ _ _ _ _=>(@fj _ _ 1 _ (show List.Nodup (["cut","place"]:List Str) from by decide) rfl (Or.inl rfl) (by first | exact .inl rfl | exact .inr rfl | assumption))) (fun _ _ _ _ _=>(@nk _)) (fun _ _ _ _ _=>(@rZ _ _ _ _ _ _ _ _ (uZ (K:=K) rfl) (@pv _ 1 _ _ (by rfl) (by decreasing_trivial) (by decide) (by decide)) (@pv _ 0 _ _ (by rfl) (by decreasing_trivial) (by decide) (by decide)) (by with_unfolding_all rfl))) (by intro _; rfl)) (@cT _) (cg rfl)) dz dy (cg rfl) ff))),?_⟩
 trivial
 refine⟨_,ht,_,rfl,_,rfl,⟨_,hq⟩,fun D hD=>?_⟩
 obtain⟨Pc,hC⟩:∃ Pc:Nat→St→Hp→Prop,Pc=fun i τ H'=>∃ (z:Option V),H' D=some (.lst (((ps.take i).map (inS ns)).map V.bl))∧Same H H'∧τ=[some (.ref c),z]:=⟨_,rfl⟩
 refine mC (ps.map fun j:Nat=>V.int (j:Int)) Pc ?_ (fun i τ H' _ h=>by rw[hC] at h; obtain⟨_,_,e,_⟩:=h; exact e.seq hq) ?_ ?_
 ·rw[hC]
  exact⟨_,cY,fD hD _,rfl⟩
 ·intro i v τ H' R' hv h next
  rw[hC] at h
  obtain⟨z,d1,e,rfl⟩:=h
  rw[List.getElem?_map] at hv
  obtain⟨j,hj,rfl⟩:=Option.map_eq_some_iff.mp hv
  have li:=(List.getElem?_eq_some_iff.mp hj).1
  trivial
  refine⟨c,_,rfl,.inl (e.seq hc),rfl,vt ns,_,d1,?_,next _ _ ?_⟩
  ·rw[List.length_map,List.length_map,List.length_take]
   exact Nat.lt_of_lt_of_le (m:=1000) (by omega) (by decide)
  ·rw[hC]
   refine⟨_,?_,fS e hD _,rfl⟩
   rw[cY,List.take_add_one,hj,List.map_append,List.map_append,uN]
   rfl
 intro τ H1 h
 rw[hC] at h
 obtain⟨z,d1,e1,rfl⟩:=h
 rw[List.length_map,List.take_length] at d1
 refine⟨D,rfl,_,SqL.of d1,?_⟩
 rw[List.all_map]
 exact q _ e1
theorem EJ (F:Fun K "is_cut" "is_cut" aH f fd) (M:Mg mg) (cB:Cal P w K mg base CX0 "are_places" 2 ["some","allowed"] (vJ K)) (eX:Cal P w K mg base CX0 "is_within" 1 ["entry","cut"] (wI K)):FnOk P w K mg base CX0 3 f fd ["rooms","line","granted","cut"] (AF K):=by
 refine F.ok nE (fun vs H Q E h=>?_) (fun cdv A outer s H vs Q E hr h=>?_)
 ·obtain⟨rm,l,g,v,d,rooms,G,L,rfl,_⟩:=h
  rfl
 obtain⟨rm,l,g,v,d,rooms,G,L,rfl,hrm,hL,lok,l0,hg,lG,hv,q⟩:=h
 refine⟨_,(@dI _ _ _ _ _ (@nC _ _ _ _ _ _ _ _ (@PW.pt _ _ _ (@Dv _ _ _ _ _ _ _ (@qT _ _ _ _ (@pV _ _ _ (@fY _ _ _ _ _ _ _ _ _ uI jl M.m_isinstance tD (@bO _ _ _ _ _ (@cO _ 3 _ _ rfl fP iG iH) (@bO _ _ _ _ _ (@u9 _ _ (.ty "list") _ _ jb M.m_list tM rfl bi bh) (@cT _) (cg rfl)) (cg rfl)) bf bb (cg rfl) (fT rfl ff)) (sZ rfl))) (@AR _ _ _ _ (@qT _ _ _ _ (@pV _ _ _ (@fX _ _ _ _ _ _ _ _ _ _ _ cB hr jm (@bO _ _ _ _ _ (@cO _ 3 _ _ rfl fP iG iH) (@bO _ _ _ _ _ (@C9 _ _ _ _ _ _ _ rfl jb M.m_list mL M.m_range (@bO _ _ _ _ _ (@fY _ _ _ _ _ _ _ _ _ iU pK M.m_len pW (@bO _ _ _ _ _ (@cO _ 0 _ _ rfl rF cD cE) (@cT _) (cg rfl)) aA az (cg rfl) ff) (@cT _) (cg rfl)) rfl rfl (fun _=>rfl)) (@cT _) (cg rfl)) (cg rfl)) (by decide) fA (cg rfl) (fT rfl ff)) (sZ rfl)))))) (@eF _ _ _ (@ia _ _ _ _ (@tY _ _ _ _))) (@m8 _)) (@dI _ _ _ _ _ (@nC _ _ _ _ _ _ _ _ (@qT _ _ _ _ (@pV _ _ _ (@fX _ _ _ _ _ _ _ _ _ _ _ eX hr jN (@bO _ _ _ _ _ (@gu _ _ _ _ _ _ _ (@iV _) (@cO _ 1 _ _ rfl lD bo bq) (@vz _ _ _ _ _ _ (@uT _) (@dw _ _ _ _)) (fun _ _=>rfl)) (@bO _ _ _ _ _ (@cO _ 3 _ _ rfl fP iG iH) (@cT _) (cg rfl)) (cg rfl)) (by decide) jI (cg rfl) (fT rfl ff)) (sZ rfl))) (@eF _ _ _ (@ia _ _ _ _ (@tY _ _ _ _))) (@m8 _)) (@dI _ _ _ _ _ (@ic _ _ 4 _ _ _ _ nE.nd rfl rK (@fY _ _ _ _ _ _ _ _ _ (uw rfl) jO M.m_sum wO (@bO _ _ _ _ _ (@mS _ _ _ _ _ _ _ _ _ _ _ _ _ _ _ rfl (CompOk.make (N':=["cut","entry","grant"]) (ix:=[3]) (nl:=2) (by rfl) (fm1 rfl fm0) (by rfl) (by decide +kernel) rfl (by decide +kernel) rfl (And.intro ⟨rfl,.inl rfl,.inl rfl⟩ True.intro)) (@B5 _ _ _ _ _ _ _ _ _ pL M.m_zip (@bO _ _ _ _ _ (@cO _ 1 _ _ rfl lD bo bq) (@bO _ _ _ _ _ (@cO _ 2 _ _ rfl rG cJ cK) (@cT _) (cg rfl)) (cg rfl)) (star2' rfl rfl) (star1' rfl)) (fun _ _ _ _ _=>(@uv _ K _ _ 2 _ _ rfl rfl (@gS _ _ _ _ _ (@fj _ _ 1 _ (show List.Nodup (["cut","entry","grant"]:List Str) from by decide) rfl (Or.inl rfl) (by first | exact .inl rfl | exact .inr rfl | assumption)) (@gS _ _ _ _ _ (@fj _ _ 2 _ (show List.Nodup (["cut","entry","grant"]:List Str) from by decide) rfl (Or.inl rfl) (by first | exact .inl rfl | exact .inr rfl | assumption)) (@oW _) (by rfl)) (by rfl)) (by rfl) (by rfl))) (fun _ _ _ _ _=>(@ux _ _ _ (@pV _ _ _ (@fX _ _ _ _ _ _ _ _ _ _ _ eX hr rfl (@bO _ _ _ _ _ (@pv _ 1 _ _ (by rfl) (by decreasing_trivial) (by decide) (by decide)) (@bO _ _ _ _ _ (@pv _ 0 _ _ (by rfl) (by decreasing_trivial) (by decide) (by decide)) (@cT _) (cg rfl)) (cg rfl)) (by decide) jI (cg rfl) (fT rfl ff)) (sZ rfl)))) (fun _ _ _ _ _=>(@pv _ 2 _ _ (by rfl) (by decreasing_trivial) (by decide) (by decide))) (by intro _; rfl)) (@cT _) (cg rfl)) dR dQ (cg rfl) ff) (fZ rfl) (.inl rfl)) (@eF _ _ _ (@ia _ _ _ _ (@rZ _ _ _ _ _ _ _ _ (@um _) (@cO _ 4 _ _ rfl rJ sf sj) (@fY _ _ _ _ _ _ _ _ _ (uw rfl) jO M.m_sum wO (@bO _ _ _ _ _ (@mS _ _ _ _ _ _ _ _ _ _ _ _ _ _ _ rfl (CompOk.make (N':=["rooms","place"]) (ix:=[0]) (nl:=1) (by rfl) (fm1 rfl fm0) (by rfl) (by decide +kernel) rfl (by decide +kernel) rfl (And.intro ⟨rfl,.inl rfl,.inl rfl⟩ True.intro)) (@kL _ _ _ _ (@cO _ 3 _ _ rfl fP iG iH)) (fun _ _ _ _ _=>(@fj _ _ 1 _ (show List.Nodup (["rooms","place"]:List Str) from by decide) rfl (Or.inl rfl) (by first | exact .inl rfl | exact .inr rfl | assumption))) (fun _ _ _ _ _=>(@nk _)) (fun _ _ _ _ _=>(@gu _ _ _ _ _ _ _ (@vL _ K rfl) (@pv _ 0 _ _ (by rfl) (by decreasing_trivial) (by decide) (by decide)) (@pv _ 1 _ _ (by rfl) (by decreasing_trivial) (by decide) (by decide)) (fun _ _=>rfl))) (by intro _; rfl)) (@cT _) (cg rfl)) dR dQ (cg rfl) ff) (i8 _))))))),?_⟩
 obtain⟨us,hus,hpa⟩:=id hL
 have lus:us.length=L.length:=Paired.length hpa
 have l64:=lok.l
 have m60:=lok.m
 trivial
 refine⟨_,hv.kd,?_⟩
 cases hv with
 | lst hc hA hz =>
  rename_i c xs ds
  rw[if_neg (fun z:m9 (knD (Dt.lst ds)) Kn.lst=false=>by cases z)]
  refine⟨_,.inl hrm,rooms.length,by rw[List.length_map],by omega,fun r hr'=>?_⟩
  obtain⟨H1,g1,S1,T1⟩:∃ H1,H1=upd H r (.lst ((List.range rooms.length).map fun j:Nat=>V.int (j:Int)))∧Same H H1∧H1 r=some (.lst ((List.range rooms.length).map fun j:Nat=>V.int (j:Int))):=⟨_,rfl,fD hr' _,cY⟩
  rw[← g1]
  clear g1
  refine⟨c,r,xs,ds,rgI rooms.length,rfl,S1.seq hc,hA.same S1,hz,by rw[rgI,List.map_map]; exact SqL.of T1,fun H2 S2=>⟨_,rfl,?_⟩⟩
  have e2:=S1.trans S2
  cases hz1:qO (rgI rooms.length) ds with
  | false =>
   rw[if_pos rfl]
   have:=q _ e2
   rw[xC,hz1] at this
   exact this
  | true =>
   rw[if_neg (by decide)]
   have hz1':=hz1
   unfold qO at hz1'
   rw[Bool.and_eq_true] at hz1'
   have eu:=all_ints hA hz1'.1
   obtain⟨ns,hns⟩:∃ ns,ns=ds.map intOf:=⟨_,rfl⟩
   rw[← hns] at eu
   rw[eu] at hc
   have rg:∀ x∈ns,∃ j:Nat,x=(j:Int)∧j<rooms.length:=fun x hx=>by
    rw[hns] at hx
    obtain⟨d,hd,rfl⟩:=List.mem_map.mp hx
    have hp:=List.all_eq_true.mp hz1'.1 d hd
    cases d with
    | int i =>
     obtain⟨j,hj,ej⟩:=List.mem_map.mp (of_decide_eq_true hp)
     exact⟨j,ej.symm,List.mem_range.mp hj⟩
    | _=>cases hp
   have lns:ns.length≤500:=by rw[hns,List.length_map]; exact hz
   obtain⟨en,hen⟩:∃ en,L[L.length-1]?=some en:=⟨_,List.getElem?_eq_getElem (by omega)⟩
   obtain⟨te,qe,a1,a2,a3⟩:=tT (uQ e2 hpa) hen
   have ep:pl L (L.length-1)=en.1:=by rw[pl,List.getD,hen]; rfl
   refine⟨us,e2.seq hus,_,vV (by omega) (by rw[lus]; exact a1),te,qe,c,_,en.1,ns,rfl,a2,a3,(lok.pl en (List.mem_of_getElem? hen)).1,e2.seq hc,fun H3 S3=>⟨_,rfl,?_⟩⟩
   have e3:=e2.trans S3
   have eq0:∀ H',Same H H'→Q (.bl (en.1.all (inS ns) && decide (sumG L (fun e=>G.getD e 0) (inS ns) L.length=zL rooms ns))) H':=fun H' e=>by
    have:=q _ e
    rw[xC,hz1,← hns,ep,Bool.true_and] at this
    exact this
   cases hz2:en.1.all (inS ns) with
   | false =>
    rw[if_pos rfl]
    have:=eq0 _ e3
    rw[hz2] at this
    exact this
   | true =>
    rw[if_neg (by decide)]
    refine⟨⟨_,e3.seq hus⟩,⟨_,e3.seq hg⟩,fun D hD=>?_⟩
    obtain⟨Pc,hC⟩:∃ Pc:Nat→St→Hp→Prop,Pc=fun i τ H'=>∃ (y z:Option V) (ms:List Int),H' D=some (.lst (ms.map V.int))∧ms.length≤i∧ms.sum=sumG L (fun e=>G.getD e 0) (inS ns) i∧Same H3 H'∧τ=[some (.ref c),y,z]:=⟨_,rfl⟩
    refine yf us (G.map V.int) (by rw[List.length_map]; omega) Pc ?_ (fun i τ H' _ h=>by rw[hC] at h; obtain⟨_,_,_,_,_,_,e,_⟩:=h; exact⟨(e3.trans e).seq hus,(e3.trans e).seq hg⟩) ?_ ?_
    ·rw[hC]
     exact⟨_,_,[],cY,Nat.le_refl _,rfl,fD hD _,rfl⟩
    ·intro i x y T τ H' R' hx hy h hT next
     rw[hC] at h
     obtain⟨y0,z0,ms,d1,lm,em,e,rfl⟩:=h
     have li:=(List.getElem?_eq_some_iff.mp hx).1
     obtain⟨ei,hei⟩:∃ ei,L[i]?=some ei:=⟨_,List.getElem?_eq_getElem (by omega)⟩
     obtain⟨ti,qi,b1,b2,b3⟩:=tT hpa hei
     rw[hx] at b1
     cases b1
     rw[List.getElem?_map] at hy
     obtain⟨gi,hgi,rfl⟩:=Option.map_eq_some_iff.mp hy
     have eg:G.getD i 0=gi:=by rw[List.getD,hgi]; rfl
     have epi:pl L i=ei.1:=by rw[pl,List.getD,hei]; rfl
     obtain⟨H4,g4,S4,T4⟩:=ki (K:=K) hT [.ref ti,.int gi]
     rw[← g4]
     clear g4
     have e4:=(e3.trans e).trans S4
     trivial
     refine⟨_,T4,rfl,?_⟩
     trivial
     refine⟨ti,qi,c,_,ei.1,ns,rfl,Same.tup e4 b2,e4.seq b3,(lok.pl ei (List.mem_of_getElem? hei)).1,e4.seq hc,fun H5 S5=>⟨_,rfl,?_⟩⟩
     have d5:=(S4.trans S5) _ _ d1
     have es:sumG L (fun e=>G.getD e 0) (inS ns) (i+1)=sumG L (fun e=>G.getD e 0) (inS ns) i+(if ei.1.all (inS ns)=true then gi else 0):=by
      unfold sumG
      rw[iN,epi,← eg]
     by_cases hz3:ei.1.all (inS ns)=true
     ·rw[if_pos hz3]
      refine⟨_,d5,by rw[List.length_map]; exact Nat.lt_of_lt_of_le (m:=1000) (by omega) (by decide),next _ _ ?_⟩
      rw[hC]
      refine⟨_,_,ms++[gi],by rw[cY,List.map_append]; rfl,by rw[List.length_append,List.length_singleton]; omega,?_,fS ((e.trans S4).trans S5) hD _,rfl⟩
      rw[List.sum_append,es,if_pos hz3,em]
      simp
     ·rw[if_neg hz3]
      refine next _ _ ?_
      rw[hC]
      refine⟨_,_,ms,d5,by omega,?_,(e.trans S4).trans S5,rfl⟩
      rw[es,if_neg hz3,em,Int.add_zero]
    intro τ H4 h
    rw[hC] at h
    obtain⟨y0,z0,ms,d4,lm,em,e4,rfl⟩:=h
    rw[lus] at em
    have e34:=e3.trans e4
    refine⟨D,rfl,_,SqL.of d4,_,rfl,⟨_,e34.seq hc⟩,fun D2 hD2=>?_⟩
    obtain⟨Pc,hC2⟩:∃ Pc:Nat→St→Hp→Prop,Pc=fun i τ H'=>∃ (z:Option V),H' D2=some (.lst (((ns.take i).map fun x=>rooms.getD x.toNat 0).map V.int))∧Same H4 H'∧τ=[some (.ref rm),z]:=⟨_,rfl⟩
    refine mC (ns.map V.int) Pc ?_ (fun i τ H' _ h=>by rw[hC2] at h; obtain⟨_,_,e,_⟩:=h; exact (e34.trans e).seq hc) ?_ ?_
    ·rw[hC2]
     exact⟨_,cY,fD hD2 _,rfl⟩
    ·intro i v τ H' R' hv h next
     rw[hC2] at h
     obtain⟨z2,d1,e,rfl⟩:=h
     rw[List.getElem?_map] at hv
     obtain⟨x,hx,rfl⟩:=Option.map_eq_some_iff.mp hv
     obtain⟨j,ej,hj⟩:=rg x (List.mem_of_getElem? hx)
     have li:=(List.getElem?_eq_some_iff.mp hx).1
     have xat:atI (rooms.map V.int) x=some (.int (rooms.getD x.toNat 0)):=uF (by omega) (by omega)
     trivial
     refine⟨_,(e34.trans e).seq hrm,_,xat,_,d1,?_,next _ _ ?_⟩
     ·rw[List.length_map,List.length_map,List.length_take]
      exact Nat.lt_of_lt_of_le (m:=1000) (by omega) (by decide)
     ·rw[hC2]
      refine⟨_,?_,fS e hD2 _,rfl⟩
      rw[cY,List.take_add_one,hx,List.map_append,List.map_append]
      rfl
    intro τ H5 h
    rw[hC2] at h
    obtain⟨z2,d5,e5,rfl⟩:=h
    rw[List.length_map,List.take_length] at d5
    refine⟨D2,rfl,_,SqL.of d5,?_⟩
    have:=eq0 _ (e34.trans e5)
    rw[hz2,Bool.true_and,← em] at this
    exact this
 | _=>exact q _ (fun _ _ h=>h)
theorem Ax (F:Fun K "cut_holds" "cut_holds" bw f fd) (M:Mg mg) (kQ:Cal P w K mg base CX0 "is_cut" 3 ["rooms","line","granted","cut"] (AF K)):FnOk P w K mg base CX0 4 f fd ["rooms","line","granted","cut"] (xA K):=by
 refine F.ok pM (fun vs H Q E h=>?_) (fun cdv A outer s H vs Q E hr h=>?_)
 ·obtain⟨rm,l,g,v,d,rooms,G,L,rfl,_⟩:=h
  rfl
 obtain⟨rm,l,g,v,d,rooms,G,L,rfl,hrm,hL,lok,l0,hg,lG,hv,q⟩:=h
 refine⟨_,(@eF _ _ _ (@ia _ _ _ _ (@JZ _ _ _ _ _ _ _ (@rZ _ _ _ _ _ _ _ _ (@um _) (@gu _ _ _ _ _ _ _ (@iV _) (@cO _ 2 _ _ rfl jd cJ cK) (@vz _ _ _ _ _ _ (@uT _) (@dw _ _ _ _)) (fun _ _=>rfl)) (@gu _ _ _ _ _ _ _ (@ni _) (@gu _ _ _ _ _ _ _ (@iV _) (@cO _ 1 _ _ rfl jc bo bq) (@vz _ _ _ _ _ _ (@uT _) (@dw _ _ _ _)) (fun _ _=>rfl)) (@dw _ _ _ _) (fun _ _=>rfl)) (i8 _)) (@vm _ _ _ _ _ (@fX _ _ _ _ _ _ _ _ _ _ _ kQ hr jP (@bO _ _ _ _ _ (@cO _ 0 _ _ rfl nY cD cE) (@bO _ _ _ _ _ (@cO _ 1 _ _ rfl jc bo bq) (@bO _ _ _ _ _ (@cO _ 2 _ _ rfl jd cJ cK) (@bO _ _ _ _ _ (@cO _ 3 _ _ rfl nZ iG iH) (@cT _) (cg rfl)) (cg rfl)) (cg rfl)) (cg rfl)) (by decide) sk (cg rfl) (fT rfl (fT rfl (fT rfl ff)))))))),?_⟩
 obtain⟨us,hus,hpa⟩:=id hL
 have lus:us.length=L.length:=Paired.length hpa
 obtain⟨en,hen⟩:∃ en,L[L.length-1]?=some en:=⟨_,List.getElem?_eq_getElem (by omega)⟩
 obtain⟨te,qe,a1,a2,a3⟩:=tT hpa hen
 have ew:wt L (L.length-1)=en.2:=by rw[wt,List.getD,hen]; rfl
 rw[← ew] at a2
 have gl:(G.map V.int)[(G.map V.int).length-1]?=some (.int (G.getD (L.length-1) 0)):=by
  rw[List.length_map,lG,List.getElem?_map,List.getElem?_eq_getElem (by omega),My.getD_at (by omega)]
  rfl
 trivial
 refine⟨_,hg,_,vV (by rw[List.length_map]; omega) gl,us,hus,_,vV (by omega) (by rw[lus]; exact a1),te,rfl,_,a2,_,rfl,rfl,?_⟩
 by_cases hz:G.getD (L.length-1) 0=wt L (L.length-1)
 ·rw[if_pos (by rw[hz])]
  have:=q _ (fun _ _ h=>h)
  unfold uU at this
  rw[decide_eq_true hz] at this
  exact this
 ·rw[if_neg (fun y=>hz (V.int.inj y))]
  refine⟨rm,l,g,v,d,rooms,G,L,rfl,hrm,hL,lok,l0,hg,lG,hv,fun H1 e1=>?_⟩
  have:=q _ e1
  unfold uU at this
  rw[decide_eq_false hz] at this
  exact this
end
end MyU
namespace MyV
open My MyB MyC MyD MyE MyF MyG MyS MyI MyJ MyK MyT MyU PySem L2
def top (i:Nat):Stmt:=PySem.Challenge.pw_tariffgate_k66_said_otherwise.main.body.getD i (.Pass ⟨0,0,0,0⟩)
theorem kR:(("keep_to_rooms":Str) == ("__debug__":Str))=false:=by decide
theorem pN:(("cut_holds":Str) == ("__debug__":Str))=false:=by decide
theorem n4:(("is_list_of":Str) == ("__debug__":Str))=false:=by decide
theorem qA:(("is_grant":Str) == ("__debug__":Str))=false:=by decide
theorem qB:(("is_route":Str) == ("__debug__":Str))=false:=by decide
abbrev aZ:Stmt:=top 13
theorem rM:FnScope ["rooms","line","granted","routes","cuts"] ["rooms","line","granted","routes","cuts"] (defScope aZ):=⟨rfl,rfl,rfl,by decide +kernel,rfl,by decide +kernel,by decide +kernel⟩
theorem qC:Vis (defScope aZ) "rooms":=by decreasing_trivial
theorem ko:Vis (defScope aZ) "line":=by decreasing_trivial
theorem ig:Vis (defScope aZ) "granted":=by decreasing_trivial
theorem ii:Vis (defScope aZ) "routes":=by decreasing_trivial
theorem ij:Vis (defScope aZ) "cuts":=by decreasing_trivial
theorem dF:(defScope aZ).names.lookup ("all":Str)=some .globalImplicit:=by rfl
theorem je:(defScope aZ).names.lookup ("zip":Str)=some .globalImplicit:=by rfl
theorem gQ:(defScope aZ).names.lookup ("keep_to_rooms":Str)=some .globalImplicit:=by rfl
theorem eC:(defScope aZ).names.lookup ("enumerate":Str)=some .globalImplicit:=by rfl
def vI (rooms:List Int) (L:List En) (dg dr dc:Dt):Bool :=
 (pF L.length dg && (pF L.length dr && pF L.length dc)) && match dg,dr,dc with
 | .lst gs,.lst rs,.lst cs=>((List.range L.length).all fun e=>tW (wt L e) (gs.getD e .non)) && (((List.range L.length).all fun e=>ua (pl L e) (intOf (gs.getD e .non)) (rs.getD e .non)) && (wZ rooms rs && (List.range L.length).all fun e=>uU rooms (L.take (e+1)) ((gs.map intOf).take (e+1)) (cs.getD e .non)))
 | _,_,_=>false
def AD (K:PySem.W.Frag):Sp:=fun vs H Q _=>∃ (rm l:Addr) (vg vr vc:V) (rooms:List Int) (L:List En) (dg dr dc:Dt),vs=[.ref rm,.ref l,vg,vr,vc]∧SqL K H rm (rooms.map V.int)∧LnAt K H l L∧LnOk rooms.length L∧Rp K H vg dg∧Rp K H vr dr∧Rp K H vc dc∧∀ H',Same H H'→Q (.bl (vI rooms L dg dr dc)) H'
theorem B8 (rooms:List Int) (L:List En) (gs rs cs:List Dt) (h1:gs.length=L.length) (h2:rs.length=L.length) (h3:cs.length=L.length):vI rooms L (.lst gs) (.lst rs) (.lst cs)=(((List.range L.length).all fun e=>tW (wt L e) (gs.getD e .non)) && (((List.range L.length).all fun e=>ua (pl L e) (intOf (gs.getD e .non)) (rs.getD e .non)) && (wZ rooms rs && (List.range L.length).all fun e=>uU rooms (L.take (e+1)) ((gs.map intOf).take (e+1)) (cs.getD e .non)))):=by
 unfold vI
 rw[show pF L.length (.lst gs)=true from decide_eq_true h1,show pF L.length (.lst rs)=true from decide_eq_true h2,show pF L.length (.lst cs)=true from decide_eq_true h3]
 rfl
theorem yo {n:Nat} {d:Dt} (h:pF n d=true):∃ ds,d=.lst ds∧ds.length=n:=by
 cases d with
 | lst ds=>exact⟨ds,rfl,of_decide_eq_true h⟩
 | _=>cases h
theorem Dz {K:PySem.W.Frag} {H:Hp} {us:List V} {gs:List Dt} (hA:RpAll K H us gs) (h:∀ e,e<gs.length→∃ w,tW w (gs.getD e .non)=true):us=(gs.map intOf).map V.int:=by
 induction gs generalizing us with
 | nil=>cases hA; rfl
 | cons d gs ih =>
  cases hA with
  | cons hv r =>
   rw[List.map_cons,List.map_cons,← ih r fun e he=>by
    obtain⟨w,hw⟩:=h (e+1) (by rw[List.length_cons]; omega)
    exact⟨w,hw⟩]
   obtain⟨w,hw⟩:=h 0 (by rw[List.length_cons]; omega)
   change tW w d=true at hw
   cases hv with
   | int i=>rfl
   | _=>cases hw
theorem HF {d:Dt} (h:uM d=true):∃ x i,d=.tup [x,.int i]∧1≤i:=by
 cases d with
 | tup ds =>
  rcases ds with _ | ⟨x,_ | ⟨y,_ | ⟨z,r⟩⟩⟩
  ·cases h
  ·cases h
  ·cases y with
   | int i=>exact⟨x,i,rfl,of_decide_eq_true h⟩
   | _=>cases h
  ·cases y <;> cases h
 | _=>cases h
theorem Fz {al:List Int} {d:Dt} (h:uC al d=true):∃ j,d=.int j∧j∈al:=by
 cases d with
 | int j=>exact⟨j,rfl,of_decide_eq_true h⟩
 | _=>cases h
theorem G7 {ps:List Nat} {g:Int} {d:Dt} (h:ua ps g d=true):RtI d:=by
 cases d with
 | lst ds =>
  rw[uA,Bool.and_eq_true,Bool.and_eq_true] at h
  obtain⟨h1,h2,h3⟩:=h
  unfold qO at h2
  rw[Bool.and_eq_true] at h2
  refine⟨ds,rfl,fun p hp=>?_⟩
  have a1:=List.all_eq_true.mp h1 p hp
  have a2:=List.all_eq_true.mp h2.1 (t7 p) (List.mem_map.mpr ⟨p,hp,rfl⟩)
  obtain⟨x,i,rfl,_⟩:=HF a1
  obtain⟨j,rfl,_⟩:=Fz a2
  exact⟨j,i,rfl⟩
 | _=>cases h
theorem GX {m:Nat} {L:List En} (h:LnOk m L) (k:Nat):LnOk m (L.take k):=⟨by rw[List.length_take]; have:=h.l; omega,fun en he=>h.pl en (List.mem_of_mem_take he),fun en he=>h.nd en (List.mem_of_mem_take he),h.m,fun en he=>h.w en (List.mem_of_mem_take he)⟩
theorem zq {α β:Type} {R:α→β→Prop}:∀ {xs:List α} {ys:List β} (k:Nat),Paired R xs ys→Paired R (xs.take k) (ys.take k)
 | _,_,0,_=>by rw[List.take_zero,List.take_zero]; exact .nil
 | _,_,_+1,.nil=>.nil
 | _,_,k+1,.cons r t=>by rw[List.take_succ_cons,List.take_succ_cons]; exact .cons r (zq k t)
theorem Cd {xs:List V} {n:Nat}:xT xs none (some ((n:Int)+1))=xs.take (n+1):=by
 rw[show ((n:Int)+1)=((n+1:Nat):Int) by omega]
 exact Jb
theorem nJ {H:Hp} {p:Addr} (h:H p=none) (xs:List V):∃ H1,H1=upd H p (.lst xs)∧Same H H1∧H1 p=some (.lst xs):=⟨_,rfl,fD h _,cY⟩
section
variable {P:Program} {w:World} {K:PySem.W.Frag} {mg:Str→Option Value} {base:Heap} {f:Addr} {fd:FuncData}
theorem CY (F:Fun K "lets_by" "lets_by" aZ f fd) (M:Mg mg) (gq:Cal P w K mg base CX0 "is_list_of" 1 ["thing","many"] (xF K)) (i0:Cal P w K mg base CX0 "is_grant" 2 ["entry","grant"] (x6 K)) (i4:Cal P w K mg base CX0 "is_route" 3 ["entry","grant","route"] (xQ K)) (dY:Cal P w K mg base CX0 "keep_to_rooms" 2 ["rooms","routes"] (AG K)) (il:Cal P w K mg base CX0 "cut_holds" 4 ["rooms","line","granted","cut"] (xA K)):FnOk P w K mg base CX0 5 f fd ["rooms","line","granted","routes","cuts"] (AD K):=by
 refine F.ok rM (fun vs H Q E h=>?_) (fun cdv A outer s H vs Q E hr h=>?_)
 ·obtain⟨rm,l,vg,vr,vc,rooms,L,dg,dr,dc,rfl,_⟩:=h
  rfl
 obtain⟨rm,l,vg,vr,vc,rooms,L,dg,dr,dc,rfl,hrm,hL,lok,hg,hr',hc,q⟩:=h
 refine⟨_,(@dI _ _ _ _ _ (@nC _ _ _ _ _ _ _ _ (@qT _ _ _ _ (@pV _ _ _ (@fY _ _ _ _ _ _ _ _ _ (tR rfl) dF M.m_all vo (@bO _ _ _ _ _ (@mS _ _ _ _ _ _ _ _ _ _ _ _ _ _ _ rfl (CompOk.make (N':=["line","thing"]) (ix:=[1]) (nl:=1) (by rfl) (fm1 rfl fm0) (by rfl) (by decide +kernel) rfl (by decide +kernel) rfl (And.intro ⟨rfl,.inl rfl,.inl rfl⟩ True.intro)) (@IC _ _ _ _ (@tP _ _ _ _ _ (@bO _ _ _ _ _ (@cO _ 2 _ _ rfl ig cJ cK) (@bO _ _ _ _ _ (@cO _ 3 _ _ rfl ii fm fo) (@bO _ _ _ _ _ (@cO _ 4 _ _ rfl ij fU fV) (@cT _) (cg rfl)) (cg rfl)) (cg rfl)))) (fun _ _ _ _ _=>(@fj _ _ 1 _ (show List.Nodup (["line","thing"]:List Str) from by decide) rfl (Or.inl rfl) (by first | exact .inl rfl | exact .inr rfl | assumption))) (fun _ _ _ _ _=>(@nk _)) (fun _ _ _ _ _=>(@fX _ _ _ _ _ _ _ _ _ _ _ gq hr rfl (@bO _ _ _ _ _ (@pv _ 1 _ _ (by rfl) (by decreasing_trivial) (by decide) (by decide)) (@bO _ _ _ _ _ (@fY _ _ _ _ _ _ _ _ _ (zJ (K:=K) rfl) rfl M.m_len pW (@bO _ _ _ _ _ (@pv _ 0 _ _ (by rfl) (by decreasing_trivial) (by decide) (by decide)) (@cT _) (cg rfl)) aA az (cg rfl) ff) (@cT _) (cg rfl)) (cg rfl)) (by decide) n4 (cg rfl) (fT rfl ff))) (by intro _; rfl)) (@cT _) (cg rfl)) dz dy (cg rfl) ff) (sZ rfl))) (@eF _ _ _ (@ia _ _ _ _ (@tY _ _ _ _))) (@m8 _)) (@dI _ _ _ _ _ (@nC _ _ _ _ _ _ _ _ (@qT _ _ _ _ (@pV _ _ _ (@fY _ _ _ _ _ _ _ _ _ (tR rfl) dF M.m_all vo (@bO _ _ _ _ _ (@mS _ _ _ _ _ _ _ _ _ _ _ _ _ _ _ rfl (CompOk.make (N':=["entry","grant"]) (ix:=[]) (nl:=2) (by rfl) fm0 (by rfl) (by decide +kernel) rfl (by decide +kernel) rfl True.intro) (@B5 _ _ _ _ _ _ _ _ _ je M.m_zip (@bO _ _ _ _ _ (@cO _ 1 _ _ rfl ko bo bq) (@bO _ _ _ _ _ (@cO _ 2 _ _ rfl ig cJ cK) (@cT _) (cg rfl)) (cg rfl)) (star2' rfl rfl) (star1' rfl)) (fun _ _ _ _ _=>(@uv _ K _ _ 2 _ _ rfl rfl (@gS _ _ _ _ _ (@fj _ _ 0 _ (show List.Nodup (["entry","grant"]:List Str) from by decide) rfl (Or.inl rfl) (by first | exact .inl rfl | exact .inr rfl | assumption)) (@gS _ _ _ _ _ (@fj _ _ 1 _ (show List.Nodup (["entry","grant"]:List Str) from by decide) rfl (Or.inl rfl) (by first | exact .inl rfl | exact .inr rfl | assumption)) (@oW _) (by rfl)) (by rfl)) (by rfl) (by rfl))) (fun _ _ _ _ _=>(@nk _)) (fun _ _ _ _ _=>(@fX _ _ _ _ _ _ _ _ _ _ _ i0 hr rfl (@bO _ _ _ _ _ (@pv _ 0 _ _ (by rfl) (by decreasing_trivial) (by decide) (by decide)) (@bO _ _ _ _ _ (@pv _ 1 _ _ (by rfl) (by decreasing_trivial) (by decide) (by decide)) (@cT _) (cg rfl)) (cg rfl)) (by decide) qA (cg rfl) (fT rfl ff))) (by intro _; rfl)) (@cT _) (cg rfl)) dz dy (cg rfl) ff) (sZ rfl))) (@eF _ _ _ (@ia _ _ _ _ (@tY _ _ _ _))) (@m8 _)) (@dI _ _ _ _ _ (@nC _ _ _ _ _ _ _ _ (@qT _ _ _ _ (@pV _ _ _ (@fY _ _ _ _ _ _ _ _ _ (tR rfl) dF M.m_all vo (@bO _ _ _ _ _ (@mS _ _ _ _ _ _ _ _ _ _ _ _ _ _ _ rfl (CompOk.make (N':=["entry","grant","route"]) (ix:=[]) (nl:=3) (by rfl) fm0 (by rfl) (by decide +kernel) rfl (by decide +kernel) rfl True.intro) (@G3 _ _ _ _ _ _ _ _ _ _ je M.m_zip (@bO _ _ _ _ _ (@cO _ 1 _ _ rfl ko bo bq) (@bO _ _ _ _ _ (@cO _ 2 _ _ rfl ig cJ cK) (@bO _ _ _ _ _ (@cO _ 3 _ _ rfl ii fm fo) (@cT _) (cg rfl)) (cg rfl)) (cg rfl)) rfl rfl) (fun _ _ _ _ _=>(@uv _ K _ _ 3 _ _ rfl rfl (@gS _ _ _ _ _ (@fj _ _ 0 _ (show List.Nodup (["entry","grant","route"]:List Str) from by decide) rfl (Or.inl rfl) (by first | exact .inl rfl | exact .inr rfl | assumption)) (@gS _ _ _ _ _ (@fj _ _ 1 _ (show List.Nodup (["entry","grant","route"]:List Str) from by decide) rfl (Or.inl rfl) (by first | exact .inl rfl | exact .inr rfl | assumption)) (@gS _ _ _ _ _ (@fj _ _ 2 _ (show List.Nodup (["entry","grant","route"]:List Str) from by decide) rfl (Or.inl rfl) (by first | exact .inl rfl | exact .inr rfl | assumption)) (@oW _) (by rfl)) (by rfl)) (by rfl)) (by rfl) (by rfl))) (fun _ _ _ _ _=>(@nk _)) (fun _ _ _ _ _=>(@fX _ _ _ _ _ _ _ _ _ _ _ i4 hr rfl (@bO _ _ _ _ _ (@pv _ 0 _ _ (by rfl) (by decreasing_trivial) (by decide) (by decide)) (@bO _ _ _ _ _ (@pv _ 1 _ _ (by rfl) (by decreasing_trivial) (by decide) (by decide)) (@bO _ _ _ _ _ (@pv _ 2 _ _ (by rfl) (by decreasing_trivial) (by decide) (by decide)) (@cT _) (cg rfl)) (cg rfl)) (cg rfl)) (by decide) qB (cg rfl) (fT rfl (fT rfl ff)))) (by intro _; rfl)) (@cT _) (cg rfl)) dz dy (cg rfl) ff) (sZ rfl))) (@eF _ _ _ (@ia _ _ _ _ (@tY _ _ _ _))) (@m8 _)) (@dI _ _ _ _ _ (@nC _ _ _ _ _ _ _ _ (@qT _ _ _ _ (@pV _ _ _ (@fX _ _ _ _ _ _ _ _ _ _ _ dY hr gQ (@bO _ _ _ _ _ (@cO _ 0 _ _ rfl qC cD cE) (@bO _ _ _ _ _ (@cO _ 3 _ _ rfl ii fm fo) (@cT _) (cg rfl)) (cg rfl)) (by decide) kR (cg rfl) (fT rfl ff)) (sZ rfl))) (@eF _ _ _ (@ia _ _ _ _ (@tY _ _ _ _))) (@m8 _)) (@eF _ _ _ (@ia _ _ _ _ (@fY _ _ _ _ _ _ _ _ _ (tR rfl) dF M.m_all vo (@bO _ _ _ _ _ (@mS _ _ _ _ _ _ _ _ _ _ _ _ _ _ _ rfl (CompOk.make (N':=["rooms","line","granted","place","cut"]) (ix:=[0,1,2]) (nl:=2) (by rfl) (fm1 rfl (fm1 rfl (fm1 rfl fm0))) (by rfl) (by decide +kernel) rfl (by decide +kernel) rfl (And.intro ⟨rfl,.inl rfl,.inl rfl⟩ (And.intro ⟨rfl,.inl rfl,.inl rfl⟩ (And.intro ⟨rfl,.inl rfl,.inl rfl⟩ True.intro)))) (@CA _ _ _ _ _ (@vZ _ _ _ _ _ _ _ _ eC M.m_enumerate (@bO _ _ _ _ _ (@cO _ 4 _ _ rfl ij fU fV) (@cT _) (cg rfl)) (by rfl)) (@xV _ _ _ _ _ _ _ _ eC M.m_enumerate (@bO _ _ _ _ _ (@cO _ 4 _ _ rfl ij fU fV) (@cT _) (cg rfl)) (by rfl))) (fun _ _ _ _ _=>(@uv _ K _ _ 2 _ _ rfl rfl (@gS _ _ _ _ _ (@fj _ _ 3 _ (show List.Nodup (["rooms","line","granted","place","cut"]:List Str) from by decide) rfl (Or.inl rfl) (by first | exact .inl rfl | exact .inr rfl | assumption)) (@gS _ _ _ _ _ (@fj _ _ 4 _ (show List.Nodup (["rooms","line","granted","place","cut"]:List Str) from by decide) rfl (Or.inl rfl) (by first | exact .inl rfl | exact .inr rfl | assumption)) (@oW _) (by rfl)) (by rfl)) (by rfl) (by rfl))) (fun _ _ _ _ _=>(@nk _)) (fun _ _ _ _ _=>(@fX _ _ _ _ _ _ _ _ _ _ _ il hr rfl (@bO _ _ _ _ _ (@pv _ 0 _ _ (by rfl) (by decreasing_trivial) (by decide) (by decide)) (@bO _ _ _ _ _ (@Ak _ _ _ _ _ _ _ _ _ _ (AW (K:=K) rfl) (@pv _ 1 _ _ (by rfl) (by decreasing_trivial) (by decide) (by decide)) (@Ck _) (@wN _ _ _ (@iI _ _ _ _ _ _ _ _ (@qU _) (@pv _ 3 _ _ (by rfl) (by decreasing_trivial) (by decide) (by decide)) (@dw _ _ _ _)))) (@bO _ _ _ _ _ (@Ak _ _ _ _ _ _ _ _ _ _ (AW (K:=K) rfl) (@pv _ 2 _ _ (by rfl) (by decreasing_trivial) (by decide) (by decide)) (@Ck _) (@wN _ _ _ (@iI _ _ _ _ _ _ _ _ (@qU _) (@pv _ 3 _ _ (by rfl) (by decreasing_trivial) (by decide) (by decide)) (@dw _ _ _ _)))) (@bO _ _ _ _ _ (@pv _ 4 _ _ (by rfl) (by decreasing_trivial) (by decide) (by decide)) (@cT _) (cg rfl)) (cg rfl)) (cg rfl)) (cg rfl)) (by decide) pN (cg rfl) (fT rfl (fT rfl (fT rfl ff))))) (by intro _; rfl)) (@cT _) (cg rfl)) dz dy (cg rfl) ff))))))),?_⟩
 obtain⟨us,hus,hpa⟩:=id hL
 have lus:us.length=L.length:=Paired.length hpa
 have l64:=lok.l
 have m60:=lok.m
 trivial
 refine⟨by decide,fun t ht=>?_⟩
 obtain⟨H1,g1,S1,T1⟩:=ki (K:=K) ht [vg,vr,vc]
 rw[← g1]
 clear g1
 refine⟨⟨_,T1⟩,fun D hD=>?_⟩
 obtain⟨Pc,hC⟩:∃ Pc:Nat→St→Hp→Prop,Pc=fun i τ H'=>∃ (z:Option V),H' D=some (.lst ((([dg,dr,dc].take i).map (pF L.length)).map V.bl))∧Same H1 H'∧τ=[some (.ref l),z]:=⟨_,rfl⟩
 refine Eu [vg,vr,vc] Pc ?_ (fun i τ H' _ h=>by rw[hC] at h; obtain⟨_,_,e,_⟩:=h; exact Same.tup e T1) ?_ ?_
 ·rw[hC]
  exact⟨_,cY,fD hD _,rfl⟩
 ·intro i x τ H' R' hx h next
  rw[hC] at h
  obtain⟨z,d1,e,rfl⟩:=h
  have e1:=S1.trans e
  obtain⟨d,hd,hv⟩:∃ d,[dg,dr,dc][i]?=some d∧Rp K H x d:=by
   rcases i with _ | _ | _ | i
   ·cases hx
    exact⟨_,rfl,hg⟩
   ·cases hx
    exact⟨_,rfl,hr'⟩
   ·cases hx
    exact⟨_,rfl,hc⟩
   ·cases hx
  have li:i<3:=(List.getElem?_eq_some_iff.mp hd).1
  trivial
  refine⟨_,.inl (e1.seq hus),x,d,L.length,by rw[lus],hv.same e1,_,d1,?_,next _ _ ?_⟩
  ·rw[List.length_map,List.length_map,List.length_take]
   exact Nat.lt_of_lt_of_le (m:=1000) (by omega) (by decide)
  ·rw[hC]
   refine⟨_,?_,fS e hD _,rfl⟩
   rw[cY,List.take_add_one,hd,List.map_append,List.map_append]
   rfl
 intro τ H2 h
 rw[hC] at h
 obtain⟨z,d2,e2,rfl⟩:=h
 clear hC
 have e12:=S1.trans e2
 refine⟨D,rfl,_,SqL.of d2,?_⟩
 have ea:((([dg,dr,dc].take [vg,vr,vc].length).map (pF L.length)).all id)=(pF L.length dg && (pF L.length dr && pF L.length dc)):=by
  show (pF L.length dg && (pF L.length dr && (pF L.length dc && true)))=_
  rw[Bool.and_true]
 rw[ea]
 cases hz0:(pF L.length dg && (pF L.length dr && pF L.length dc)) with
 | false =>
  rw[if_pos rfl]
  have:=q _ e12
  unfold vI at this
  rw[hz0,Bool.false_and] at this
  exact this
 | true =>
  rw[if_neg (by decide)]
  rw[Bool.and_eq_true,Bool.and_eq_true] at hz0
  obtain⟨gs,rfl,lg⟩:=yo hz0.1
  obtain⟨rs,rfl,lr⟩:=yo hz0.2.1
  obtain⟨cs,rfl,lc⟩:=yo hz0.2.2
  replace q:∀ H',Same H H'→Q (.bl (((List.range L.length).all fun e=>tW (wt L e) (gs.getD e .non)) && (((List.range L.length).all fun e=>ua (pl L e) (intOf (gs.getD e .non)) (rs.getD e .non)) && (wZ rooms rs && (List.range L.length).all fun e=>uU rooms (L.take (e+1)) ((gs.map intOf).take (e+1)) (cs.getD e .non))))) H':=fun H' e=>by
   have:=q H' e
   rw[B8 rooms L gs rs cs lg lr lc] at this
   exact this
  cases hg with
  | lst gL gA gz =>
   rename_i ag gus
   cases hr' with
   | lst rL rA rz =>
    rename_i ar rus
    cases hc with
    | lst cL cA cz =>
     rename_i ac cus
     have lgu:=gA.len
     have lru:=rA.len
     have lcu:=cA.len
     have gat:∀ {i:Nat} {d:Dt},gs[i]?=some d→gs.getD i .non=d:=fun h=>by rw[List.getD,h]; rfl
     have rat:∀ {i:Nat} {d:Dt},rs[i]?=some d→rs.getD i .non=d:=fun h=>by rw[List.getD,h]; rfl
     have cat:∀ {i:Nat} {d:Dt},cs[i]?=some d→cs.getD i .non=d:=fun h=>by rw[List.getD,h]; rfl
     have ent:∀ {H':Hp} {i:Nat} {x:V},Same H H'→us[i]?=some x→∃ te qe,x=V.ref te∧SqT K H' te [.ref qe,.int (wt L i)]∧SqL K H' qe ((pl L i).map fun j:Nat=>V.int (j:Int)):=fun {H' i x} e hx=>by
      have li:=(List.getElem?_eq_some_iff.mp hx).1
      obtain⟨en,hen⟩:∃ en,L[i]?=some en:=⟨_,List.getElem?_eq_getElem (by omega)⟩
      obtain⟨te,qe,b1,b2,b3⟩:=tT (uQ e hpa) hen
      rw[hx] at b1
      cases b1
      have ew:wt L i=en.2:=by rw[wt,List.getD,hen]; rfl
      have ep:pl L i=en.1:=by rw[pl,List.getD,hen]; rfl
      rw[ew,ep]
      exact⟨te,qe,rfl,b2,b3⟩
     refine⟨ag,rfl,⟨_,e12.seq hus⟩,⟨_,e12.seq gL⟩,fun D2 hD2=>?_⟩
     obtain⟨Pc,hC⟩:∃ Pc:Nat→St→Hp→Prop,Pc=fun i τ H'=>∃ (y z:Option V),H' D2=some (.lst (((List.range i).map fun e=>tW (wt L e) (gs.getD e .non)).map V.bl))∧Same H2 H'∧τ=[y,z]:=⟨_,rfl⟩
     refine yf us gus (by omega) Pc ?_ (fun i τ H' _ h=>by rw[hC] at h; obtain⟨_,_,_,e,_⟩:=h; exact⟨(e12.trans e).seq hus,(e12.trans e).seq gL⟩) ?_ ?_
     ·rw[hC]
      exact⟨_,_,cY,fD hD2 _,rfl⟩
     ·intro i x y T τ H' R' hx hy h hT next
      rw[hC] at h
      obtain⟨y0,z0,d1,e,rfl⟩:=h
      have li:=(List.getElem?_eq_some_iff.mp hx).1
      obtain⟨d,hd,hv⟩:=gA.get hy
      obtain⟨H4,g4,S4,T4⟩:=ki (K:=K) hT [x,y]
      rw[← g4]
      clear g4
      have e4:=(e12.trans e).trans S4
      obtain⟨te,qe,rfl,b2,b3⟩:=ent e4 hx
      trivial
      refine⟨_,T4,rfl,?_⟩
      trivial
      refine⟨y,_,d,te,wt L i,rfl,b2,hv.same e4,_,S4 _ _ d1,?_,next _ _ ?_⟩
      ·rw[List.length_map,List.length_map,List.length_range]
       exact Nat.lt_of_lt_of_le (m:=1000) (by omega) (by decide)
      ·rw[hC]
       refine⟨_,_,?_,fS (e.trans S4) hD2 _,rfl⟩
       rw[cY,List.range_succ,List.map_append,List.map_append,← gat hd]
       rfl
     intro τ H3 h
     rw[hC] at h
     obtain⟨y0,z0,d3,e3,rfl⟩:=h
     clear hC
     rw[lus] at d3
     have e13:=e12.trans e3
     refine⟨D2,rfl,_,SqL.of d3,?_⟩
     rw[List.all_map,show (id ∘ fun e=>tW (wt L e) (gs.getD e .non))=fun e=>tW (wt L e) (gs.getD e .non) from rfl]
     cases hz1:((List.range L.length).all fun e=>tW (wt L e) (gs.getD e .non)) with
     | false =>
      rw[if_pos rfl]
      have:=q _ e13
      rw[hz1] at this
      exact this
     | true =>
      rw[if_neg (by decide)]
      have gr:=List.all_eq_true.mp hz1
      have eg:=Dz gA fun e he=>⟨_,gr e (List.mem_range.mpr (by omega))⟩
      have lG:(gs.map intOf).length=L.length:=by rw[List.length_map,lg]
      refine⟨ag,rfl,ar,rfl,⟨_,e13.seq hus⟩,⟨_,e13.seq gL⟩,⟨_,e13.seq rL⟩,fun D3 hD3=>?_⟩
      obtain⟨Pc,hC⟩:∃ Pc:Nat→St→Hp→Prop,Pc=fun i τ H'=>∃ (x y z:Option V),H' D3=some (.lst (((List.range i).map fun e=>ua (pl L e) (intOf (gs.getD e .non)) (rs.getD e .non)).map V.bl))∧Same H3 H'∧τ=[x,y,z]:=⟨_,rfl⟩
      refine Do us gus rus (by omega) (by omega) Pc ?_ (fun i τ H' _ h=>by rw[hC] at h; obtain⟨_,_,_,_,e,_⟩:=h; exact⟨(e13.trans e).seq hus,(e13.trans e).seq gL,(e13.trans e).seq rL⟩) ?_ ?_
      ·rw[hC]
       exact⟨_,_,_,cY,fD hD3 _,rfl⟩
      ·intro i x y v T τ H' R' hx hy hv0 h hT next
       rw[hC] at h
       obtain⟨x0,y0,z0,d1,e,rfl⟩:=h
       have li:=(List.getElem?_eq_some_iff.mp hx).1
       obtain⟨d,hd,_⟩:=gA.get hy
       obtain⟨dr',hdr,hvr⟩:=rA.get hv0
       obtain⟨H4,g4,S4,T4⟩:=ki (K:=K) hT [x,y,v]
       rw[← g4]
       clear g4
       have e4:=(e13.trans e).trans S4
       obtain⟨te,qe,rfl,b2,b3⟩:=ent e4 hx
       obtain rfl:y=V.int (intOf d):=by
        rw[eg,List.map_map,List.getElem?_map,hd] at hy
        exact (Option.some.inj hy).symm
       trivial
       refine⟨_,T4,rfl,?_⟩
       trivial
       refine⟨v,dr',te,qe,pl L i,wt L i,_,rfl,b2,b3,hvr.same e4,fun H5 e5=>⟨_,(S4.trans e5) _ _ d1,?_,next _ _ ?_⟩⟩
       ·rw[List.length_map,List.length_map,List.length_range]
        exact Nat.lt_of_lt_of_le (m:=1000) (by omega) (by decide)
       ·rw[hC]
        refine⟨_,_,_,?_,fS ((e.trans S4).trans e5) hD3 _,rfl⟩
        rw[cY,List.range_succ,List.map_append,List.map_append,← gat hd,← rat hdr]
        rfl
      intro τ H4 h
      rw[hC] at h
      obtain⟨x0,y0,z0,d4,e4,rfl⟩:=h
      clear hC
      rw[lus] at d4
      have e14:=e13.trans e4
      refine⟨D3,rfl,_,SqL.of d4,?_⟩
      rw[List.all_map,show (id ∘ fun e=>ua (pl L e) (intOf (gs.getD e .non)) (rs.getD e .non))=fun e=>ua (pl L e) (intOf (gs.getD e .non)) (rs.getD e .non) from rfl]
      cases hz2:((List.range L.length).all fun e=>ua (pl L e) (intOf (gs.getD e .non)) (rs.getD e .non)) with
      | false =>
       rw[if_pos rfl]
       have:=q _ e14
       rw[hz1,hz2] at this
       exact this
      | true =>
       rw[if_neg (by decide)]
       have rr:=List.all_eq_true.mp hz2
       have rok:∀ d∈rs,RtI d:=fun d hd=>by
        obtain⟨i,hi,rfl⟩:=List.getElem_of_mem hd
        have:=rr i (List.mem_range.mpr (by omega))
        rw[rat (List.getElem?_eq_getElem hi)] at this
        exact G7 this
       refine⟨rm,ar,rooms,rus,rs,rfl,e14.seq hrm,m60,e14.seq rL,rA.same e14,rok,fun H5 e5=>⟨_,rfl,?_⟩⟩
       have e15:=e14.trans e5
       cases hz3:wZ rooms rs with
       | false =>
        rw[if_pos rfl]
        have:=q _ e15
        rw[hz1,hz2,hz3] at this
        exact this
       | true =>
        rw[if_neg (by decide)]
        refine .inl ⟨ac,rfl,⟨_,e15.seq cL⟩,fun D4 hD4=>?_⟩
        obtain⟨Pc,hC⟩:∃ Pc:Nat→St→Hp→Prop,Pc=fun i τ H'=>∃ (y z:Option V),H' D4=some (.lst (((List.range i).map fun e=>uU rooms (L.take (e+1)) ((gs.map intOf).take (e+1)) (cs.getD e .non)).map V.bl))∧Same H5 H'∧τ=[some (.ref rm),some (.ref l),some (.ref ag),y,z]:=⟨_,rfl⟩
        refine wG cus Pc ?_ (fun i τ H' _ h=>by rw[hC] at h; obtain⟨_,_,_,e,_⟩:=h; exact (e15.trans e).seq cL) ?_ ?_
        ·rw[hC]
         exact⟨_,_,cY,fD hD4 _,rfl⟩
        ·intro i x T τ H' R' hx h hT next
         rw[hC] at h
         obtain⟨y0,z0,d1,e,rfl⟩:=h
         have li:=(List.getElem?_eq_some_iff.mp hx).1
         obtain⟨d,hd,hv⟩:=cA.get hx
         obtain⟨H6,g6,S6,T6⟩:=ki (K:=K) hT [.int i,x]
         rw[← g6]
         clear g6
         have e6:=(e15.trans e).trans S6
         trivial
         refine⟨_,T6,rfl,?_⟩
         trivial
         refine⟨us,e6.seq hus,fun p1 hp1=>?_⟩
         rw[Cd]
         obtain⟨H7,g7,S7,T7⟩:=nJ hp1 (us.take (i+1))
         rw[← g7]
         clear g7
         have e7:=e6.trans S7
         refine⟨gus,e7.seq gL,fun p2 hp2=>?_⟩
         rw[Cd]
         obtain⟨H8,g8,S8,T8⟩:=nJ hp2 (gus.take (i+1))
         rw[← g8]
         clear g8
         have e8:=e7.trans S8
         rw[eg,← List.map_take] at T8
         refine⟨rm,p1,p2,x,d,rooms,(gs.map intOf).take (i+1),L.take (i+1),rfl,e8.seq hrm,⟨_,SqL.of (S8 _ _ T7),zq (i+1) (uQ e8 hpa)⟩,GX lok _,by rw[List.length_take]; omega,SqL.of T8,by rw[List.length_take,List.length_take,lG],hv.same e8,fun H9 e9=>⟨_,(((S6.trans S7).trans S8).trans e9) _ _ d1,?_,next _ _ ?_⟩⟩
         ·rw[List.length_map,List.length_map,List.length_range]
          exact Nat.lt_of_lt_of_le (m:=1000) (by omega) (by decide)
         ·rw[hC]
          refine⟨_,_,?_,fS ((((e.trans S6).trans S7).trans S8).trans e9) hD4 _,rfl⟩
          rw[cY,List.range_succ,List.map_append,List.map_append,← cat hd]
          rfl
        intro τ H6 h
        rw[hC] at h
        obtain⟨y0,z0,d6,e6,rfl⟩:=h
        rw[lcu,lc] at d6
        refine⟨D4,rfl,_,SqL.of d6,?_⟩
        have:=q _ (e15.trans e6)
        rw[hz1,hz2,hz3] at this
        rw[List.all_map]
        exact this
end
end MyV
namespace MyW
open My MyB MyC MyD MyE MyF MyG MyS MyI MyJ MyK MyT MyU MyV PySem L2
theorem wA {g:Nat→Int} {j:Nat}:∀ n,iW n (fun k=>if k=j then g k else 0)=if j<n then g j else 0
 | 0=>rfl
 | n+1=>by
  rw[iN,wA n]
  by_cases h:n=j
  ·subst h
   rw[if_neg (Nat.lt_irrefl _),if_pos rfl,if_pos (Nat.lt_succ_self _)]
   omega
  ·rw[if_neg h]
   by_cases h2:j<n
   ·rw[if_pos h2,if_pos (by omega)]; omega
   ·rw[if_neg h2,if_neg (by omega)]; rfl
theorem yi {g:Nat→Int} {m:Nat}:∀ {ns:List Int},ns.Nodup→(∀ x∈ns,∃ j:Nat,x=(j:Int)∧j<m)→(ns.map fun x=>g x.toNat).sum=iW m fun j=>if inS ns j=true then g j else 0
 | [],_,_=>by
  rw[vf fun j _=>by rw[if_neg (by simp [inS])]]
  rfl
 | x::ns,nd,h=>by
  have nd':=List.nodup_cons.mp nd
  obtain⟨j0,ej,hj⟩:=h x List.mem_cons_self
  rw[List.map_cons,List.sum_cons,yi nd'.2 fun y hy=>h y (List.mem_cons_of_mem _ hy)]
  have e1:(iW m fun j=>if j=j0 then g j else 0)=g j0:=by
   rw[wA,if_pos hj]
  have e2:x.toNat=j0:=by omega
  rw[e2,← e1,← uH]
  refine jw fun j _=>?_
  have ei:inS (x::ns) j=(decide (j=j0) || inS ns j):=by
   unfold inS
   rw[Bool.eq_iff_iff]
   simp only [decide_eq_true_eq,List.mem_cons,Bool.or_eq_true]
   refine⟨fun z=>?_,fun z=>?_⟩
   ·rcases z with z | z
    ·exact .inl (by omega)
    ·exact .inr z
   ·rcases z with z | z
    ·exact .inl (by omega)
    ·exact .inr z
  rw[ei]
  by_cases z:j=j0
  ·have:inS ns j=false:=decide_eq_false fun y=>nd'.1 (by rw[ej,← z]; exact y)
   rw[this,if_pos z,decide_eq_true z]
   simp
  ·rw[if_neg z,decide_eq_false z]
   simp
theorem Cc {L:List En} {k e:Nat} (h:e<k):pl (L.take k) e=pl L e:=by
 unfold pl
 rw[List.getD,List.getD,List.getElem?_take_of_lt h]
theorem Hl {L:List En} {k e:Nat} (h:e<k):wt (L.take k) e=wt L e:=by
 unfold wt
 rw[List.getD,List.getD,List.getElem?_take_of_lt h]
theorem Cw {G:List Int} {k e:Nat} (h:e<k):(G.take k).getD e 0=G.getD e 0:=by
 rw[List.getD,List.getD,List.getElem?_take_of_lt h]
theorem DK {L:List En} {G:List Int} {S:Nat→Bool} {k:Nat}:∀ {i:Nat},i≤k→sumG (L.take k) (fun e=>(G.take k).getD e 0) S i=sumG L (fun e=>G.getD e 0) S i:=fun {i} hi=>by
 unfold sumG
 refine jw fun e he=>?_
 rw[Cc (by omega)]
 show (if _ then (G.take k).getD e 0 else 0)=(if _ then G.getD e 0 else 0)
 rw[Cw (by omega)]
theorem Cq {K:PySem.W.Frag} {H:Hp}:∀ ns:List Int,RpAll K H (ns.map V.int) (ns.map Dt.int)
 | []=>.nil
 | n::ns=>.cons (.int n) (Cq ns)
theorem zR {K:PySem.W.Frag} {H:Hp} {c:Addr} {ns:List Int} (h:SqL K H c (ns.map V.int)) (l:ns.length≤500):Rp K H (.ref c) (.lst (ns.map Dt.int)):=.lst h (Cq ns) (by rw[List.length_map]; exact l)
theorem JX {K:PySem.W.Frag} {H:Hp} {us:List V} {xs:List (Nat×Int)} (h:RtAt K H us xs):RpAll K H us (xs.map fun x=>Dt.tup [.int (x.1:Int),.int x.2]):=by
 induction h with
 | nil=>exact .nil
 | cons hh _ ih =>
  obtain⟨t,e,h1⟩:=hh
  subst e
  exact .cons (.tup h1 (.cons (.int _) (.cons (.int _) .nil))) ih
theorem J2 (row:List Int):((rt row).map Prod.fst).Nodup:=by
 unfold rt
 rw[List.map_map,List.Nodup,List.pairwise_map]
 exact List.Pairwise.filter _ (List.Pairwise.imp (fun {a b} h=>show a≠b by omega) List.pairwise_lt_range)
theorem Jv {m:Nat} {row:List Int} (h:row.length=m):(rt row).length≤m:=by
 unfold rt
 rw[List.length_map]
 refine Nat.le_trans (List.length_filter_le ..) ?_
 rw[List.length_range,h]
 exact Nat.le_refl _
end MyW
namespace MyX
open My MyB MyC MyD MyE MyF MyG MyS MyI MyJ MyK MyT MyU MyV MyW PySem L2
def top (i:Nat):Stmt:=PySem.Challenge.pw_tariffgate_k66_said_otherwise.main.body.getD i (.Pass ⟨0,0,0,0⟩)
theorem aj:(("_law_rooms_here":Str) == ("__debug__":Str))=false:=by decide
theorem ak:(("_law_rooms_here":Str) == ("__classdict__":Str))=false:=by decide
theorem ft:("_law_rooms_here":Str)≠"__name__":=by decide
theorem bx:(("_law_spare":Str) == ("__debug__":Str))=false:=by decide
theorem bz:(("_law_spare":Str) == ("__classdict__":Str))=false:=by decide
theorem aJ:(("_law_due_here":Str) == ("__debug__":Str))=false:=by decide
theorem aK:(("_law_due_here":Str) == ("__classdict__":Str))=false:=by decide
theorem bG:(("_law_cuts":Str) == ("__debug__":Str))=false:=by decide
theorem bH:(("_law_cuts":Str) == ("__classdict__":Str))=false:=by decide
theorem dZ:(("_law_bits":Str) == ("__debug__":Str))=false:=by decide
theorem d9:(("_law_bits":Str) == ("__classdict__":Str))=false:=by decide
theorem gv:(("_law_most":Str) == ("__debug__":Str))=false:=by decide
theorem gw:(("_law_most":Str) == ("__classdict__":Str))=false:=by decide
theorem pO:(("_law_held":Str) == ("__debug__":Str))=false:=by decide
theorem pP:(("_law_held":Str) == ("__classdict__":Str))=false:=by decide
abbrev ai:Stmt:=top 28
theorem aL:FnScope ["_law_rooms_here","_law_line_here","_law_spare","_law_room","_law_due_here","_law_cuts","_law_places","_law_weight","_law_bits","_law_most","_law_held","_law_k"] ["_law_rooms_here","_law_line_here"] (defScope ai):=⟨rfl,rfl,rfl,by decide +kernel,rfl,by decide +kernel,by decide +kernel⟩
theorem kq:Vis (defScope ai) "_law_rooms_here":=by decreasing_trivial
theorem qD:Vis (defScope ai) "_law_line_here":=by decreasing_trivial
theorem bM:Vis (defScope ai) "_law_spare":=by decreasing_trivial
theorem kr:Loc (defScope ai) "_law_spare":=by first | exact Or.inl rfl | exact Or.inr rfl
theorem qE:Loc (defScope ai) "_law_room":=by first | exact Or.inl rfl | exact Or.inr rfl
theorem kx:Vis (defScope ai) "_law_due_here":=by decreasing_trivial
theorem qF:Loc (defScope ai) "_law_due_here":=by first | exact Or.inl rfl | exact Or.inr rfl
theorem ky:Vis (defScope ai) "_law_cuts":=by decreasing_trivial
theorem qG:Loc (defScope ai) "_law_cuts":=by first | exact Or.inl rfl | exact Or.inr rfl
theorem qH:Vis (defScope ai) "_law_places":=by decreasing_trivial
theorem qI:Loc (defScope ai) "_law_places":=by first | exact Or.inl rfl | exact Or.inr rfl
theorem kz:Vis (defScope ai) "_law_weight":=by decreasing_trivial
theorem qJ:Loc (defScope ai) "_law_weight":=by first | exact Or.inl rfl | exact Or.inr rfl
theorem eY:Vis (defScope ai) "_law_bits":=by decreasing_trivial
theorem qK:Loc (defScope ai) "_law_bits":=by first | exact Or.inl rfl | exact Or.inr rfl
theorem im:Vis (defScope ai) "_law_most":=by decreasing_trivial
theorem kC:Loc (defScope ai) "_law_most":=by first | exact Or.inl rfl | exact Or.inr rfl
theorem pQ:Vis (defScope ai) "_law_held":=by decreasing_trivial
theorem jQ:Loc (defScope ai) "_law_held":=by first | exact Or.inl rfl | exact Or.inr rfl
theorem bY:Vis (defScope ai) "_law_k":=by decreasing_trivial
theorem jS:Loc (defScope ai) "_law_k":=by first | exact Or.inl rfl | exact Or.inr rfl
theorem n5:(defScope ai).names.lookup ("sum":Str)=some .globalImplicit:=by rfl
theorem eh:(defScope ai).names.lookup ("range":Str)=some .globalImplicit:=by rfl
theorem fC:(defScope ai).names.lookup ("len":Str)=some .globalImplicit:=by rfl
def spr (rooms:List Int) (L:List En) (G:List Int) (k s:Nat):Int:=roomS rooms rooms.length (mj s)-sumG L (fun e=>G.getD e 0) (mj s) k
theorem two_m {m:Nat} (h:m≤6):2 ^ m≤64:=Nat.pow_le_pow_right (by decide) h
theorem Ae {rooms:List Int} {L:List En} {G:List Int} {k s:Nat} (h:(pl L k).all (mj s)=true):spr rooms L G (k+1) s=spr rooms L G k s-G.getD k 0:=by
 unfold spr sumG
 rw[iN,if_pos h]
 dsimp only
 omega
theorem BX {rooms:List Int} {L:List En} {G:List Int} {k s:Nat} (h:¬ (pl L k).all (mj s)=true):spr rooms L G (k+1) s=spr rooms L G k s:=by
 unfold spr sumG
 rw[iN,if_neg h]
 omega
def tU (rooms:List Int) (L:List En) (G:List Int) (N k s:Nat):List Int:=(List.range N).map fun t=>spr rooms L G (if t<s then k+1 else k) t
theorem nQ {rooms:List Int} {L:List En} {G:List Int} {N k s:Nat}:(tU rooms L G N k s).length=N:=by rw[tU,List.length_map,List.length_range]
theorem uz {rooms:List Int} {L:List En} {G:List Int} {N k s t:Nat} (h:t<N):(tU rooms L G N k s)[t]?=some (spr rooms L G (if t<s then k+1 else k) t):=by
 rw[tU,List.getElem?_map,List.getElem?_range h]
 rfl
theorem Fd {rooms:List Int} {L:List En} {G:List Int} {N k:Nat}:tU rooms L G N k N=tU rooms L G N (k+1) 0:=by
 refine List.ext_getElem? fun t=>?_
 by_cases h:t<N
 ·rw[uz h,uz h,if_pos h,if_neg (by omega)]
 ·rw[List.getElem?_eq_none (by rw[nQ]; omega),List.getElem?_eq_none (by rw[nQ]; omega)]
theorem Fe {rooms:List Int} {L:List En} {G:List Int} {N k s:Nat}:(tU rooms L G N k s).set s (spr rooms L G (k+1) s)=tU rooms L G N k (s+1):=by
 refine List.ext_getElem? fun t=>?_
 by_cases h:t<N
 ·rw[uz h]
  by_cases z:s=t
  ·subst z
   rw[List.getElem?_set_self (by rw[nQ]; exact h),if_pos (by omega)]
  ·rw[List.getElem?_set_ne z,uz h]
   by_cases y:t<s
   ·rw[if_pos y,if_pos (by omega)]
   ·rw[if_neg y,if_neg (by omega)]
 ·rw[List.getElem?_eq_none (by rw[List.length_set,nQ]; omega),List.getElem?_eq_none (by rw[nQ]; omega)]
theorem FW {rooms:List Int} {L:List En} {G:List Int} {N k s:Nat} (h:¬ (pl L k).all (mj s)=true):tU rooms L G N k s=tU rooms L G N k (s+1):=by
 refine List.ext_getElem? fun t=>?_
 by_cases ht:t<N
 ·rw[uz ht,uz ht]
  by_cases z:t=s
  ·subst z
   rw[if_neg (by omega),if_pos (by omega),BX h]
  ·by_cases y:t<s
   ·rw[if_pos y,if_pos (by omega)]
   ·rw[if_neg y,if_neg (by omega)]
 ·rw[List.getElem?_eq_none (by rw[nQ]; omega),List.getElem?_eq_none (by rw[nQ]; omega)]
def CutN (K:PySem.W.Frag) (H:Hp) (rooms:List Int) (L:List En) (G:List Int) (e:Nat) (v:V):Prop:=(v=.non∧G.getD e 0=wt L e)∨∃ (c:Addr) (ns:List Int),v=.ref c∧SqL K H c (ns.map V.int)∧ns.length≤6∧G.getD e 0<wt L e∧ns.Nodup∧(∀ x∈ns,∃ j:Nat,x=(j:Int)∧j<rooms.length)∧(pl L e).all (inS ns)=true∧roomS rooms rooms.length (inS ns)=sumG L (fun e=>G.getD e 0) (inS ns) (e+1)
theorem CutN.same {K:PySem.W.Frag} {H H':Hp} {rooms:List Int} {L:List En} {G:List Int} {e:Nat} {v:V} (h:CutN K H rooms L G e v) (s:Same H H'):CutN K H' rooms L G e v:=by
 rcases h with h | ⟨c,ns,h1,h2,h3⟩
 ·exact .inl h
 ·exact .inr ⟨c,ns,h1,s.seq h2,h3⟩
def CM (K:PySem.W.Frag):Sp:=fun vs H Q _=>∃ (rm l:Addr) (rooms:List Int) (L:List En),vs=[.ref rm,.ref l]∧SqL K H rm (rooms.map V.int)∧LnAt K H l L∧LnL rooms.length L∧rooms.length≤6∧(∀ x∈rooms,0≤x)∧∀ (t du ow:Addr) (G:List Int) (us:List V) (H':Hp),Same H H'→SqT K H' t [.ref du,.ref ow]→H' du=some (.lst (G.map V.int))→H' ow=some (.lst us)→us.length=L.length→(∀ (e:Nat) (v:V),us[e]?=some v→CutN K H' rooms L G e v)→Most rooms L G→Q (.ref t) H'
theorem Cu:∀ i∈List.range 6,∀ s∈List.range (2 ^ i),(mj (2 ^ i+s) i=true∧mj s i=false)∧∀ j∈List.range i,mj (2 ^ i+s) j=mj s j:=by decide +kernel
theorem Ff {rooms:List Int} {i:Nat} (h:i<6):(List.range (2 ^ i)).map (fun s=>roomS rooms i (mj s))++((List.range (2 ^ i)).map (fun s=>roomS rooms i (mj s))).map (fun x=>x+rooms.getD i 0)=(List.range (2 ^ (i+1))).map fun s=>roomS rooms (i+1) (mj s):=by
 have e1:2 ^ (i+1)=2 ^ i+2 ^ i:=by rw[Nat.pow_succ]; omega
 rw[e1,List.range_add,List.map_append,List.map_map,List.map_map]
 congr 1
 ·refine List.map_congr_left fun s hs=>?_
  obtain⟨⟨_,b⟩,_⟩:=Cu i (List.mem_range.mpr h) s hs
  unfold roomS
  rw[iN,b,if_neg (by decide),Int.add_zero]
 ·refine List.map_congr_left fun s hs=>?_
  obtain⟨⟨a,_⟩,c⟩:=Cu i (List.mem_range.mpr h) s hs
  show roomS rooms i (mj s)+_=roomS rooms (i+1) (mj (2 ^ i+s))
  unfold roomS
  rw[iN,a,if_pos rfl]
  congr 1
  exact jw fun j hj=>by rw[c j (List.mem_range.mpr hj)]
theorem Cp {rooms:List Int} {L:List En} {G:List Int} {x:Int} {k s:Nat} (h:k≤G.length):spr rooms L (G++[x]) k s=spr rooms L G k s:=by
 unfold spr
 congr 1
 refine ud fun e he=>?_
 rw[List.getD,List.getD,List.getElem?_append_left (by omega)]
theorem Gf {rooms:List Int} {L:List En} {G:List Int} {x:Int} {N k:Nat} (h:k≤G.length):tU rooms L (G++[x]) N k 0=tU rooms L G N k 0:=by
 unfold tU
 refine List.map_congr_left fun t _=>?_
 rw[if_neg (by omega)]
 exact Cp h
theorem getD_snoc {G:List Int} {x:Int}:(G++[x]).getD G.length 0=x:=by
 rw[List.getD,List.getElem?_append_right (Nat.le_refl _),Nat.sub_self]
 rfl
theorem GZ {G:List Int} {x:Int} {e:Nat} (h:e<G.length):(G++[x]).getD e 0=G.getD e 0:=by
 rw[List.getD,List.getD,List.getElem?_append_left h]
def vn (m s:Nat):List Int:=((List.range m).filter (mj s)).map fun j:Nat=>(j:Int)
theorem yR {m s j:Nat} (h:j<m):inS (vn m s) j=mj s j:=by
 unfold inS vn
 rw[Bool.eq_iff_iff,decide_eq_true_iff,List.mem_map]
 refine⟨?_,fun z=>⟨j,List.mem_filter.mpr ⟨List.mem_range.mpr h,z⟩,rfl⟩⟩
 rintro⟨i,hi,e⟩
 have:i=j:=by omega
 rw[← this]
 exact (List.mem_filter.mp hi).2
theorem Hj {m s:Nat}:∀ x∈vn m s,∃ j:Nat,x=(j:Int)∧j<m:=fun x hx=>by
 obtain⟨i,hi,rfl⟩:=List.mem_map.mp hx
 exact⟨i,rfl,List.mem_range.mp (List.mem_filter.mp hi).1⟩
theorem G4 {m s:Nat}:(vn m s).Nodup:=by
 unfold vn
 rw[List.Nodup,List.pairwise_map]
 exact List.Pairwise.filter _ (List.Pairwise.imp (fun h=>by omega) List.pairwise_lt_range)
theorem Gp {m s:Nat}:(vn m s).length≤m:=by
 unfold vn
 rw[List.length_map]
 refine Nat.le_trans (List.length_filter_le ..) ?_
 rw[List.length_range]
 exact Nat.le_refl _
section
variable {P:Program} {w:World} {K:PySem.W.Frag} {mg:Str→Option Value} {base:Heap} {f:Addr} {fd:FuncData}
theorem CD (F:Fun K "_law_due" "_law_due" ai f fd) (M:Mg mg):FnOk P w K mg base CX0 1 f fd ["_law_rooms_here","_law_line_here"] (CM K):=by
 refine F.ok aL (fun vs H Q E h=>?_) (fun cdv A outer s H vs Q E hr h=>?_)
 ·obtain⟨rm,l,rooms,L,rfl,_⟩:=h
  rfl
 obtain⟨rm,l,rooms,L,rfl,hrm,hL,ln,m6,r0,q⟩:=h
 refine⟨_,(@dI _ _ _ _ _ (@ic _ _ 2 _ _ _ _ aL.nd rfl kr (@rE _ _ _ _ (@bO _ _ _ _ _ (@dw _ _ _ _) (@cT _) (cg rfl))) (fZ rfl) (.inl rfl)) (@dI _ _ _ _ _ (@pC _ _ _ _ _ _ _ _ PassesOwn.never rfl (@kL _ _ _ _ (@cO _ 0 _ _ rfl kq aj ak)) (@fj _ _ 3 _ aL.nd rfl qE (.inl rfl)) (@eF _ _ _ (@ic _ _ 2 _ _ _ _ aL.nd rfl kr (@iI _ _ _ _ _ _ _ _ (@AZ _) (@cO _ 2 _ _ rfl bM bx bz) (@mS _ _ _ _ _ _ _ _ _ _ _ _ _ _ _ rfl (CompOk.make (N':=["_law_room","_law_number"]) (ix:=[3]) (nl:=1) (by rfl) (fm1 rfl fm0) (by rfl) (by decide +kernel) rfl (by decide +kernel) rfl (And.intro ⟨rfl,.inl rfl,.inl rfl⟩ True.intro)) (@kL _ _ _ _ (@cO _ 2 _ _ rfl bM bx bz)) (fun _ _ _ _ _=>(@fj _ _ 1 _ (show List.Nodup (["_law_room","_law_number"]:List Str) from by decide) rfl (Or.inl rfl) (by first | exact .inl rfl | exact .inr rfl | assumption))) (fun _ _ _ _ _=>(@nk _)) (fun _ _ _ _ _=>(@iI _ _ _ _ _ _ _ _ (@qU _) (@pv _ 1 _ _ (by rfl) (by decreasing_trivial) (by decide) (by decide)) (@pv _ 0 _ _ (by rfl) (by decreasing_trivial) (by decide) (by decide)))) (by intro _; rfl))) (fZ rfl) (.inl rfl))) (by intro _; rfl)) (@dI _ _ _ _ _ (@ic _ _ 4 _ _ _ _ aL.nd rfl qF (@rE _ _ _ _ (@cT _)) (fZ rfl) (.inl rfl)) (@dI _ _ _ _ _ (@ic _ _ 5 _ _ _ _ aL.nd rfl qG (@rE _ _ _ _ (@cT _)) (fZ rfl) (.inl rfl)) (@dI _ _ _ _ _ (@pC _ _ _ _ _ _ _ _ PassesOwn.never rfl (@kL _ _ _ _ (@cO _ 1 _ _ rfl qD aa ae)) (@uP _ _ _ _ _ _ rfl (@gS _ _ _ _ _ (@fj _ _ 6 _ aL.nd rfl qI (.inl rfl)) (@gS _ _ _ _ _ (@fj _ _ 7 _ aL.nd rfl qJ (.inl rfl)) (@oW _) (by rfl)) (by rfl)) (by rfl) (by rfl)) (@dI _ _ _ _ _ (@ic _ _ 8 _ _ _ _ aL.nd rfl qK (@fY _ _ _ _ _ _ _ _ _ (uw rfl) n5 M.m_sum wO (@bO _ _ _ _ _ (@mS _ _ _ _ _ _ _ _ _ _ _ _ _ _ _ rfl (CompOk.make (N':=["_law_place"]) (ix:=[]) (nl:=1) (by rfl) fm0 (by rfl) (by decide +kernel) rfl (by decide +kernel) rfl True.intro) (@kL _ _ _ _ (@cO _ 6 _ _ rfl qH eN eO)) (fun _ _ _ _ _=>(@fj _ _ 0 _ (show List.Nodup (["_law_place"]:List Str) from by decide) rfl (Or.inl rfl) (by first | exact .inl rfl | exact .inr rfl | assumption))) (fun _ _ _ _ _=>(@nk _)) (fun _ _ _ _ _=>(@uG _ _ _ _ _ _ _ (@bO _ _ _ _ _ (@dw _ _ _ _) (@bO _ _ _ _ _ (@dw _ _ _ _) (@bO _ _ _ _ _ (@dw _ _ _ _) (@bO _ _ _ _ _ (@dw _ _ _ _) (@bO _ _ _ _ _ (@dw _ _ _ _) (@bO _ _ _ _ _ (@dw _ _ _ _) (@cT _) (cg rfl)) (cg rfl)) (cg rfl)) (cg rfl)) (cg rfl)) (cg rfl)) (@pv _ 0 _ _ (by rfl) (by decreasing_trivial) (by decide) (by decide)) (fun _ _=>rfl))) (by intro _; rfl)) (@cT _) (cg rfl)) dR dQ (cg rfl) ff) (fZ rfl) (.inl rfl)) (@dI _ _ _ _ _ (@ic _ _ 9 _ _ _ _ aL.nd rfl kC (@cO _ 7 _ _ rfl kz eP eQ) (fZ rfl) (.inl rfl)) (@dI _ _ _ _ _ (@ic _ _ 10 _ _ _ _ aL.nd rfl jQ (@tZ _ _ _) (fZ rfl) (.inl rfl)) (@dI _ _ _ _ _ (@pC _ _ _ _ _ _ _ _ PassesOwn.never rfl (@sW _ _ _ _ _ _ eh M.m_range (@bO _ _ _ _ _ (@fY _ _ _ _ _ _ _ _ _ iU fC M.m_len pW (@bO _ _ _ _ _ (@cO _ 2 _ _ rfl bM bx bz) (@cT _) (cg rfl)) aA az (cg rfl) ff) (@cT _) (cg rfl)) (star1' rfl)) (@fj _ _ 11 _ aL.nd rfl jS (.inl rfl)) (@eF _ _ _ (@nC _ _ _ _ _ _ _ _ (@PW.pt _ _ _ (@yc _ _ _ _ _ _ _ (@kB _ _ _ _ _ _ _ _ (@um _) (@iI _ _ _ _ _ _ _ _ yj (@cO _ 11 _ _ rfl bY aR aS) (@cO _ 8 _ _ rfl eY dZ d9)) (@cO _ 8 _ _ rfl eY dZ d9) (i8 _)) (@yc _ _ _ _ _ _ _ (@kB _ _ _ _ _ _ _ _ (@Gx _) (@gu _ _ _ _ _ _ _ (@iV _) (@cO _ 2 _ _ rfl bM bx bz) (@cO _ 11 _ _ rfl bY aR aS) (fun _ _=>rfl)) (@cO _ 7 _ _ rfl kz eP eQ) (i8 _)) (@Cr _ _ _ _ (@kB _ _ _ _ _ _ _ _ zP (@gu _ _ _ _ _ _ _ (@iV _) (@cO _ 2 _ _ rfl bM bx bz) (@cO _ 11 _ _ rfl bY aR aS) (fun _ _=>rfl)) (@cO _ 9 _ _ rfl im gv gw) (i8 _)))))) (@dI _ _ _ _ _ (@ic _ _ 9 _ _ _ _ aL.nd rfl kC (@gu _ _ _ _ _ _ _ (@iV _) (@cO _ 2 _ _ rfl bM bx bz) (@cO _ 11 _ _ rfl bY aR aS) (fun _ _=>rfl)) (fZ rfl) (.inl rfl)) (@eF _ _ _ (@uE _ _ _ _ _ _ _ _ _ _ _ _ _ _ _ 10 _ _ _ aL.nd rfl jQ rfl (CompOk.make (N':=["_law_k","_law_place"]) (ix:=[11]) (nl:=1) (by rfl) (fm1 rfl fm0) (by rfl) (by decide +kernel) rfl (by decide +kernel) rfl (And.intro ⟨rfl,.inl rfl,.inl rfl⟩ True.intro)) (@sW _ _ _ _ _ _ eh M.m_range (@bO _ _ _ _ _ (@fY _ _ _ _ _ _ _ _ _ iU fC M.m_len pW (@bO _ _ _ _ _ (@cO _ 0 _ _ rfl kq aj ak) (@cT _) (cg rfl)) aA az (cg rfl) ff) (@cT _) (cg rfl)) (star1' rfl)) (fun _ _ _ _ _=>(@fj _ _ 1 _ (show List.Nodup (["_law_k","_law_place"]:List Str) from by decide) rfl (Or.inl rfl) (by first | exact .inl rfl | exact .inr rfl | assumption))) (fun _ _ _ _ _=>(@ux _ _ _ (@kB _ _ _ _ _ _ _ _ (@um _) (@iI _ _ _ _ _ _ _ _ yj (@iI _ _ _ _ _ _ _ _ ER (@pv _ 0 _ _ (by rfl) (by decreasing_trivial) (by decide) (by decide)) (@pv _ 1 _ _ (by rfl) (by decreasing_trivial) (by decide) (by decide))) (@dw _ _ _ _)) (@dw _ _ _ _) (i8 _)))) (fun _ _ _ _ _=>(@pv _ 1 _ _ (by rfl) (by decreasing_trivial) (by decide) (by decide))) (by rfl) (by intro _; rfl) (by first | exact .inl rfl | exact .inr rfl | assumption)))) (@m8 _))) (by intro _; rfl)) (@dI _ _ _ _ _ (@pC _ _ _ _ _ _ _ _ PassesOwn.never rfl (@sW _ _ _ _ _ _ eh M.m_range (@bO _ _ _ _ _ (@fY _ _ _ _ _ _ _ _ _ iU fC M.m_len pW (@bO _ _ _ _ _ (@cO _ 2 _ _ rfl bM bx bz) (@cT _) (cg rfl)) aA az (cg rfl) ff) (@cT _) (cg rfl)) (star1' rfl)) (@fj _ _ 11 _ aL.nd rfl jS (.inl rfl)) (@eF _ _ _ (@nC _ _ _ _ _ _ _ _ (@kB _ _ _ _ _ _ _ _ (@um _) (@iI _ _ _ _ _ _ _ _ yj (@cO _ 11 _ _ rfl bY aR aS) (@cO _ 8 _ _ rfl eY dZ d9)) (@cO _ 8 _ _ rfl eY dZ d9) (i8 _)) (@eF _ _ _ (@wc _ _ _ _ _ _ (@iI _ _ _ _ _ _ _ _ (@IQ _) (@gu _ _ _ _ _ _ _ (@iV _) (@cO _ 2 _ _ rfl bM bx bz) (@cO _ 11 _ _ rfl bY aR aS) (fun _ _=>rfl)) (@cO _ 9 _ _ rfl im gv gw)) (@Ab _ _ _ _ _ _ _ (@cO _ 2 _ _ rfl bM bx bz) (@cO _ 11 _ _ rfl bY aR aS) set_list (by intro _; rfl)) (by rfl) (by rfl) (by rfl))) (@m8 _))) (by intro _; rfl)) (@dI _ _ _ _ _ (@r8 _ _ _ _ (@uo _ _ _ _ _ _ _ _ _ _ _ _ PySem.F.plainAttrs_list PySem.F.slot_list_append PySem.F.type_list_append nR (@cO _ 4 _ _ rfl kx aJ aK) (@bO _ _ _ _ _ (@cO _ 9 _ _ rfl im gv gw) (@cT _) (cg rfl)) (by rfl) (by rfl) (by rfl) (by rfl) (by rfl)) (fZ rfl)) (@eF _ _ _ (@r8 _ _ _ _ (@uo _ _ _ _ _ _ _ _ _ _ _ _ PySem.F.plainAttrs_list PySem.F.slot_list_append PySem.F.type_list_append nR (@cO _ 5 _ _ rfl ky bG bH) (@bO _ _ _ _ _ (@cO _ 10 _ _ rfl pQ pO pP) (@cT _) (cg rfl)) (by rfl) (by rfl) (by rfl) (by rfl) (by rfl)) (fZ rfl))))))))) (by intro _; rfl)) (@eF _ _ _ (@ia _ _ _ _ (@tP _ _ _ _ _ (@bO _ _ _ _ _ (@cO _ 4 _ _ rfl kx aJ aK) (@bO _ _ _ _ _ (@cO _ 5 _ _ rfl ky bG bH) (@cT _) (cg rfl)) (cg rfl)))))))))),?_⟩
 obtain⟨us,hus,hpa⟩:=id hL
 have lus:us.length=L.length:=Paired.length hpa
 have l40:=ln.l
 trivial
 refine⟨by decide,fun p0 hp0=>?_⟩
 obtain⟨H0,g0,S0,T0⟩:=nJ hp0 [V.int 0]
 rw[← g0]
 clear g0
 refine⟨⟨_,S0.seq hrm⟩,?_⟩
 obtain⟨Pv,hP⟩:∃ Pv:Nat→St→Hp→Prop,Pv=fun i σ H'=>∃ (sp:Addr) (z:Option V),H' sp=some (.lst (((List.range (2 ^ i)).map fun s=>roomS rooms i (mj s)).map V.int))∧H sp=none∧Same H H'∧σ=[some (.ref rm),some (.ref l),some (.ref sp),z,none,none,none,none,none,none,none,none]:=⟨_,rfl⟩
 refine sy (rooms.map V.int) Pv ?_ (fun i σ H' _ h=>by rw[hP] at h; obtain⟨_,_,_,_,e,_⟩:=h; exact e.seq hrm) ?_ ?_
 ·rw[hP]
  exact⟨p0,_,T0,hp0,S0,rfl⟩
 ·intro i v σ H1 hv h
  rw[hP] at h
  obtain⟨sp,z,d1,hsp,e1,rfl⟩:=h
  rw[List.getElem?_map] at hv
  obtain⟨x,hx,rfl⟩:=Option.map_eq_some_iff.mp hv
  have li:=(List.getElem?_eq_some_iff.mp hx).1
  have ex:rooms.getD i 0=x:=by rw[List.getD,hx]; rfl
  have s2:2 ^ i≤64:=Nat.le_trans (two_m (m:=i) (by omega)) (Nat.le_refl _)
  have llen:((List.range (2 ^ i)).map fun s=>roomS rooms i (mj s)).length=2 ^ i:=by rw[List.length_map,List.length_range]
  trivial
  refine⟨⟨_,SqL.of d1⟩,fun D hD=>?_⟩
  obtain⟨ms,hms⟩:∃ ms,ms=(List.range (2 ^ i)).map fun s=>roomS rooms i (mj s):=⟨_,rfl⟩
  rw[← hms] at d1 llen
  obtain⟨Pc,hC⟩:∃ Pc:Nat→St→Hp→Prop,Pc=fun k τ H'=>∃ (z:Option V),H' D=some (.lst (((ms.take k).map fun y=>y+x).map V.int))∧Same H1 H'∧τ=[some (.int x),z]:=⟨_,rfl⟩
  refine mC (ms.map V.int) Pc ?_ (fun i τ H' _ h=>by rw[hC] at h; obtain⟨_,_,e,_⟩:=h; exact SqL.of (e _ _ d1)) ?_ ?_
  ·rw[hC]
   exact⟨_,cY,fD hD _,rfl⟩
  ·intro k v τ H' R' hv h next
   rw[hC] at h
   obtain⟨z2,d2,e2,rfl⟩:=h
   rw[List.getElem?_map] at hv
   obtain⟨y,hy,rfl⟩:=Option.map_eq_some_iff.mp hv
   have lk:=(List.getElem?_eq_some_iff.mp hy).1
   trivial
   refine⟨_,d2,?_,next _ _ ?_⟩
   ·rw[List.length_map,List.length_map,List.length_take]
    exact Nat.lt_of_lt_of_le (m:=1000) (by omega) (by decide)
   ·rw[hC]
    refine⟨_,?_,fS e2 hD _,rfl⟩
    rw[cY,List.take_add_one,hy,List.map_append,List.map_append]
    rfl
  intro τ H2 h
  rw[hC] at h
  obtain⟨z2,d2,e2,rfl⟩:=h
  rw[List.length_map,List.take_length] at d2
  refine⟨D,rfl,_,e2 _ _ d1,_,d2,?_,fun p hp=>?_⟩
  ·rw[List.length_map,List.length_map,List.length_map,llen]
   exact Nat.le_trans (m:=1000) (by omega) (by decide)
  rw[hP]
  refine⟨p,_,?_,none_of (e1.trans e2) hp,(e1.trans e2).trans (fD hp _),rfl⟩
  rw[cY,← List.map_append,hms,← ex,Ff (by omega)]
 intro σ H1 h
 rw[hP] at h
 obtain⟨sp,z,d1,hsp,e1,rfl⟩:=h
 clear hP
 rw[List.length_map] at d1
 obtain⟨N,hN⟩:∃ N,N=2 ^ rooms.length:=⟨_,rfl⟩
 have N64:N≤64:=by rw[hN]; exact two_m m6
 have d1':H1 sp=some (.lst ((tU rooms L [] N 0 0).map V.int)):=by
  rw[d1,hN]
  congr 3
  unfold tU
  refine List.map_congr_left fun t _=>?_
  rw[if_neg (by omega)]
  show _=roomS rooms rooms.length (mj t)-0
  omega
 trivial
 refine⟨by decide,fun du hdu=>⟨by decide,fun ow how=>?_⟩⟩
 have hdu':=none_of e1 hdu
 have nOD:ow≠du:=fun z=>by rw[z,cY] at how; cases how
 have how1:H1 ow=none:=by rw[er nOD] at how; exact how
 have how':=none_of e1 how1
 have nn:∀ {Hx:Hp} {a b:Addr} {u:HO},Hx a=none→Hx b=some u→a≠b:=fun h1 h2 z=>by rw[← z,h1] at h2; cases h2
 have nSD:du≠sp:=nn hdu d1
 have nSO:ow≠sp:=nn how1 d1
 have S2:Same H (upd (upd H1 du (.lst [])) ow (.lst [])):=fS (fS e1 hdu' _) how' _
 refine⟨⟨_,S2.seq hus⟩,?_⟩
 obtain⟨Pv,hP⟩:∃ Pv:Nat→St→Hp→Prop,Pv=fun e σ H'=>∃ (G:List Int) (cs:List V) (z6 z7 z8 z9 z10 z11:Option V),H' sp=some (.lst ((tU rooms L G N e 0).map V.int))∧H' du=some (.lst (G.map V.int))∧H' ow=some (.lst cs)∧G.length=e∧cs.length=e∧(∀ k s,k≤e→s<N→0≤spr rooms L G k s)∧(∀ k,k<e→0≤G.getD k 0∧G.getD k 0≤wt L k)∧(∀ (k:Nat) (v:V),cs[k]?=some v→(v=.non∧G.getD k 0=wt L k)∨∃ (c:Addr) (s:Nat),v=.ref c∧H' c=some (.lst ((vn rooms.length s).map V.int))∧c≠sp∧c≠du∧c≠ow∧G.getD k 0<wt L k∧(pl L k).all (mj s)=true∧spr rooms L G (k+1) s=0)∧Same H H'∧σ=[some (.ref rm),some (.ref l),some (.ref sp),z,some (.ref du),some (.ref ow),z6,z7,z8,z9,z10,z11]:=⟨_,rfl⟩
 refine sy us Pv ?_ (fun i σ H' _ h=>by rw[hP] at h; obtain⟨_,_,_,_,_,_,_,_,_,_,_,_,_,_,_,_,e,_⟩:=h; exact e.seq hus) ?_ ?_
 ·rw[hP]
  refine⟨[],[],_,_,_,_,_,_,?_,?_,cY,rfl,rfl,fun k s hk hs=>?_,(fun k hk=>by omega),(fun k v hv=>by cases hv),S2,rfl⟩
  ·rw[er (Ne.symm nSO),er (Ne.symm nSD)]
   exact d1'
  ·rw[er (Ne.symm nOD),cY]
   rfl
  ·have k0:k=0:=by omega
   subst k0
   show 0≤roomS rooms rooms.length (mj s)-0
   have:0≤roomS rooms rooms.length (mj s):=by
    unfold roomS
    refine wY fun j hj=>?_
    split
    ·rw[My.getD_at hj]
     exact r0 _ (List.getElem_mem hj)
    ·exact Int.le_refl _
   omega
 ·intro e v σ H2 hv h
  rw[hP] at h
  obtain⟨G,cs,z6,z7,z8,z9,z10,z11,dsp,ddu,dow,lG,lc,sn,gb,cut,e2,rfl⟩:=h
  have le:=(List.getElem?_eq_some_iff.mp hv).1
  have he:e<L.length:=by omega
  obtain⟨en,hen⟩:∃ en,L[e]?=some en:=⟨_,List.getElem?_eq_getElem he⟩
  obtain⟨te,qe,b1,b2,b3⟩:=tT hpa hen
  rw[hv] at b1
  cases b1
  have ew:wt L e=en.2:=by rw[wt,List.getD,hen]; rfl
  have ep:pl L e=en.1:=by rw[pl,List.getD,hen]; rfl
  have w0:0≤wt L e:=by rw[ew]; exact (ln.w en (List.mem_of_getElem? hen)).1
  rw[← ew] at b2
  rw[← ep] at b3
  have ple:=x8 ln he
  have pm:∀ j∈pl L e,j<rooms.length:=fun j hj=>List.mem_range.mp (ple.subset hj)
  have pll:(pl L e).length≤6:=by
   have:=ple.length_le
   rw[List.length_range] at this
   omega
  trivial
  refine⟨_,Same.tup e2 b2,rfl,?_⟩
  trivial
  refine⟨⟨_,e2.seq b3⟩,fun D hD=>?_⟩
  obtain⟨Pc,hC⟩:∃ Pc:Nat→St→Hp→Prop,Pc=fun i τ H'=>∃ (z:Option V),H' D=some (.lst ((((pl L e).take i).map tw).map V.int))∧Same H2 H'∧τ=[z]:=⟨_,rfl⟩
  refine mC _ Pc ?_ (fun i τ H' _ h=>by rw[hC] at h; obtain⟨_,_,e',_⟩:=h; exact (e2.trans e').seq b3) ?_ ?_
  ·rw[hC]
   exact⟨_,cY,fD hD _,rfl⟩
  ·intro i x τ H' R' hx h next
   rw[hC] at h
   obtain⟨z,d1,e',rfl⟩:=h
   rw[List.getElem?_map] at hx
   obtain⟨j,hj,rfl⟩:=Option.map_eq_some_iff.mp hx
   have li:=(List.getElem?_eq_some_iff.mp hj).1
   have j6:=pm j (List.mem_of_getElem? hj)
   have me:[V.int 1,V.int 2,V.int 4,V.int 8,V.int 16,V.int 32][((j:Nat):Int).toNat]?=some (.int (tw j)):=by
    rw[Int.toNat_natCast]
    rcases j with _ | _ | _ | _ | _ | _ | j
    ·rfl
    ·rfl
    ·rfl
    ·rfl
    ·rfl
    ·rfl
    ·omega
   trivial
   refine⟨by decide,by omega,_,me,_,d1,?_,next _ _ ?_⟩
   ·rw[List.length_map,List.length_map,List.length_take]
    exact Nat.lt_of_lt_of_le (m:=1000) (by omega) (by decide)
   ·rw[hC]
    refine⟨_,?_,fS e' hD _,rfl⟩
    rw[cY,List.take_add_one,hj,List.map_append,List.map_append]
    rfl
  intro τ H3 h
  rw[hC] at h
  obtain⟨zc,dD,e3,rfl⟩:=h
  clear hC
  rw[List.length_map,List.take_length] at dD
  have dsp3:=e3 _ _ dsp
  have e23:=e2.trans e3
  refine⟨D,rfl,_,SqL.of dD,_,.inl (SqL.of dsp3),by rw[List.length_map,nQ]; omega,by rw[List.length_map,nQ]; omega,?_⟩
  rw[List.length_map,nQ,Int.toNat_natCast,show ((pl L e).map tw).sum=xS (pl L e) from rfl]
  obtain⟨Pa,hA⟩:∃ Pa:Nat→St→Hp→Prop,Pa=fun i σ H'=>∃ (mo:Int) (hv:V) (y:Option V),Same H3 H'∧0≤mo∧mo≤wt L e∧(∀ s,s<i→(pl L e).all (mj s)=true→mo≤spr rooms L G e s)∧((hv=.non∧mo=wt L e)∨∃ (c:Addr) (s:Nat),hv=.ref c∧H' c=some (.lst ((vn rooms.length s).map V.int))∧H3 c=none∧(pl L e).all (mj s)=true∧spr rooms L G e s=mo∧mo<wt L e)∧σ=[some (.ref rm),some (.ref l),some (.ref sp),z,some (.ref du),some (.ref ow),some (.ref qe),some (.int (wt L e)),some (.int (xS (pl L e))),some (.int mo),some hv,y]:=⟨_,rfl⟩
  refine ue Pa ?_ ?_ ?_
  ·rw[hA]
   exact⟨_,_,_,fun _ _ h=>h,w0,Int.le_refl _,(fun s hs=>by omega),.inl ⟨rfl,rfl⟩,rfl⟩
  ·intro i σ H4 hi h
   rw[hA] at h
   obtain⟨mo,hv,y,e4,m0,mw,ml,mh,rfl⟩:=h
   have iw:=Cz ln m6 (show i<64 by omega) he
   have ei:(0+(i:Int))=(i:Int):=by omega
   have dsp4:=e4 _ _ dsp3
   have iat:atI ((tU rooms L G N e 0).map V.int) (i:Int)=some (.int (spr rooms L G e i)):=by
    refine oh ?_
    rw[List.getElem?_map,uz hi,if_neg (by omega)]
    rfl
   have sni:=sn e i (Nat.le_refl _) hi
   trivial
   by_cases hin:(pl L e).all (mj i)=true
   ·rw[ei,if_pos (iw.mpr hin)]
    refine⟨_,SqL.of dsp4,_,iat,_,rfl,?_⟩
    by_cases h1:spr rooms L G e i<wt L e
    ·rw[if_pos h1]
     refine⟨_,SqL.of dsp4,_,iat,_,rfl,?_⟩
     by_cases h2:spr rooms L G e i≤mo
     ·rw[if_pos h2]
      refine⟨_,SqL.of dsp4,_,iat,_,.inl ((e23.trans e4).seq hrm),by rw[List.length_map]; omega,by rw[List.length_map]; omega,fun D2 hD2=>?_⟩
      rw[List.length_map,Int.toNat_natCast]
      obtain⟨Pc,hC⟩:∃ Pc:Nat→St→Hp→Prop,Pc=fun j τ H'=>∃ (z:Option V),H' D2=some (.lst (((List.range j).filter (mj i)).map fun j:Nat=>V.int (j:Int)))∧Same H4 H'∧τ=[some (.int (i:Int)),z]:=⟨_,rfl⟩
      refine vA Pc ?_ ?_ ?_
      ·rw[hC]
       exact⟨_,cY,fD hD2 _,rfl⟩
      ·intro j τ H' R' hj h next
       rw[hC] at h
       obtain⟨z,d4,e5,rfl⟩:=h
       have epj:(List.range (j+1)).filter (mj i)=(List.range j).filter (mj i)++[j].filter (mj i):=by
        rw[List.range_succ,List.filter_append]
       have ll:((List.range j).filter (mj i)).length≤j:=by
        refine Nat.le_trans (List.length_filter_le ..) ?_
        rw[List.length_range]
        exact Nat.le_refl _
       trivial
       rw[show (0+(j:Int))=((j:Nat):Int) by omega,Int.toNat_natCast]
       refine⟨by omega,?_⟩
       by_cases hz:Builtin.bitAnd ((i:Int) / 2 ^ j) 1=1
       ·rw[if_pos hz]
        refine⟨_,d4,by rw[List.length_map]; exact Nat.lt_of_lt_of_le (m:=1000) (by omega) (by decide),next _ _ ?_⟩
        rw[hC]
        refine⟨_,?_,fS e5 hD2 _,rfl⟩
        rw[cY,epj,List.filter_cons_of_pos (show mj i j=true from decide_eq_true hz),List.filter_nil,List.map_append]
        rfl
       ·rw[if_neg hz]
        refine next _ _ ?_
        rw[hC]
        refine⟨_,?_,e5,rfl⟩
        rw[epj,List.filter_cons_of_neg (show ¬ mj i j=true from fun y=>hz (of_decide_eq_true y)),List.filter_nil,List.append_nil]
        exact d4
      intro τ H5 h
      rw[hC] at h
      obtain⟨z',d5,e5,rfl⟩:=h
      rw[hA]
      refine⟨_,_,_,e4.trans e5,sni,Int.le_of_lt h1,fun s hs hs2=>?_,.inr ⟨D2,i,rfl,?_,none_of e4 hD2,hin,rfl,h1⟩,rfl⟩
      ·by_cases y:s=i
       ·rw[y]
        exact Int.le_refl _
       ·exact Int.le_trans h2 (ml s (by omega) hs2)
      ·rw[d5,vn,List.map_map]
       rfl
     ·rw[if_neg h2,hA]
      refine⟨_,_,_,e4,m0,mw,fun s hs hs2=>?_,mh,rfl⟩
      by_cases y:s=i
      ·rw[y]
       omega
      ·exact ml s (by omega) hs2
    ·rw[if_neg h1,hA]
     refine⟨_,_,_,e4,m0,mw,fun s hs hs2=>?_,mh,rfl⟩
     by_cases y:s=i
     ·rw[y]
      omega
     ·exact ml s (by omega) hs2
   ·rw[ei,if_neg fun y=>hin (iw.mp y),hA]
    refine⟨_,_,_,e4,m0,mw,fun s hs hs2=>?_,mh,rfl⟩
    by_cases y:s=i
    ·subst y
     exact absurd hs2 hin
    ·exact ml s (by omega) hs2
  ·intro σ H4 h
   rw[hA] at h
   obtain⟨mo,hv,y,e4,m0,mw,ml,mh,rfl⟩:=h
   clear hA
   have dsp4:=e4 _ _ dsp3
   have ddu4:=(e3.trans e4) _ _ ddu
   have dow4:=(e3.trans e4) _ _ dow
   have e24:=e23.trans e4
   trivial
   refine⟨_,.inl (SqL.of dsp4),by rw[List.length_map,nQ]; omega,by rw[List.length_map,nQ]; omega,?_⟩
   rw[List.length_map,nQ,Int.toNat_natCast]
   obtain⟨G',hG'⟩:∃ G',G'=G++[mo]:=⟨_,rfl⟩
   have ge:G'.getD e 0=mo:=by rw[hG',← lG]; exact getD_snoc
   have gl:∀ k,k<e→G'.getD k 0=G.getD k 0:=fun k hk=>by rw[hG']; exact GZ (by omega)
   have sx:∀ k s,k≤e→spr rooms L G' k s=spr rooms L G k s:=fun k s hk=>by rw[hG']; exact Cp (by omega)
   obtain⟨Pb,hB⟩:∃ Pb:Nat→St→Hp→Prop,Pb=fun i σ H'=>∃ (y:Option V),H' sp=some (.lst ((tU rooms L G' N e i).map V.int))∧(∀ b u,b≠sp→H4 b=some u→H' b=some u)∧Same H H'∧σ=[some (.ref rm),some (.ref l),some (.ref sp),z,some (.ref du),some (.ref ow),some (.ref qe),some (.int (wt L e)),some (.int (xS (pl L e))),some (.int mo),some hv,y]:=⟨_,rfl⟩
   refine ue Pb ?_ ?_ ?_
   ·rw[hB]
    refine⟨_,?_,fun _ _ _ h=>h,e24,rfl⟩
    rw[dsp4,hG',Gf (by omega)]
   ·intro i σ H5 hi h
    rw[hB] at h
    obtain⟨y,d5,k5,e5,rfl⟩:=h
    have iw:=Cz ln m6 (show i<64 by omega) he
    have ei:(0+(i:Int))=(i:Int):=by omega
    trivial
    by_cases hin:(pl L e).all (mj i)=true
    ·rw[ei,if_pos (iw.mpr hin)]
     have iat:atI ((tU rooms L G' N e i).map V.int) (i:Int)=some (.int (spr rooms L G' e i)):=by
      refine oh ?_
      rw[List.getElem?_map,uz hi,if_neg (by omega)]
      rfl
     have si:=Ae (rooms:=rooms) (G:=G') hin
     rw[ge] at si
     refine⟨_,SqL.of d5,_,iat,_,rfl,_,d5,i,vC (by rw[List.length_map,nQ]; exact hi),?_⟩
     rw[← si,← List.map_set,Fe,hB]
     exact⟨_,cY,fun b u hb h=>by rw[er hb]; exact k5 b u hb h,fS e5 hsp _,rfl⟩
    ·rw[ei,if_neg fun y=>hin (iw.mp y),hB]
     exact⟨_,by rw[← FW hin]; exact d5,k5,e5,rfl⟩
   ·intro σ H5 h
    rw[hB] at h
    obtain⟨y,d5,k5,e5,rfl⟩:=h
    rw[Fd] at d5
    have ddu5:=k5 _ _ nSD ddu4
    have dow5:=k5 _ _ nSO dow4
    trivial
    refine⟨.inl ⟨rfl,_,SqL.of ddu5⟩,_,ddu5,Nat.lt_of_lt_of_le (m:=1000) (by rw[List.length_map]; omega) (by decide),?_⟩
    have dow6:upd H5 du (.lst (G.map V.int++[V.int mo])) ow=some (.lst cs):=by rw[er nOD]; exact dow5
    refine⟨.inl ⟨rfl,_,SqL.of dow6⟩,_,dow6,Nat.lt_of_lt_of_le (m:=1000) (by omega) (by decide),?_⟩
    have keep:∀ b u,b≠sp→b≠du→b≠ow→H4 b=some u→upd (upd H5 du (.lst (G.map V.int++[V.int mo]))) ow (.lst (cs++[hv])) b=some u:=fun b u h1 h2 h3 h4=>by
     rw[er h3,er h2]
     exact k5 b u h1 h4
    rw[hP]
    refine⟨G',cs++[hv],_,_,_,_,_,_,?_,?_,cY,by rw[hG',List.length_append,lG]; rfl,by rw[List.length_append,lc]; rfl,fun k s hk hs=>?_,fun k hk=>?_,fun k v hv'=>?_,fS (fS e5 hdu' _) how' _,rfl⟩
    ·rw[er (Ne.symm nSO),er (Ne.symm nSD)]
     exact d5
    ·rw[er (Ne.symm nOD),cY,hG',List.map_append]
     rfl
    ·by_cases k1:k≤e
     ·rw[sx k s k1]
      exact sn k s k1 hs
     ·have ke:k=e+1:=by omega
      subst ke
      by_cases hin:(pl L e).all (mj s)=true
      ·rw[Ae hin,ge,sx e s (Nat.le_refl _)]
       have:=ml s hs hin
       omega
      ·rw[BX hin,sx e s (Nat.le_refl _)]
       exact sn e s (Nat.le_refl _) hs
    ·by_cases k1:k<e
     ·rw[gl k k1]
      exact gb k k1
     ·have ke:k=e:=by omega
      subst ke
      rw[ge]
      exact⟨m0,mw⟩
    ·by_cases k1:k<cs.length
     ·rw[List.getElem?_append_left k1] at hv'
      rw[gl k (by omega)]
      rcases cut k v hv' with h | ⟨c,s,h1,h2,h3,h4,h5,h6,h7,h8⟩
      ·exact .inl h
      ·exact .inr ⟨c,s,h1,keep c _ h3 h4 h5 ((e3.trans e4) _ _ h2),h3,h4,h5,h6,h7,by rw[sx (k+1) s (by omega)]; exact h8⟩
     ·have k2:=(List.getElem?_eq_some_iff.mp hv').1
      rw[List.length_append,List.length_singleton] at k2
      have ke:k=e:=by omega
      rw[List.getElem?_append_right (by omega),show k-cs.length=0 by omega] at hv'
      cases hv'
      subst ke
      rw[ge]
      rcases mh with h | ⟨c,s,h1,h2,h3,h4,h5,h6⟩
      ·exact .inl h
      ·have n1:c≠sp:=nn h3 dsp3
       have n2:c≠du:=nn h3 (e3 _ _ ddu)
       have n3:c≠ow:=nn h3 (e3 _ _ dow)
       exact .inr ⟨c,s,h1,keep c _ n1 n2 n3 h2,n1,n2,n3,h6,h4,by rw[Ae h4,ge,sx _ s (Nat.le_refl _),h5]; omega⟩
 ·intro σ H2 h
  rw[hP] at h
  obtain⟨G,cs,z6,z7,z8,z9,z10,z11,dsp,ddu,dow,lG,lc,sn,gb,cut,e2,rfl⟩:=h
  rw[lus] at lG lc sn gb
  trivial
  refine⟨by decide,fun t ht=>?_⟩
  obtain⟨H3,g3,S3,T3⟩:=ki (K:=K) ht [V.ref du,V.ref ow]
  rw[← g3]
  clear g3
  have ID:∀ (k:Nat) (v:V),cs[k]?=some v→CutN K H3 rooms L G k v:=fun k v hv=>by
   have lk:=(List.getElem?_eq_some_iff.mp hv).1
   rcases cut k v hv with h | ⟨c,s,h1,h2,_,_,_,h3,h4,h5⟩
   ·exact .inl h
   ·have plm:∀ j∈pl L k,j<rooms.length:=fun j hj=>List.mem_range.mp ((x8 ln (by omega)).subset hj)
    refine .inr ⟨c,vn rooms.length s,h1,SqL.of (S3 _ _ h2),Nat.le_trans Gp m6,h3,G4,Hj,?_,?_⟩
    ·rw[all_congr fun j hj=>yR (plm j hj)]
     exact h4
    ·rw[xu (S':=mj s) fun j hj=>yR hj,xy (S':=mj s) fun e' he' j hj=>yR (List.mem_range.mp ((x8 ln (by omega)).subset hj))]
     unfold spr at h5
     omega
  refine q t du ow G cs H3 (e2.trans S3) T3 (S3 _ _ ddu) (S3 _ _ dow) lc ID ⟨lG,fun e he=>(gb e he).1,fun e he=>(gb e he).2,fun S k hk=>?_,fun e he hlt=>?_⟩
  ·obtain⟨s,sN,sS⟩:=Jg m6 S
   have:=sn k s hk (by rw[hN]; exact sN)
   unfold spr at this
   rw[xu sS,xy fun e' he' j hj=>sS j (List.mem_range.mp ((x8 ln (by omega)).subset hj))] at this
   omega
  ·obtain⟨v,hv⟩:∃ v,cs[e]?=some v:=⟨_,List.getElem?_eq_getElem (by omega)⟩
   rcases cut e v hv with ⟨_,h⟩ | ⟨c,s,_,_,_,_,_,_,h4,h5⟩
   ·omega
   ·refine⟨mj s,h4,?_⟩
    unfold spr at h5
    omega
end
end MyX
namespace MyY
open My MyB MyC MyD MyE MyF MyG MyS MyI MyJ MyK MyT MyU MyV MyW MyX PySem L2
def top (i:Nat):Stmt:=PySem.Challenge.pw_tariffgate_k66_said_otherwise.main.body.getD i (.Pass ⟨0,0,0,0⟩)
theorem fE:(("_law_route":Str) == ("__debug__":Str))=false:=by decide
theorem fF:(("_law_route":Str) == ("__classdict__":Str))=false:=by decide
theorem gx:(("_law_sums":Str) == ("__debug__":Str))=false:=by decide
theorem gy:(("_law_sums":Str) == ("__classdict__":Str))=false:=by decide
abbrev bg:Stmt:=top 29
theorem jT:FnScope ["_law_route","_law_place","_law_many","_law_sums"] ["_law_route","_law_place","_law_many"] (defScope bg):=⟨rfl,rfl,rfl,by decide +kernel,rfl,by decide +kernel,by decide +kernel⟩
theorem n8:Vis (defScope bg) "_law_route":=by decreasing_trivial
theorem jg:Vis (defScope bg) "_law_place":=by decreasing_trivial
theorem n9:Vis (defScope bg) "_law_many":=by decreasing_trivial
theorem fG:Vis (defScope bg) "_law_sums":=by decreasing_trivial
theorem og:Loc (defScope bg) "_law_sums":=by first | exact Or.inl rfl | exact Or.inr rfl
theorem kU:(defScope bg).names.lookup ("dict":Str)=some .globalImplicit:=by rfl
def t8 (xs:List (Nat×Int)) (p:Nat) (a:Int):List (Nat×Int):=if p∈xs.map Prod.fst then xs.map (fun x=>if x.1=p then (p,x.2+a) else x) else xs++[(p,a)]
def encK (x:Nat×Int):Key×V:=(.inl (x.1:Int),.int x.2)
theorem AE {xs:List (Nat×Int)} {p:Nat} {a:Int}:(t8 xs p a).map Prod.fst=if p∈xs.map Prod.fst then xs.map Prod.fst else xs.map Prod.fst++[p]:=by
 unfold t8
 by_cases h:p∈xs.map Prod.fst
 ·rw[if_pos h,if_pos h,List.map_map]
  refine List.map_congr_left fun x _=>?_
  show (if x.1=p then (p,x.2+a) else x).1=x.1
  split
  ·rename_i z; exact z.symm
  ·rfl
 ·rw[if_neg h,if_neg h,List.map_append]
  rfl
theorem BV {xs:List (Nat×Int)} {p:Nat} {a:Int} (h:(xs.map Prod.fst).Nodup):((t8 xs p a).map Prod.fst).Nodup:=by
 rw[AE]
 split
 ·exact h
 ·rename_i z
  exact x9 h z
theorem Al {xs:List (Nat×Int)} {p:Nat} {a:Int}:(t8 xs p a).length≤xs.length+1:=by
 unfold t8
 split
 ·rw[List.length_map]; omega
 ·rw[List.length_append]; exact Nat.le_refl _
theorem BU {xs:List (Nat×Int)} {p:Nat}:valV (xs.map encK) (.inl (p:Int))=(xs.find? fun x=>decide (x.1=p)).map fun x=>V.int x.2:=by
 unfold valV
 induction xs with
 | nil=>rfl
 | cons x xs ih =>
  rw[List.map_cons,List.find?_cons,List.find?_cons]
  have:(decide ((encK x).1=Sum.inl (p:Int)))=decide (x.1=p):=decide_eq_decide.mpr ⟨fun z=>by have:(x.1:Int)=(p:Int):=Sum.inl.inj z; omega,fun z=>by show (Sum.inl (x.1:Int):Key)=_; rw[z]⟩
  rw[this]
  cases decide (x.1=p)
  ·exact ih
  ·rfl
theorem HZ {xs:List (Nat×Int)} {p:Nat} {b:Int}:putK (xs.map encK) (.inl (p:Int)) (.int b)=(if p∈xs.map Prod.fst then xs.map (fun x=>if x.1=p then (p,b) else x) else xs++[(p,b)]).map encK:=by
 unfold putK
 have e1:∀ x:Nat×Int,(encK x).1=(.inl (p:Int):Key)↔x.1=p:=fun x=>⟨fun z=>by have:(x.1:Int)=(p:Int):=Sum.inl.inj z; omega,fun z=>by show (Sum.inl (x.1:Int):Key)=_; rw[z]⟩
 by_cases h:p∈xs.map Prod.fst
 ·rw[if_pos h]
  have:((xs.map encK).any fun kv=>decide (kv.1=(.inl (p:Int):Key)))=true:=by
   obtain⟨x,hx,e⟩:=List.mem_map.mp h
   rw[List.any_eq_true]
   exact⟨encK x,List.mem_map.mpr ⟨x,hx,rfl⟩,decide_eq_true ((e1 x).mpr e)⟩
  rw[if_pos this,List.map_map,List.map_map]
  refine List.map_congr_left fun x _=>?_
  show (if (encK x).1=(.inl (p:Int):Key) then ((encK x).1,V.int b) else encK x)=encK (if x.1=p then (p,b) else x)
  by_cases z:x.1=p
  ·rw[if_pos ((e1 x).mpr z),if_pos z]
   unfold encK
   rw[z]
  ·rw[if_neg (fun y=>z ((e1 x).mp y)),if_neg z]
 ·rw[if_neg h]
  have:((xs.map encK).any fun kv=>decide (kv.1=(.inl (p:Int):Key)))=false:=by
   rw[List.any_eq_false]
   intro kv hkv
   obtain⟨x,hx,rfl⟩:=List.mem_map.mp hkv
   intro z
   exact h (List.mem_map.mpr ⟨x,hx,(e1 x).mp (of_decide_eq_true z)⟩)
  rw[if_neg (by rw[this]; decide),List.map_append]
  rfl
def IX (xs:List (Nat×Int)) (p:Nat) (b:Int):List (Nat×Int):=if p∈xs.map Prod.fst then xs.map (fun x=>if x.1=p then (p,b) else x) else xs++[(p,b)]
theorem u6 {xs:List (Nat×Int)} {p:Nat} (nd:(xs.map Prod.fst).Nodup) {x:Nat×Int} (hx:x∈xs) (e:x.1=p):xs.find? (fun x=>decide (x.1=p))=some x:=by
 induction xs with
 | nil=>cases hx
 | cons y ys ih =>
  rw[List.map_cons,List.nodup_cons] at nd
  rw[List.find?_cons]
  rcases List.mem_cons.mp hx with rfl | hx'
  ·rw[decide_eq_true e]
  ·have:¬ y.1=p:=fun z=>nd.1 (List.mem_map.mpr ⟨x,hx',by rw[e,z]⟩)
   rw[decide_eq_false this]
   exact ih nd.2 hx'
theorem Hw {xs:List (Nat×Int)} {p:Nat} {a:Int} (nd:(xs.map Prod.fst).Nodup):IX xs p (((xs.find? fun x=>decide (x.1=p)).map fun x=>x.2).getD 0+a)=t8 xs p a:=by
 unfold IX t8
 by_cases h:p∈xs.map Prod.fst
 ·rw[if_pos h,if_pos h]
  refine List.map_congr_left fun x hx=>?_
  by_cases z:x.1=p
  ·rw[if_pos z,if_pos z,u6 nd hx z]
   rfl
  ·rw[if_neg z,if_neg z]
 ·rw[if_neg h,if_neg h]
  have:xs.find? (fun x=>decide (x.1=p))=none:=by
   rw[List.find?_eq_none]
   intro x hx z
   exact h (List.mem_map.mpr ⟨x,hx,of_decide_eq_true z⟩)
  rw[this]
  show xs++[(p,0+a)]=_
  rw[Int.zero_add]
theorem Ir {xs:List (Nat×Int)} (nd:(xs.map Prod.fst).Nodup):((xs.map encK).map (·.1)).Nodup:=by
 rw[List.map_map,List.Nodup,List.pairwise_map]
 rw[List.Nodup,List.pairwise_map] at nd
 exact nd.imp fun h z=>h (by have:=Sum.inl.inj z; omega)
theorem Cj {K:PySem.W.Frag} {H:Hp}:∀ {us:List V} {xs:List (Nat×Int)},RtAt K H us xs→∃ ps:List Addr,us=ps.map V.ref∧ps.length=xs.length∧∀ (j:Nat) (a:Addr) (kv:Key×V),ps[j]?=some a→(xs.map encK)[j]?=some kv→SqT K H a [kV kv.1,kv.2]
 | _,_,.nil=>⟨[],rfl,rfl,fun j a kv h=>by cases h⟩
 | _,_,.cons ⟨t,e,h⟩ r=>by
  obtain⟨ps,e1,l1,h1⟩:=Cj r
  refine⟨t::ps,by rw[List.map_cons,← e1,e],by rw[List.length_cons,List.length_cons,l1],fun j a kv ha hk=>?_⟩
  cases j with
  | zero =>
   cases ha
   cases hk
   exact h
  | succ j =>
   rw[List.getElem?_cons_succ] at ha
   rw[List.map_cons,List.getElem?_cons_succ] at hk
   exact h1 j a kv ha hk
def yF (K:PySem.W.Frag) (flt:Nat×Int→Bool):Sp:=fun vs H Q _=>∃ (r:Addr) (us:List V) (xs:List (Nat×Int)) (p:Nat) (m:Int),vs=[.ref r,.int (p:Int),.int m]∧SqL K H r us∧RtAt K H us xs∧xs.length≤300∧(xs.map Prod.fst).Nodup∧∀ (r':Addr) (us':List V) (H':Hp),Same H H'→H r'=none→H' r'=some (.lst us')→RtAt K H' us' ((t8 xs p m).filter flt)→Q (.ref r') H'
theorem HR {K:PySem.W.Frag} {H:Hp}:∀ {us:List V} {xs:List (Nat×Int)} {i:Nat} {v:V},RtAt K H us xs→us[i]?=some v→∃ t x,v=V.ref t∧xs[i]?=some x∧SqT K H t [.int (x.1:Int),.int x.2]
 | _,_,_,_,.nil,h=>by cases h
 | _,_,0,_,.cons ⟨t,a,b⟩ _,h=>by
  cases h
  exact⟨t,_,a,rfl,b⟩
 | _,_,i+1,_,.cons _ r,h=>by
  rw[List.getElem?_cons_succ] at h
  obtain⟨t,x,a,b,c⟩:=HR r h
  exact⟨t,x,a,by rw[List.getElem?_cons_succ]; exact b,c⟩
section
variable {P:Program} {w:World} {K:PySem.W.Frag} {mg:Str→Option Value} {base:Heap} {f:Addr} {fd:FuncData}
theorem zS (F:Fun K "_law_added" "_law_added" bg f fd) (M:Mg mg) (m_dict:mg "dict"=none):FnOk P w K mg base CX0 1 f fd ["_law_route","_law_place","_law_many"] (yF K fun x=>decide (0<x.2)):=by
 refine F.ok jT (fun vs H Q E h=>?_) (fun cdv A outer s H vs Q E hr h=>?_)
 ·obtain⟨r,us,xs,p,m,rfl,_⟩:=h
  rfl
 obtain⟨r,us,xs,p,m,rfl,hr',hx,l300,nd,q⟩:=h
 refine⟨_,(@dI _ _ _ _ _ (@ic _ _ 3 _ _ _ _ jT.nd rfl og (@nS _ _ _ _ _ _ _ _ _ (ye rfl) kU m_dict DP (@bO _ _ _ _ _ (@cO _ 0 _ _ rfl n8 fE fF) (@cT _) (cg rfl)) lT lS (cg rfl) ff) (fZ rfl) (.inl rfl)) (@dI _ _ _ _ _ (@Ce _ _ _ _ _ _ _ _ _ (uX hr) (@cO _ 3 _ _ rfl fG gx gy) (@cO _ 1 _ _ rfl jg aM aN) (@iI _ _ _ _ _ _ _ _ (@qU _) (@Fb _ _ _ _ _ _ _ _ _ (uX hr) (@cO _ 3 _ _ rfl fG gx gy) (@cO _ 1 _ _ rfl jg aM aN) (@dw _ _ _ _) ⟨rfl,rfl,rfl,rfl⟩) (@cO _ 2 _ _ rfl n9 br bu)) (fZ rfl)) (@eF _ _ _ (@ia _ _ _ _ (@mS _ _ _ _ _ _ _ _ _ _ _ _ _ _ _ rfl (CompOk.make (N':=["_law_sums","_law_k"]) (ix:=[3]) (nl:=1) (by rfl) (fm1 rfl fm0) (by rfl) (by decide +kernel) rfl (by decide +kernel) rfl (And.intro ⟨rfl,.inl rfl,.inl rfl⟩ True.intro)) (@xJ _ _ _ _ (@cO _ 3 _ _ rfl fG gx gy)) (fun _ _ _ _ _=>(@fj _ _ 1 _ (show List.Nodup (["_law_sums","_law_k"]:List Str) from by decide) rfl (Or.inl rfl) (by first | exact .inl rfl | exact .inr rfl | assumption))) (fun _ _ _ _ _=>(@ux _ _ _ (@kB _ _ _ _ _ _ _ _ (@vK _) (@wU _ _ _ _ _ _ (uX hr) (@pv _ 0 _ _ (by rfl) (by decreasing_trivial) (by decide) (by decide)) (@pv _ 1 _ _ (by rfl) (by decreasing_trivial) (by decide) (by decide)) (fun _ _=>rfl)) (@dw _ _ _ _) (i8 _)))) (fun _ _ _ _ _=>(@tP _ _ _ _ _ (@bO _ _ _ _ _ (@pv _ 1 _ _ (by rfl) (by decreasing_trivial) (by decide) (by decide)) (@bO _ _ _ _ _ (@wU _ _ _ _ _ _ (uX hr) (@pv _ 0 _ _ (by rfl) (by decreasing_trivial) (by decide) (by decide)) (@pv _ 1 _ _ (by rfl) (by decreasing_trivial) (by decide) (by decide)) (fun _ _=>rfl)) (@cT _) (cg rfl)) (cg rfl)))) (by intro _; rfl)))))),?_⟩
 obtain⟨ps,eu,lp,hps⟩:=Cj hx
 rw[eu] at hr'
 trivial
 refine⟨ps,hr',xs.map encK,by rw[List.length_map,lp],hps,fun d hd=>?_⟩
 rw[AN (Ir nd)]
 obtain⟨b0,hb0⟩:∃ b0,b0=((xs.find? fun x=>decide (x.1=p)).map fun x=>x.2).getD 0:=⟨_,rfl⟩
 have hv0:(valV (xs.map encK) (.inl (p:Int))).getD (V.int 0)=V.int b0:=by
  rw[BU,hb0]
  cases xs.find? fun x=>decide (x.1=p) <;> rfl
 have ekv:putK (xs.map encK) (.inl (p:Int)) (.int (b0+m))=(t8 xs p m).map encK:=by
  rw[HZ,← Hw nd,hb0]
  rfl
 obtain⟨ys,hys⟩:∃ ys,ys=t8 xs p m:=⟨_,rfl⟩
 have ndy:(ys.map Prod.fst).Nodup:=by rw[hys]; exact BV nd
 have lys:ys.length≤301:=by rw[hys]; exact Nat.le_trans Al (by omega)
 refine⟨.inl ⟨_,.inl cY⟩,_,DGet.k (k:=.inl (p:Int)) cY,b0,hv0,_,DPut.k (k:=.inl (p:Int)) cY (by rw[List.length_map]; exact Nat.lt_of_le_of_lt l300 (by decide)),_,.inl cY,fun o H2 h2 hk D hD=>?_⟩
 rw[ekv,← hys] at h2 ⊢
 have e2:Same H H2:=fun b u hb=>by
  have bd:b≠d:=fun z=>by rw[z,hd] at hb; cases hb
  rw[hk b bd,er bd,er bd]
  exact hb
 have Dd:D≠d:=fun z=>by rw[z,h2] at hD; cases hD
 obtain⟨Pc,hC⟩:∃ Pc:Nat→St→Hp→Prop,Pc=fun i τ H'=>∃ (us':List V) (z:Option V),H' D=some (.lst us')∧RtAt K H' us' ((ys.take i).filter (fun x=>decide (0<x.2)))∧Same H2 H'∧τ=[some (.ref d),z]:=⟨_,rfl⟩
 refine xj (ys.map encK) Pc ?_ (fun i τ H6 _ h=>by rw[hC] at h; obtain⟨_,_,_,_,e6,_⟩:=h; exact e6 _ _ h2) ?_ ?_
 ·rw[hC]
  exact⟨[],_,cY,.nil,fD hD _,rfl⟩
 ·intro i k v τ H6 R' hk' h next
  rw[hC] at h
  obtain⟨us',z,d6,r6,e6,rfl⟩:=h
  rw[List.getElem?_map] at hk'
  obtain⟨x,hx',ex⟩:=Option.map_eq_some_iff.mp hk'
  obtain⟨rfl,rfl⟩:k=.inl (x.1:Int)∧v=.int x.2:=by cases ex; exact⟨rfl,rfl⟩
  have li:=(List.getElem?_eq_some_iff.mp hx').1
  have lf:us'.length≤301:=by
   rw[r6.len]
   refine Nat.le_trans (List.length_filter_le ..) ?_
   rw[List.length_take]
   omega
  have dg:DGet H6 d (V.int (x.1:Int)) (some (V.int x.2)):=.inl ⟨ys.map encK,.inl (x.1:Int),.inr ⟨o,e6 _ _ h2⟩,rfl,by rw[BU,u6 ndy (List.mem_of_getElem? hx') rfl]; rfl⟩
  have ep:(ys.take (i+1)).filter (fun x=>decide (0<x.2))=(ys.take i).filter (fun x=>decide (0<x.2))++[x].filter (fun x=>decide (0<x.2)):=by
   rw[List.take_add_one,hx',List.filter_append]
   rfl
  show t9 D (vW 1) _ _ (V.int (x.1:Int)) _ _ _
  trivial
  refine⟨_,dg,_,rfl,?_⟩
  by_cases hz:0<x.2
  case neg =>
   rw[if_neg hz]
   refine next _ _ ?_
   rw[hC]
   refine⟨us',_,d6,?_,e6,rfl⟩
   rw[ep,List.filter_cons_of_neg (by simpa using hz),List.filter_nil,List.append_nil]
   exact r6
  rw[if_pos hz]
  refine⟨_,dg,by decide,fun t ht=>?_⟩
  obtain⟨H7,g7,S7,T7⟩:=ki (K:=K) ht [.int (x.1:Int),.int x.2]
  rw[← g7]
  clear g7
  have d7:=S7 _ _ d6
  refine⟨_,d7,Nat.lt_of_lt_of_le (m:=1000) (by omega) (by decide),next _ _ ?_⟩
  rw[hC]
  refine⟨us'++[.ref t],_,cY,?_,fS (e6.trans S7) hD _,rfl⟩
  rw[ep,List.filter_cons_of_pos (by simpa using hz),List.filter_nil]
  exact RtAt.upd d7 (fun ys z=>by cases z) (fun _ _ z=>by cases z) (RtAt.snoc T7 (r6.same S7))
 ·intro τ H6 h
  rw[hC] at h
  obtain⟨us',z,d6,r6,e6,rfl⟩:=h
  rw[List.length_map,List.take_length,hys] at r6
  exact q D us' H6 (e2.trans e6) (none_of e2 hD) d6 r6
end
end MyY
namespace MyZ
open My MyB MyC MyD MyE MyF MyG MyS MyI MyJ MyK MyT MyU MyV MyW MyX MyY PySem L2
def ptD (x:Nat×Int):Dt:=.tup [.int (x.1:Int),.int x.2]
def vd (xs:List (Nat×Int)):Dt:=.lst (xs.map ptD)
def nW (xs:List (Nat×Int)) (j:Nat):Int:=(xs.map fun x=>if x.1=j then x.2 else 0).sum
theorem Jy (xs:List (Nat×Int)) (j:Nat):zT (j:Int) (vd xs)=nW xs j:=by
 show (((xs.map ptD).filter fun p=>decide (intOf (t7 p)=(j:Int))).map xW).sum=_
 unfold nW
 induction xs with
 | nil=>rfl
 | cons x xs ih =>
  rw[List.map_cons,List.map_cons,List.sum_cons,← ih]
  by_cases h:x.1=j
  ·rw[List.filter_cons_of_pos (p:=fun p=>decide (intOf (t7 p)=(j:Int))) (a:=ptD x) (decide_eq_true (by show (x.1:Int)=_; omega)),List.map_cons,List.sum_cons,if_pos h]
   rfl
  ·rw[List.filter_cons_of_neg (p:=fun p=>decide (intOf (t7 p)=(j:Int))) (a:=ptD x) (fun z=>h (by have:(x.1:Int)=(j:Int):=of_decide_eq_true z; omega)),if_neg h,Int.zero_add]
theorem E3 {ps:List Nat} {g:Int} {xs:List (Nat×Int)} (nd:(xs.map Prod.fst).Nodup) (h:∀ x∈xs,x.1∈ps∧1≤x.2) (hs:(xs.map Prod.snd).sum=g):ua ps g (vd xs)=true:=by
 unfold vd
 rw[uA,Bool.and_eq_true,Bool.and_eq_true]
 refine⟨?_,?_,decide_eq_true ?_⟩
 ·rw[List.all_eq_true]
  intro d hd
  obtain⟨x,hx,rfl⟩:=List.mem_map.mp hd
  exact decide_eq_true (h x hx).2
 ·unfold qO
  rw[Bool.and_eq_true]
  refine⟨?_,decide_eq_true ?_⟩
  ·rw[List.all_eq_true,List.map_map]
   intro d hd
   obtain⟨x,hx,rfl⟩:=List.mem_map.mp hd
   exact decide_eq_true (List.mem_map.mpr ⟨x.1,(h x hx).1,rfl⟩)
  ·rw[List.map_map,List.map_map,List.Nodup,List.pairwise_map]
   rw[List.Nodup,List.pairwise_map] at nd
   exact nd.imp fun h z=>h (by have z:((_:Nat):Int)=((_:Nat):Int):=z; omega)
 ·rw[List.map_map,← hs]
  rfl
theorem HJ {rooms G:List Int} {L:List En} {rs:List (List (Nat×Int))} {cs:List Dt} (mo:Most rooms L G) (lr:rs.length=L.length) (lc:cs.length=L.length)
  (hr:∀ e,e<L.length→((rs.getD e []).map Prod.fst).Nodup∧(∀ x∈rs.getD e [],x.1∈pl L e∧1≤x.2)∧((rs.getD e []).map Prod.snd).sum=G.getD e 0) (hk:∀ j,j<rooms.length→(rs.map fun xs=>nW xs j).sum≤rooms.getD j 0)
  (hc:∀ e,e<L.length→G.getD e 0<wt L e→∃ ns:List Int,cs.getD e .non=.lst (ns.map Dt.int)∧ns.Nodup∧(∀ x∈ns,∃ j:Nat,x=(j:Int)∧j<rooms.length)∧(pl L e).all (inS ns)=true∧roomS rooms rooms.length (inS ns)=sumG L (fun e=>G.getD e 0) (inS ns) (e+1)) :
  vI rooms L (.lst (G.map Dt.int)) (.lst (rs.map vd)) (.lst cs)=true:=by
 have lG:=mo.len
 rw[B8 rooms L _ _ _ (by rw[List.length_map,lG]) (by rw[List.length_map,lr]) lc,Bool.and_eq_true,Bool.and_eq_true,Bool.and_eq_true]
 have ga:∀ e,e<L.length→(G.map Dt.int).getD e .non=.int (G.getD e 0):=fun e he=>by
  rw[List.getD,List.getElem?_map,List.getElem?_eq_getElem (by omega),My.getD_at (by omega)]
  rfl
 have ra:∀ e,e<L.length→(rs.map vd).getD e .non=vd (rs.getD e []):=fun e he=>by
  rw[List.getD,List.getElem?_map,List.getElem?_eq_getElem (by omega),My.getD_at (by omega)]
  rfl
 have eG:(G.map Dt.int).map intOf=G:=by
  rw[List.map_map]
  exact List.map_id' G
 refine⟨?_,?_,?_,?_⟩
 ·rw[List.all_eq_true]
  intro e he
  have he:=List.mem_range.mp he
  rw[ga e he]
  show (decide (0≤G.getD e 0) && decide (G.getD e 0≤wt L e))=true
  rw[decide_eq_true (mo.nn e he),decide_eq_true (mo.le e he)]
  rfl
 ·rw[List.all_eq_true]
  intro e he
  have he:=List.mem_range.mp he
  rw[ga e he,ra e he]
  obtain⟨h1,h2,h3⟩:=hr e he
  exact E3 h1 h2 h3
 ·unfold wZ
  rw[List.all_eq_true]
  intro j hj
  have hj:=List.mem_range.mp hj
  refine decide_eq_true ?_
  unfold thr
  rw[List.map_map]
  have:(rs.map (zT (j:Int) ∘ vd)).sum=(rs.map fun xs=>nW xs j).sum:=congrArg List.sum (List.map_congr_left fun xs _=>Jy xs j)
  rw[this]
  exact hk j hj
 ·rw[List.all_eq_true,eG]
  intro e he
  have he:=List.mem_range.mp he
  have lt:(L.take (e+1)).length=e+1:=by rw[List.length_take]; omega
  unfold uU
  rw[lt,Nat.add_sub_cancel,Cw (by omega),Hl (by omega)]
  by_cases hz:G.getD e 0=wt L e
  ·rw[decide_eq_true hz]
   rfl
  ·have:=mo.le e he
   obtain⟨ns,h1,h2,h3,h4,h5⟩:=hc e he (by omega)
   rw[decide_eq_false hz,Bool.false_or,h1,xC,lt,Nat.add_sub_cancel,Cc (by omega)]
   have en:(ns.map Dt.int).map intOf=ns:=by
    rw[List.map_map]
    exact List.map_id' ns
   rw[en,Bool.and_eq_true,Bool.and_eq_true]
   refine⟨?_,h4,decide_eq_true ?_⟩
   ·unfold qO
    rw[Bool.and_eq_true,en]
    refine⟨?_,decide_eq_true h2⟩
    rw[List.all_eq_true]
    intro d hd
    obtain⟨x,hx,rfl⟩:=List.mem_map.mp hd
    obtain⟨j,ej,hj⟩:=h3 x hx
    exact decide_eq_true (List.mem_map.mpr ⟨j,List.mem_range.mpr hj,ej.symm⟩)
   ·rw[DK (Nat.le_refl _),← h5]
    unfold zL
    rw[yi (g:=fun j=>rooms.getD j 0) h2 h3]
    rfl
theorem wK {g:Nat→Int} {p:Nat→Bool} (h:∀ j,p j=false→g j=0):∀ n,(((List.range n).filter p).map g).sum=iW n g
 | 0=>rfl
 | n+1=>by
  rw[iN,← wK h n,List.range_succ,List.filter_append,List.map_append,List.sum_append]
  congr 1
  cases hp:p n with
  | true=>rw[List.filter_cons_of_pos hp]; simp
  | false=>rw[List.filter_cons_of_neg (by rw[hp]; decide),h n hp]; rfl
theorem HP {row:List Int} (nn:∀ j,0≤row.getD j 0):((rt row).map Prod.snd).sum=row.sum:=by
 unfold rt
 rw[List.map_map,vh row]
 exact wK (g:=fun j=>row.getD j 0) (p:=fun j=>decide (0<row.getD j 0)) (fun j hj=>by
  have:=of_decide_eq_false hj
  have:=nn j
  omega) _
theorem GU {row:List Int} (nn:∀ j,0≤row.getD j 0) (j:Nat):nW (rt row) j=row.getD j 0:=by
 unfold nW rt
 rw[List.map_map]
 have:=wK (g:=fun k=>if k=j then row.getD k 0 else 0) (p:=fun j=>decide (0<row.getD j 0)) (fun k hk=>by
  have:=of_decide_eq_false hk
  have:=nn k
  split <;> omega) row.length
 refine this.trans ?_
 rw[wA]
 by_cases h:j<row.length
 ·rw[if_pos h]
 ·rw[if_neg h,List.getD,List.getElem?_eq_none (by omega)]
  rfl
theorem yZ {F:List (List Int)} {e:Nat} {row:List Int} (h:F[e]?=some row) (j:Nat):row.getD j 0=fl F e j:=by
 unfold fl
 rw[show F.getD e []=row by rw[List.getD,h]; rfl]
theorem yl {rooms:List Int} {L:List En} {F:List (List Int)} {lf:List Int} (flo:Flo L L.length rooms.length rooms F lf) :
  (F.map rt).length=L.length∧(∀ e,e<L.length→(((F.map rt).getD e []).map Prod.fst).Nodup∧(∀ x∈(F.map rt).getD e [],x.1∈pl L e∧1≤x.2)∧(((F.map rt).getD e []).map Prod.snd).sum=(F.map List.sum).getD e 0)∧∀ j,j<rooms.length→((F.map rt).map fun xs=>nW xs j).sum≤rooms.getD j 0:=by
 have lF:F.length=L.length:=flo.rows.1
 refine⟨by rw[List.length_map,lF],fun e he=>?_,fun j hj=>?_⟩
 ·obtain⟨row,hrow⟩:∃ row,F[e]?=some row:=⟨_,List.getElem?_eq_getElem (by omega)⟩
  have e1:(F.map rt).getD e []=rt row:=by rw[List.getD,List.getElem?_map,hrow]; rfl
  have e2:(F.map List.sum).getD e 0=row.sum:=by rw[List.getD,List.getElem?_map,hrow]; rfl
  rw[e1,e2]
  have nn:∀ j,0≤row.getD j 0:=fun j=>by rw[yZ hrow]; exact flo.nn e j
  refine⟨J2 row,fun x hx=>?_,HP nn⟩
  unfold rt at hx
  obtain⟨j,hj,rfl⟩:=List.mem_map.mp hx
  have h0:=of_decide_eq_true (List.mem_filter.mp hj).2
  refine⟨flo.su e j (by rw[← yZ hrow]; exact h0),by show 1≤row.getD j 0; omega⟩
 ·rw[List.map_map]
  have:=flo.col j hj
  have l0:=flo.l0 j
  have ec:(F.map ((fun xs=>nW xs j) ∘ rt)).sum=colS F j:=by
   unfold colS
   refine congrArg List.sum (List.map_congr_left fun row hrow=>?_)
   obtain⟨e,he,hre⟩:=List.getElem_of_mem hrow
   refine GU (fun i=>?_) j
   rw[yZ (F:=F) (e:=e) (by rw[← hre]; exact List.getElem?_eq_getElem he)]
   exact flo.nn e i
  rw[ec]
  omega
theorem Kc {K:PySem.W.Frag} {H:Hp} {rooms lf:List Int} {L:List En} {F:List (List Int)} {ok:Addr→Prop} {e:Nat} {v:V} (m60:rooms.length≤60) (h:CutAt L rooms.length rooms F lf H ok e v):∃ d,Rp K H v d∧((F.map List.sum).getD e 0<wt L e→∃ ns:List Int,d=.lst (ns.map Dt.int)∧ns.Nodup∧(∀ x∈ns,∃ j:Nat,x=(j:Int)∧j<rooms.length)∧(pl L e).all (inS ns)=true∧roomS rooms rooms.length (inS ns)=sumG L (fun e=>(F.map List.sum).getD e 0) (inS ns) (e+1)):=by
 rcases h with ⟨rfl,h⟩ | ⟨c,ns,rfl,_,h1,h2,h3,h4,_,h5,h6⟩
 ·exact⟨.non,.non,fun z=>by rw[sum_at] at z; omega⟩
 ·have nd:ns.Nodup:=h3.imp fun h=>by omega
  refine⟨.lst (ns.map Dt.int),zR (SqL.of h1) ?_,fun _=>⟨ns,rfl,nd,h4,?_,?_⟩⟩
  ·have e:=yi (g:=fun _=>1) nd h4
   have l1:(iW rooms.length fun j=>if inS ns j=true then (1:Int) else 0)≤iW rooms.length fun _=>1:=u5 fun j _=>by split <;> omega
   have l2:∀ k,iW k (fun _=>(1:Int))=k:=fun k=>by
    induction k with
    | zero=>rfl
    | succ k ih=>rw[iN,ih]; omega
   have l3:∀ l:List Int,(l.map fun _=>(1:Int)).sum=l.length:=fun l=>by
    induction l with
    | nil=>rfl
    | cons x xs ih=>rw[List.map_cons,List.sum_cons,ih,List.length_cons]; omega
   have:=l3 ns
   rw[l2] at l1
   omega
  ·rw[List.all_eq_true]
   exact fun j hj=>decide_eq_true (h5 j hj)
  ·rw[h6]
   exact ud fun e _=>sum_at.symm
end MyZ
namespace MyL
open My MyB MyC MyD MyE MyF MyG MyS MyI MyJ MyK MyT MyU MyV MyW MyX MyY MyZ PySem L2
def top (i:Nat):Stmt:=PySem.Challenge.pw_tariffgate_k66_said_otherwise.main.body.getD i (.Pass ⟨0,0,0,0⟩)
theorem gW:(("_law_granted":Str) == ("__debug__":Str))=false:=by decide
theorem gX:(("_law_granted":Str) == ("__classdict__":Str))=false:=by decide
theorem aP:(("_law_routes":Str) == ("__debug__":Str))=false:=by decide
theorem aQ:(("_law_routes":Str) == ("__classdict__":Str))=false:=by decide
theorem bU:(("_law_handed":Str) == ("__debug__":Str))=false:=by decide
theorem bV:(("_law_handed":Str) == ("__classdict__":Str))=false:=by decide
theorem pT:(("_law_told":Str) == ("__debug__":Str))=false:=by decide
theorem pU:(("_law_told":Str) == ("__classdict__":Str))=false:=by decide
theorem rN:(("lets_by":Str) == ("__debug__":Str))=false:=by decide
theorem gB:(("_law_copy":Str) == ("__debug__":Str))=false:=by decide
abbrev aB:Stmt:=top 34
theorem i5:FnScope ["_law_rooms_here","_law_line_here","_law_granted","_law_routes","_law_cuts","_law_handed","_law_told"] ["_law_rooms_here","_law_line_here","_law_granted","_law_routes","_law_cuts"] (defScope aB):=⟨rfl,rfl,rfl,by decide +kernel,rfl,by decide +kernel,by decide +kernel⟩
theorem kD:Vis (defScope aB) "_law_rooms_here":=by decreasing_trivial
theorem kE:Vis (defScope aB) "_law_line_here":=by decreasing_trivial
theorem kF:Vis (defScope aB) "_law_granted":=by decreasing_trivial
theorem kG:Vis (defScope aB) "_law_routes":=by decreasing_trivial
theorem kH:Vis (defScope aB) "_law_cuts":=by decreasing_trivial
theorem cP:Vis (defScope aB) "_law_handed":=by decreasing_trivial
theorem qL:Loc (defScope aB) "_law_handed":=by first | exact Or.inl rfl | exact Or.inr rfl
theorem qM:Vis (defScope aB) "_law_told":=by decreasing_trivial
theorem qN:Loc (defScope aB) "_law_told":=by first | exact Or.inl rfl | exact Or.inr rfl
theorem eT:(defScope aB).names.lookup ("list":Str)=some .globalImplicit:=by rfl
theorem jn:(defScope aB).names.lookup ("_law_copy":Str)=some .globalImplicit:=by rfl
theorem j9:(defScope aB).names.lookup ("lets_by":Str)=some .globalImplicit:=by rfl
def Flt (n:Nat) (d:PyData):Prop:=d.canLay0=true∧d.depth≤n
theorem vE {n:Nat}:∀ {ds:List PyData},(∀ d∈ds,Flt n d)→PyData.canLayAll0 ds=true∧PyData.depthAll ds≤n
 | [],_=>⟨rfl,Nat.zero_le _⟩
 | d::ds,h=>by
  obtain⟨a,b⟩:=h d List.mem_cons_self
  obtain⟨c,e⟩:=vE fun x hx=>h x (List.mem_cons_of_mem _ hx)
  refine⟨?_,?_⟩
  ·show (PyData.canLay0 d && PyData.canLayAll0 ds)=true
   rw[a,c]
   rfl
  ·show max (PyData.depth d) (PyData.depthAll ds)≤n
   omega
theorem uu {n:Nat} {ds:List PyData} (h:∀ d∈ds,Flt n d):Flt (n+1) (.list ds):=⟨(vE h).1,Nat.succ_le_succ (vE h).2⟩
theorem yJ {n:Nat} {ds:List PyData} (h:∀ d∈ds,Flt n d):Flt (n+1) (.tuple ds):=⟨(vE h).1,Nat.succ_le_succ (vE h).2⟩
theorem uy {n:Nat} (i:Int):Flt n (.int i):=⟨rfl,Nat.zero_le _⟩
theorem Ga {n:Nat} {d:PyData} (h:Flt n d) (hn:n≤40):zQ d:=⟨h.1,Nat.le_trans h.2 hn⟩
theorem vB {α:Type} {n:Nat} {g:α→PyData} {l:List α} (h:∀ x∈l,Flt n (g x)):∀ d∈l.map g,Flt n d:=fun d hd=>by
 obtain⟨x,hx,rfl⟩:=List.mem_map.mp hd
 exact h x hx
theorem yr {n:Nat} {a b:PyData} (ha:Flt n a) (hb:Flt n b):∀ d∈[a,b],Flt n d:=fun d hd=>by
 rcases List.mem_cons.mp hd with rfl | hd
 ·exact ha
 ·rw[List.mem_singleton.mp hd]
  exact hb
theorem xD {α:Type} {K:PySem.W.Frag} {H:Hp} {R:V→α→Prop} {g:α→PyData} (h:∀ v y,R v y→Rep K H v (g y)):∀ {us:List V} {ys:List α},Paired R us ys→RepAll K H us (ys.map g)
 | _,_,.nil=>.nil
 | _,_,.cons r t=>.cons (h _ _ r) (xD h t)
theorem Aa {K:PySem.W.Frag} {H:Hp}:∀ ns:List Int,RepAll K H (ns.map V.int) (ns.map PyData.int)
 | []=>.nil
 | n::ns=>.cons (.int n) (Aa ns)
theorem AK {K:PySem.W.Frag} {H:Hp}:∀ ns:List Nat,RepAll K H (ns.map fun j:Nat=>V.int (j:Int)) (ns.map fun j:Nat=>PyData.int (j:Int))
 | []=>.nil
 | n::ns=>.cons (.int n) (AK ns)
def enD (e:En):PyData:=.tuple [.list (e.1.map fun j:Nat=>PyData.int (j:Int)),.int e.2]
def lnD (L:List En):PyData:=.list (L.map enD)
def wQ (ns:List Int):PyData:=.list (ns.map PyData.int)
theorem II (e:En):Flt 2 (enD e):=yJ (yr (uu (vB fun j _=>uy _)) (uy _))
theorem Jj (L:List En):Flt 3 (lnD L):=uu (vB fun e _=>II e)
theorem vP (ns:List Int):Flt 1 (wQ ns):=uu (vB fun j _=>uy _)
theorem AY {n m:Nat} {d:PyData} (h:Flt n d) (hm:n≤m):Flt m d:=⟨h.1,Nat.le_trans h.2 hm⟩
theorem JB {K:PySem.W.Frag} {H:Hp} {l:Addr} {L:List En} (h:LnAt K H l L):Rep K H (.ref l) (lnD L):=by
 obtain⟨us,a,b⟩:=h
 refine .lst a (xD (fun v e=>?_) b)
 rintro⟨t,q,rfl,h1,h2⟩
 exact .tup h1 (.cons (.lst h2 (AK _)) (.cons (.int _) .nil))
theorem vq {K:PySem.W.Frag} {H:Hp} {a:Addr} {ns:List Int} (h:SqL K H a (ns.map V.int)):Rep K H (.ref a) (wQ ns):=.lst h (Aa ns)
def pairD (x:Nat×Int):PyData:=.tuple [.int (x.1:Int),.int x.2]
def rtD (xs:List (Nat×Int)):PyData:=.list (xs.map pairD)
theorem Ju (xs:List (Nat×Int)):Flt 2 (rtD xs):=uu (vB fun j _=>yJ (yr (uy _) (uy _)))
theorem Ik {K:PySem.W.Frag} {H:Hp} {a:Addr} {us:List V} {xs:List (Nat×Int)} (h:SqL K H a us) (r:RtAt K H us xs):Rep K H (.ref a) (rtD xs):=by
 refine .lst h (xD (fun v x=>?_) r)
 rintro⟨t,rfl,h1⟩
 exact .tup h1 (.cons (.int _) (.cons (.int _) .nil))
def Fi (K:PySem.W.Frag) (H:Hp) (v:V) (d:Dt):Prop:=Rp K H v d∧∃ pd,Rep K H v pd∧Flt 1 pd
def uK (K:PySem.W.Frag) (H:Hp) (cvs:List V) (cds:List Dt):Prop:=Paired (fun v d=>Fi K H v d) cvs cds
def uB (K:PySem.W.Frag) (H:Hp) (ras:List Addr) (RS:List (List (Nat×Int))):Prop:=Paired (fun r xs=>∃ us,SqL K H r us∧RtAt K H us xs) ras RS
def v9 (K:PySem.W.Frag):Sp:=fun vs H Q _=>∃ (rm l g r c:Addr) (rooms:List Int) (L:List En) (G:List Int) (ras:List Addr) (RS:List (List (Nat×Int))) (cvs:List V) (cds:List Dt),vs=[.ref rm,.ref l,.ref g,.ref r,.ref c]∧SqL K H rm (rooms.map V.int)∧LnAt K H l L∧LnOk rooms.length L∧SqL K H g (G.map V.int)∧G.length≤64∧SqL K H r (ras.map V.ref)∧uB K H ras RS∧RS.length≤64∧(∀ xs∈RS,xs.length≤60)∧SqL K H c cvs∧uK K H cvs cds∧cds.length≤64∧vI rooms L (.lst (G.map Dt.int)) (.lst (RS.map vd)) (.lst cds)=true∧∀ H',Same H H'→Q (.bl true) H'
theorem small {n:Nat} (h:n≤1000):n≤sizeLine:=Nat.le_trans h (by decide)
def RtsAt' (K:PySem.W.Frag) (H:Hp) (ras:List Addr) (RS:List (List (Nat×Int))):Prop:=Paired (fun r xs=>∃ us,H r=some (.lst us)∧RtAt K H us xs) ras RS
theorem ve {α β:Type} {R:α→β→Prop}:∀ {xs:List α} {ys:List β} {i:Nat} {x:α},Paired R xs ys→xs[i]?=some x→∃ y,ys[i]?=some y∧R x y
 | _,_,_,_,.nil,h=>by cases h
 | _,_,0,_,.cons r _,h=>by cases h; exact⟨_,rfl,r⟩
 | _,_,i+1,_,.cons _ t,h=>by
  rw[List.getElem?_cons_succ] at h
  obtain⟨x,a,b⟩:=ve t h
  exact⟨x,by rw[List.getElem?_cons_succ]; exact a,b⟩
theorem rts_rp' {K:PySem.W.Frag} {H:Hp}:∀ {ras:List Addr} {RS:List (List (Nat×Int))},RtsAt' K H ras RS→(∀ xs∈RS,xs.length≤60)→RpAll K H (ras.map V.ref) (RS.map vd)
 | _,_,.nil,_=>.nil
 | _,_,.cons ⟨us,a,b⟩ r,h=>.cons (.lst (SqL.of a) (JX b) (by rw[List.length_map]; have:=h _ List.mem_cons_self; omega)) (rts_rp' r fun x hx=>h x (List.mem_cons_of_mem _ hx))
theorem Ct {K:PySem.W.Frag} {H:Hp}:∀ {ras:List Addr} {RS:List (List (Nat×Int))},uB K H ras RS→RepAll K H (ras.map V.ref) (RS.map rtD)
 | _,_,.nil=>.nil
 | _,_,.cons ⟨us,a,b⟩ r=>.cons (Ik a b) (Ct r)
theorem xE {K:PySem.W.Frag} {H H':Hp} (e:Same H H'):∀ {cvs:List V} {cds:List Dt},uK K H cvs cds→uK K H' cvs cds
 | _,_,.nil=>.nil
 | _,_,.cons ⟨a,pd,b,c⟩ r=>.cons ⟨a.same e,pd,b.same e,c⟩ (xE e r)
theorem Ex {K:PySem.W.Frag} {H:Hp}:∀ {cvs:List V} {cds:List Dt},uK K H cvs cds→RpAll K H cvs cds
 | _,_,.nil=>.nil
 | _,_,.cons ⟨a,_⟩ r=>.cons a (Ex r)
theorem B7 {K:PySem.W.Frag} {H:Hp}:∀ {cvs:List V} {cds:List Dt},uK K H cvs cds→∃ pds,RepAll K H cvs pds∧∀ d∈pds,Flt 1 d
 | _,_,.nil=>⟨[],.nil,fun d hd=>by cases hd⟩
 | _,_,.cons ⟨_,pd,b,c⟩ r=>by
  obtain⟨pds,h1,h2⟩:=B7 r
  refine⟨pd::pds,.cons b h1,fun d hd=>?_⟩
  rcases List.mem_cons.mp hd with rfl | hd
  ·exact c
  ·exact h2 d hd
section
variable {P:Program} {w:World} {K:PySem.W.Frag} {mg:Str→Option Value} {base:Heap} {f:Addr} {fd:FuncData}
theorem Du (F:Fun K "_law_let" "_law_let" aB f fd) (M:Mg mg) (jU:Cal P w K mg base CX0 "lets_by" 5 ["rooms","line","granted","routes","cuts"] (AD K)) (di:Cal P w K mg base CX0 "_law_copy" 1 ["_law_line_here"] (yh K)):FnOk P w K mg base CX0 6 f fd ["_law_rooms_here","_law_line_here","_law_granted","_law_routes","_law_cuts"] (v9 K):=by
 refine F.ok i5 (fun vs H Q E h=>?_) (fun cdv A outer s H vs Q E hr h=>?_)
 ·obtain⟨rm,l,g,r,c,rooms,L,G,ras,RS,cvs,cds,rfl,_⟩:=h
  rfl
 obtain⟨rm,l,g,r,c,rooms,L,G,ras,RS,cvs,cds,rfl,hrm,hL,lok,hg,lG,hr',hrs,lRS,l60,hc,hcv,lcd,good,q⟩:=h
 refine⟨_,(@dI _ _ _ _ _ (@ic _ _ 5 _ _ _ _ i5.nd rfl qL (@rE _ _ _ _ (@bO _ _ _ _ _ (@nS _ _ _ _ _ _ _ _ _ tS eT M.m_list tM (@bO _ _ _ _ _ (@cO _ 0 _ _ rfl kD aj ak) (@cT _) (cg rfl)) bi bh (cg rfl) ff) (@bO _ _ _ _ _ (@fX _ _ _ _ _ _ _ _ _ _ _ di hr jn (@bO _ _ _ _ _ (@cO _ 1 _ _ rfl kE aa ae) (@cT _) (cg rfl)) (by decide) gB (cg rfl) ff) (@bO _ _ _ _ _ (@nS _ _ _ _ _ _ _ _ _ tS eT M.m_list tM (@bO _ _ _ _ _ (@cO _ 2 _ _ rfl kF gW gX) (@cT _) (cg rfl)) bi bh (cg rfl) ff) (@bO _ _ _ _ _ (@mS _ _ _ _ _ _ _ _ _ _ _ _ _ _ _ rfl (CompOk.make (N':=["_law_route"]) (ix:=[]) (nl:=1) (by rfl) fm0 (by rfl) (by decide +kernel) rfl (by decide +kernel) rfl True.intro) (@kL _ _ _ _ (@cO _ 3 _ _ rfl kG aP aQ)) (fun _ _ _ _ _=>(@fj _ _ 0 _ (show List.Nodup (["_law_route"]:List Str) from by decide) rfl (Or.inl rfl) (by first | exact .inl rfl | exact .inr rfl | assumption))) (fun _ _ _ _ _=>(@nk _)) (fun _ _ _ _ _=>(@nS _ _ _ _ _ _ _ _ _ (xx (K:=K) rfl) rfl M.m_list tM (@bO _ _ _ _ _ (@pv _ 0 _ _ (by rfl) (by decreasing_trivial) (by decide) (by decide)) (@cT _) (cg rfl)) bi bh (cg rfl) ff)) (by intro _; rfl)) (@bO _ _ _ _ _ (@nS _ _ _ _ _ _ _ _ _ tS eT M.m_list tM (@bO _ _ _ _ _ (@cO _ 4 _ _ rfl kH bG bH) (@cT _) (cg rfl)) bi bh (cg rfl) ff) (@cT _) (cg rfl)) (cg rfl)) (cg rfl)) (cg rfl)) (cg rfl))) (fZ rfl) (.inl rfl)) (@dI _ _ _ _ _ (@ic _ _ 6 _ _ _ _ i5.nd rfl qN (@fX _ _ _ _ _ _ _ _ _ _ _ jU hr j9 (@bO _ _ _ _ _ (@gu _ _ _ _ _ _ _ (@iV _) (@cO _ 5 _ _ rfl cP bU bV) (@dw _ _ _ _) (fun _ _=>rfl)) (@bO _ _ _ _ _ (@gu _ _ _ _ _ _ _ (@iV _) (@cO _ 5 _ _ rfl cP bU bV) (@dw _ _ _ _) (fun _ _=>rfl)) (@bO _ _ _ _ _ (@gu _ _ _ _ _ _ _ (@iV _) (@cO _ 5 _ _ rfl cP bU bV) (@dw _ _ _ _) (fun _ _=>rfl)) (@bO _ _ _ _ _ (@gu _ _ _ _ _ _ _ (@iV _) (@cO _ 5 _ _ rfl cP bU bV) (@dw _ _ _ _) (fun _ _=>rfl)) (@bO _ _ _ _ _ (@gu _ _ _ _ _ _ _ (@iV _) (@cO _ 5 _ _ rfl cP bU bV) (@dw _ _ _ _) (fun _ _=>rfl)) (@cT _) (cg rfl)) (cg rfl)) (cg rfl)) (cg rfl)) (cg rfl)) (by decide) rN (cg rfl) (fT rfl (fT rfl (fT rfl (fT rfl ff))))) (fZ rfl) (.inl rfl)) (@eF _ _ _ (@ia _ _ _ _ (@uO _ _ _ _ _ _ _ (@rZ _ _ _ _ _ _ _ _ (@Jd _) (@cO _ 6 _ _ rfl qM pT pU) (@tY _ _ _ _) (i8 _)) (@vm _ _ _ _ _ (@rZ _ _ _ _ _ _ _ _ (IS (J5 hr)) (@cO _ 5 _ _ rfl cP bU bV) (@rE _ _ _ _ (@bO _ _ _ _ _ (@cO _ 0 _ _ rfl kD aj ak) (@bO _ _ _ _ _ (@cO _ 1 _ _ rfl kE aa ae) (@bO _ _ _ _ _ (@cO _ 2 _ _ rfl kF gW gX) (@bO _ _ _ _ _ (@cO _ 3 _ _ rfl kG aP aQ) (@bO _ _ _ _ _ (@cO _ 4 _ _ rfl kH bG bH) (@cT _) (cg rfl)) (cg rfl)) (cg rfl)) (cg rfl)) (cg rfl))) (i8 _)))))))),?_⟩
 trivial
 refine⟨_,hrm,fun r1 hr1=>?_⟩
 obtain⟨H1,g1,S1,T1⟩:=nJ hr1 (rooms.map V.int)
 rw[← g1]
 clear g1
 refine⟨l,L,rfl,hL.same S1,lok.l,fun l2 H2 S2 hl2 hL2=>?_⟩
 have e2:=S1.trans S2
 refine⟨_,e2.seq hg,fun g3 hg3=>?_⟩
 obtain⟨H3,gg3,S3,T3⟩:=nJ hg3 (G.map V.int)
 rw[← gg3]
 clear gg3
 have e3:=e2.trans S3
 refine⟨⟨_,e3.seq hr'⟩,fun D hD=>?_⟩
 have lras:ras.length=RS.length:=Paired.length hrs
 obtain⟨Pc,hC⟩:∃ Pc:Nat→St→Hp→Prop,Pc=fun i τ H'=>∃ (nas:List Addr) (z:Option V),H' D=some (.lst (nas.map V.ref))∧Paired (fun n xs=>n≠D∧∃ us,H' n=some (.lst us)∧RtAt K H' us xs) nas (RS.take i)∧Same H3 H'∧τ=[z]:=⟨_,rfl⟩
 refine mC (ras.map V.ref) Pc ?_ (fun i τ H' _ h=>by rw[hC] at h; obtain⟨_,_,_,_,e,_⟩:=h; exact (e3.trans e).seq hr') ?_ ?_
 ·rw[hC]
  exact⟨[],_,cY,.nil,fD hD _,rfl⟩
 ·intro i x τ H4 R' hx h next
  rw[hC] at h
  obtain⟨nas,z,d4,p4,e4,rfl⟩:=h
  obtain⟨ra,hra,rfl⟩:∃ ra,ras[i]?=some ra∧x=.ref ra:=by
   rw[List.getElem?_map] at hx
   cases hh:ras[i]? with
   | none=>rw[hh] at hx; cases hx
   | some r=>rw[hh] at hx; exact⟨r,rfl,(Option.some.inj hx).symm⟩
  obtain⟨xs,hxs,us,u1,u2⟩:=ve hrs hra
  have li:=(List.getElem?_eq_some_iff.mp hxs).1
  have ln:nas.length≤64:=by
   rw[Paired.length p4,List.length_take]
   omega
  have e34:=e3.trans e4
  trivial
  refine⟨us,e34.seq u1,fun n hn=>?_⟩
  obtain⟨H5,g5,S5,T5⟩:=nJ hn us
  rw[← g5]
  clear g5
  have d5:=S5 _ _ d4
  have nD:n≠D:=fun z=>by rw[z,d4] at hn; cases hn
  refine⟨_,d5,by rw[List.length_map]; exact Nat.lt_of_lt_of_le (m:=1000) (by omega) (by decide),next _ _ ?_⟩
  rw[hC]
  refine⟨nas++[n],_,by rw[cY,List.map_append]; rfl,?_,fS (e4.trans S5) hD _,rfl⟩
  rw[List.take_add_one,hxs]
  have up:∀ (m:Addr) (ys:List (Nat×Int)),(m≠D∧∃ us,H5 m=some (.lst us)∧RtAt K H5 us ys)→(m≠D∧∃ us,L2.upd H5 D (.lst (nas.map V.ref++[.ref n])) m=some (.lst us)∧RtAt K (L2.upd H5 D (.lst (nas.map V.ref++[.ref n]))) us ys):=by
   rintro m ys ⟨k1,us',k2,k3⟩
   exact⟨k1,us',by rw[er k1]; exact k2,RtAt.upd d5 (fun ys z=>by cases z) (fun _ _ z=>by cases z) k3⟩
  have p5:Paired (fun m ys=>m≠D∧∃ us,L2.upd H5 D (.lst (nas.map V.ref++[.ref n])) m=some (.lst us)∧RtAt K (L2.upd H5 D (.lst (nas.map V.ref++[.ref n]))) us ys) nas (RS.take i):=Paired.mapP p4 fun m ys=>by
   rintro⟨k1,us',k2,k3⟩
   exact up m ys ⟨k1,us',S5 _ _ k2,k3.same S5⟩
  refine se ?_ p5
  exact up _ _ ⟨nD,us,T5,RtAt.same (e34.trans S5) u2⟩
 intro τ H4 h
 rw[hC] at h
 obtain⟨nas,z,d4,p4,e4,rfl⟩:=h
 clear hC
 rw[List.length_map,lras,List.take_length] at p4
 have e34:=e3.trans e4
 refine⟨_,e34.seq hc,fun c5 hc5=>?_⟩
 obtain⟨H5,g5,S5,T5⟩:=nJ hc5 cvs
 rw[← g5]
 clear g5
 refine⟨small (by decide),fun p6 hp6=>?_⟩
 obtain⟨H6,g6,S6,T6⟩:=nJ hp6 [V.ref r1,V.ref l2,V.ref g3,V.ref D,V.ref c5]
 rw[← g6]
 clear g6
 have S46:=S5.trans S6
 have e6:=e34.trans S46
 have T6':=SqL.of (K:=K) T6
 have n6:RtsAt' K H6 nas RS:=Paired.mapP p4 fun m ys h=>by
  obtain⟨_,us',k2,k3⟩:=h
  exact⟨us',S46 _ _ k2,k3.same S46⟩
 have c6:uK K H6 cvs cds:=xE e6 hcv
 have sr:=SqL.of (K:=K) ((((S2.trans S3).trans e4).trans S46) _ _ T1)
 have sl:=hL2.at.same ((S3.trans e4).trans S46)
 have sg:=SqL.of (K:=K) ((e4.trans S46) _ _ T3)
 have sD:=SqL.of (K:=K) (S46 _ _ d4)
 have sc:=SqL.of (K:=K) (S6 _ _ T5)
 refine⟨_,T6',_,rfl,_,T6',_,rfl,_,T6',_,rfl,_,T6',_,rfl,_,T6',_,rfl,r1,l2,_,_,_,rooms,L,.lst (G.map Dt.int),.lst (RS.map vd),.lst cds,rfl,sr,sl,lok,zR sg (by omega),.lst sD (rts_rp' n6 l60) (by rw[List.length_map]; omega),.lst sc (Ex c6) (by omega),fun H7 e7=>⟨_,rfl,?_⟩⟩
 rw[good,if_pos (by decide)]
 refine⟨small (by decide),fun p8 hp8=>?_⟩
 obtain⟨H8,g8,S8,T8⟩:=nJ hp8 [V.ref rm,V.ref l,V.ref g,V.ref r,V.ref c]
 rw[← g8]
 clear g8
 have S68:=e7.trans S8
 have e8:=e6.trans S68
 obtain⟨pds,hpd,fpd⟩:=B7 (xE e8 hcv)
 have fdd:zQ (.list [wQ rooms,lnD L,wQ G,.list (RS.map rtD),.list pds]):=by
  refine Ga (uu (n:=3) fun d hd=>?_) (by decide)
  rcases List.mem_cons.mp hd with rfl | hd
  ·exact AY (vP _) (by decide)
  rcases List.mem_cons.mp hd with rfl | hd
  ·exact Jj L
  rcases List.mem_cons.mp hd with rfl | hd
  ·exact AY (vP _) (by decide)
  rcases List.mem_cons.mp hd with rfl | hd
  ·exact uu (vB fun xs _=>Ju xs)
  rw[List.mem_singleton.mp hd]
  exact AY (uu fpd) (by decide)
 have two:∀ {rm' l' g' r' c' p:Addr} {nas':List Addr},SqL K H8 p [V.ref rm',V.ref l',V.ref g',V.ref r',V.ref c']→SqL K H8 rm' (rooms.map V.int)→LnAt K H8 l' L→SqL K H8 g' (G.map V.int)→SqL K H8 r' (nas'.map V.ref)→uB K H8 nas' RS→SqL K H8 c' cvs→Rep K H8 (.ref p) (.list [wQ rooms,lnD L,wQ G,.list (RS.map rtD),.list pds]):=fun h0 h1 h2 h3 h4 h5 h6=>.lst h0 (.cons (vq h1) (.cons (JB h2) (.cons (vq h3) (.cons (.lst h4 (Ct h5)) (.cons (.lst h6 hpd) .nil)))))
 refine⟨_,_,two (S68.seq T6') (S68.seq sr) (sl.same S68) (S68.seq sg) (S68.seq sD) (Paired.mapP n6 fun m ys h=>by
  obtain⟨us',k2,k3⟩:=h
  exact⟨us',S68.seq (SqL.of k2),k3.same S68⟩) (S68.seq sc),two (SqL.of T8) (e8.seq hrm) (hL.same e8) (e8.seq hg) (e8.seq hr') (Paired.mapP hrs fun m ys h=>by
  obtain⟨us',k2,k3⟩:=h
  exact⟨us',e8.seq k2,k3.same e8⟩) (e8.seq hc),fdd,fdd,?_⟩
 show Q (.bl (PyData.eqv _ _)) H8
 rw[SeqAt.eqv_refl _ fdd.1]
 exact q _ e8
end
end MyL
namespace MyN
open My MyB MyC MyD MyE MyF MyG MyS MyI MyJ MyK MyT MyU MyV MyW MyX MyY MyZ MyL PySem L2
def top (i:Nat):Stmt:=PySem.Challenge.pw_tariffgate_k66_said_otherwise.main.body.getD i (.Pass ⟨0,0,0,0⟩)
theorem cS:(("_law_turned_here":Str) == ("__debug__":Str))=false:=by decide
theorem cU:(("_law_turned_here":Str) == ("__classdict__":Str))=false:=by decide
theorem dA:(("_law_cut":Str) == ("__debug__":Str))=false:=by decide
theorem dB:(("_law_cut":Str) == ("__classdict__":Str))=false:=by decide
abbrev ba:Stmt:=top 33
theorem fH:FnScope ["_law_cuts","_law_turned_here","_law_cut"] ["_law_cuts"] (defScope ba):=⟨rfl,rfl,rfl,by decide +kernel,rfl,by decide +kernel,by decide +kernel⟩
theorem mM:Vis (defScope ba) "_law_cuts":=by decreasing_trivial
theorem eU:Vis (defScope ba) "_law_turned_here":=by decreasing_trivial
theorem mO:Loc (defScope ba) "_law_turned_here":=by first | exact Or.inl rfl | exact Or.inr rfl
theorem iJ:Vis (defScope ba) "_law_cut":=by decreasing_trivial
theorem mP:Loc (defScope ba) "_law_cut":=by first | exact Or.inl rfl | exact Or.inr rfl
def TV (K:PySem.W.Frag) (H:Hp) (D:Addr) (v:V) (d:Dt):Prop :=
 (∃ t,v=.ref t∧SqT K H t [.int 0,.int 0]∧d=.tup [.int 0,.int 0])∨(∃ (a:Addr) (ns:List Int),v=.ref a∧a≠D∧H a=some (.lst (ns.map V.int))∧ns.length≤60∧d=.lst (ns.map Dt.int))∨(v=.non∧d=.non)∨(v=.str "no"∧d=.str "no")∨∃ i,v=.int i∧d=.int i
theorem TV.same {K:PySem.W.Frag} {H H':Hp} {D:Addr} {v:V} {d:Dt} (h:TV K H D v d) (e:Same H H'):TV K H' D v d:=by
 rcases h with ⟨t,a,b,c⟩ | ⟨x,ns,a,b,c,g,f⟩ | h | h | h
 ·exact .inl ⟨t,a,Same.tup e b,c⟩
 ·exact .inr (.inl ⟨x,ns,a,b,e _ _ c,g,f⟩)
 ·exact .inr (.inr (.inl h))
 ·exact .inr (.inr (.inr (.inl h)))
 ·exact .inr (.inr (.inr (.inr h)))
theorem TV.upd {K:PySem.W.Frag} {H:Hp} {D:Addr} {v:V} {d:Dt} {xs ys:List V} (h:TV K H D v d) (hD:H D=some (.lst xs)):TV K (L2.upd H D (.lst ys)) D v d:=by
 rcases h with ⟨t,a,b,c⟩ | ⟨x,ns,a,b,c,g,f⟩ | h | h | h
 ·exact .inl ⟨t,a,uc hD (fun ys z=>by cases z) (fun _ _ z=>by cases z) b,c⟩
 ·exact .inr (.inl ⟨x,ns,a,b,by rw[er b]; exact c,g,f⟩)
 ·exact .inr (.inr (.inl h))
 ·exact .inr (.inr (.inr (.inl h)))
 ·exact .inr (.inr (.inr (.inr h)))
theorem TV.ok {K:PySem.W.Frag} {H:Hp} {D:Addr} {v:V} {d:Dt} (h:TV K H D v d):Fi K H v d:=by
 rcases h with ⟨t,rfl,b,rfl⟩ | ⟨x,ns,rfl,b,c,g,rfl⟩ | ⟨rfl,rfl⟩ | ⟨rfl,rfl⟩ | ⟨i,rfl,rfl⟩
 ·exact⟨.tup b (.cons (.int 0) (.cons (.int 0) .nil)),_,.tup b (.cons (.int 0) (.cons (.int 0) .nil)),yJ (yr (uy _) (uy _))⟩
 ·exact⟨zR (SqL.of c) (by omega),_,vq (SqL.of c),vP ns⟩
 ·exact⟨.non,_,.non,⟨rfl,Nat.zero_le _⟩⟩
 ·exact⟨.str _,_,.str _,⟨by decide +kernel,Nat.zero_le _⟩⟩
 ·exact⟨.int i,_,.int i,uy i⟩
def CE (rooms:List Int) (L:List En) (G:List Int) (e:Nat) (d:Dt):Prop:=G.getD e 0<wt L e→∃ ns:List Int,d=.lst (ns.map Dt.int)∧ns.Nodup∧(∀ x∈ns,∃ j:Nat,x=(j:Int)∧j<rooms.length)∧(pl L e).all (inS ns)=true∧roomS rooms rooms.length (inS ns)=sumG L (fun e=>G.getD e 0) (inS ns) (e+1)
def yY (K:PySem.W.Frag):Sp:=fun vs H Q _=>∃ (c:Addr) (cvs:List V) (rooms:List Int) (L:List En) (G:List Int),vs=[.ref c]∧SqL K H c cvs∧cvs.length=L.length∧L.length≤64∧(∀ (e:Nat) (v:V),cvs[e]?=some v→CutN K H rooms L G e v)∧∀ (c':Addr) (cvs':List V) (cds':List Dt) (H':Hp),Same H H'→H' c'=some (.lst cvs')→uK K H' cvs' cds'→cds'.length=L.length→(∀ e d,cds'[e]?=some d→CE rooms L G e d)→Q (.ref c') H'
section
variable {P:Program} {w:World} {K:PySem.W.Frag} {mg:Str→Option Value} {base:Heap} {f:Addr} {fd:FuncData}
theorem zB (F:Fun K "_law_turned" "_law_turned" ba f fd) (M:Mg mg):FnOk P w K mg base CX0 1 f fd ["_law_cuts"] (yY K):=by
 refine F.ok fH (fun vs H Q E h=>?_) (fun cdv A outer s H vs Q E hr h=>?_)
 ·obtain⟨c,cvs,rooms,L,G,rfl,_⟩:=h
  rfl
 obtain⟨c,cvs,rooms,L,G,rfl,hc,lc,l64,cn,q⟩:=h
 refine⟨_,(@dI _ _ _ _ _ (@ic _ _ 1 _ _ _ _ fH.nd rfl mO (@rE _ _ _ _ (@cT _)) (fZ rfl) (.inl rfl)) (@dI _ _ _ _ _ (@pC _ _ _ _ _ _ _ _ PassesOwn.never rfl (@kL _ _ _ _ (@cO _ 0 _ _ rfl mM bG bH)) (@fj _ _ 2 _ fH.nd rfl mP (.inl rfl)) (@eF _ _ _ (@nC _ _ _ _ _ _ _ _ (@kB _ _ _ _ _ _ _ _ (@DL _) (@cO _ 2 _ _ rfl iJ dA dB) (@tZ _ _ _) (i8 _)) (@eF _ _ _ (@r8 _ _ _ _ (@uo _ _ _ _ _ _ _ _ _ _ _ _ PySem.F.plainAttrs_list PySem.F.slot_list_append PySem.F.type_list_append nR (@cO _ 1 _ _ rfl eU cS cU) (@bO _ _ _ _ _ (@tP _ _ _ _ _ (@bO _ _ _ _ _ (@dw _ _ _ _) (@bO _ _ _ _ _ (@dw _ _ _ _) (@cT _) (cg rfl)) (cg rfl))) (@cT _) (cg rfl)) (by rfl) (by rfl) (by rfl) (by rfl) (by rfl)) (fZ rfl))) (@eF _ _ _ (@r8 _ _ _ _ (@uo _ _ _ _ _ _ _ _ _ _ _ _ PySem.F.plainAttrs_list PySem.F.slot_list_append PySem.F.type_list_append nR (@cO _ 1 _ _ rfl eU cS cU) (@bO _ _ _ _ _ (@AX _ _ _ _ _ _ _ (@cO _ 2 _ _ rfl iJ dA dB) (@wN _ _ _ (@vz _ _ _ _ _ _ (@uT _) (@dw _ _ _ _)))) (@cT _) (cg rfl)) (by rfl) (by rfl) (by rfl) (by rfl) (by rfl)) (fZ rfl))))) (by intro _; rfl)) (@eF _ _ _ (@ia _ _ _ _ (@cO _ 1 _ _ rfl eU cS cU))))),?_⟩
 trivial
 refine⟨small (by decide),fun D hD=>?_⟩
 refine⟨⟨_,(fD hD _).seq hc⟩,?_⟩
 obtain⟨Pv,hP⟩:∃ Pv:Nat→St→Hp→Prop,Pv=fun i σ H'=>∃ (vs':List V) (ds':List Dt) (z:Option V),H' D=some (.lst vs')∧Paired (fun v d=>TV K H' D v d) vs' ds'∧ds'.length=i∧(∀ e d,ds'[e]?=some d→CE rooms L G e d)∧Same H H'∧σ=[some (.ref c),some (.ref D),z]:=⟨_,rfl⟩
 refine sy cvs Pv ?_ (fun i σ H' _ h=>by rw[hP] at h; obtain⟨_,_,_,_,_,_,_,e,_⟩:=h; exact e.seq hc) ?_ ?_
 ·rw[hP]
  exact⟨[],[],_,cY,.nil,rfl,(fun e d h=>by cases h),fD hD _,rfl⟩
 ·intro i v σ H1 hv h
  rw[hP] at h
  obtain⟨vs',ds',z,d1,p1,ld,ce,e1,rfl⟩:=h
  have li:=(List.getElem?_eq_some_iff.mp hv).1
  have lv:vs'.length=ds'.length:=Paired.length p1
  have snoc:∀ {H2:Hp} {v':V} {d':Dt},Same H1 H2→TV K H2 D v' d'→CE rooms L G i d'→∃ (vs'':List V) (ds'':List Dt),vs''=vs'++[v']∧Paired (fun v d=>TV K (L2.upd H2 D (.lst (vs'++[v']))) D v d) vs'' ds''∧ds''.length=i+1∧∀ e d,ds''[e]?=some d→CE rooms L G e d:=fun {H2 v' d'} e2 ht hce=>by
   have d2:=e2 _ _ d1
   have p2:Paired (fun v d=>TV K (L2.upd H2 D (.lst (vs'++[v']))) D v d) vs' ds':=Paired.mapP p1 fun v d=>fun h=>(h.same e2).upd d2
   refine⟨vs'++[v'],ds'++[d'],rfl,?_,by rw[List.length_append,ld]; rfl,fun e d hd=>?_⟩
   ·refine se ?_ p2
    exact ht.upd d2
   ·by_cases he:e<ds'.length
    ·rw[List.getElem?_append_left he] at hd
     exact ce e d hd
    ·rw[List.getElem?_append_right (by omega)] at hd
     have:e-ds'.length=0:=by
      have:=(List.getElem?_eq_some_iff.mp hd).1
      rw[List.length_singleton] at this
      omega
     rw[this] at hd
     cases hd
     rw[show e=i by omega]
     exact hce
  trivial
  have ty:tyV K "list" (V.ref D) H1:=.inl ⟨rfl,_,SqL.of d1⟩
  rcases cn i v hv with ⟨rfl,hw⟩ | ⟨a,ns,rfl,h1,h2,h3,h4,h5,h6,h7⟩
  ·rw[if_pos rfl]
   refine⟨ty,small (by decide),fun p hp=>?_⟩
   obtain⟨H2,g2,S2,T2⟩:=ki (K:=K) hp [V.int 0,V.int 0]
   rw[← g2]
   clear g2
   obtain⟨vs'',ds'',rfl,p3,l3,c3⟩:=snoc S2 (.inl ⟨p,rfl,T2,rfl⟩) (fun z=>by omega)
   refine⟨_,S2 _ _ d1,Nat.lt_of_lt_of_le (m:=1000) (by omega) (by decide),?_⟩
   rw[hP]
   exact⟨_,ds'',_,cY,p3,l3,c3,fS (e1.trans S2) hD _,rfl⟩
  ·rw[if_neg (fun z=>by cases z)]
   refine⟨ty,a,rfl,_,e1.seq h1,fun p hp=>?_⟩
   rw[← List.map_reverse]
   obtain⟨H2,g2,S2,T2⟩:=nJ hp (ns.reverse.map V.int)
   rw[← g2]
   clear g2
   have pD:p≠D:=fun z=>by rw[z,d1] at hp; cases hp
   have inr:inS ns.reverse=inS ns:=by
    funext j
    unfold inS
    rw[decide_eq_decide,List.mem_reverse]
   obtain⟨vs'',ds'',rfl,p3,l3,c3⟩:=snoc S2 (.inr (.inl ⟨p,ns.reverse,rfl,pD,T2,by rw[List.length_reverse]; omega,rfl⟩)) (fun _=>⟨ns.reverse,rfl,(show ns.reverse.Nodup by rw[List.Nodup,List.pairwise_reverse]; exact h4.imp fun h=>Ne.symm h),fun x hx=>h5 x (List.mem_reverse.mp hx),by rw[inr]; exact h6,by rw[inr]; exact h7⟩)
   refine⟨_,S2 _ _ d1,Nat.lt_of_lt_of_le (m:=1000) (by omega) (by decide),?_⟩
   rw[hP]
   exact⟨_,ds'',_,cY,p3,l3,c3,fS (e1.trans S2) hD _,rfl⟩
 ·intro σ H1 h
  rw[hP] at h
  obtain⟨vs',ds',z,d1,p1,ld,ce,e1,rfl⟩:=h
  trivial
  exact q _ _ _ _ e1 d1 (Paired.mapP p1 fun v d=>fun h=>h.ok) (by rw[ld,lc]) ce
end
end MyN
namespace MyO
open My MyB MyC MyD MyE MyF MyG MyS MyI MyJ MyK MyT MyU MyV MyW MyX MyY MyZ MyL MyN PySem L2
def sY (c:Nat→Bool) (xs:List (Nat×Int)):Int:=(xs.map fun x=>if c x.1=true then x.2 else 0).sum
theorem EF (xs:List (Nat×Int)) (j:Nat):sY (fun i=>decide (i=j)) xs=nW xs j:=by
 unfold sY nW
 refine congrArg List.sum (List.map_congr_left fun x _=>?_)
 by_cases h:x.1=j
 ·rw[if_pos (decide_eq_true h),if_pos h]
 ·rw[if_neg (fun z=>h (of_decide_eq_true z)),if_neg h]
theorem vO (xs:List (Nat×Int)):sY (fun _=>true) xs=(xs.map Prod.snd).sum:=by
 unfold sY
 refine congrArg List.sum (List.map_congr_left fun x _=>?_)
 rw[if_pos rfl]
theorem uR {c:Nat→Bool} {x:Nat×Int} {xs:List (Nat×Int)}:sY c (x::xs)=(if c x.1=true then x.2 else 0)+sY c xs:=by
 unfold sY
 rw[List.map_cons,List.sum_cons]
theorem Fp {c:Nat→Bool} {xs ys:List (Nat×Int)}:sY c (xs++ys)=sY c xs+sY c ys:=by
 unfold sY
 rw[List.map_append,List.sum_append]
theorem AS {c:Nat→Bool} {p:Nat} {m:Int}:∀ {xs:List (Nat×Int)},(xs.map Prod.fst).Nodup→p∈xs.map Prod.fst→sY c (xs.map fun x=>if x.1=p then (p,x.2+m) else x)=sY c xs+if c p=true then m else 0
 | [],_,h=>by cases h
 | x::xs,nd,h=>by
  rw[List.map_cons,List.nodup_cons] at nd
  rw[List.map_cons,uR,uR]
  by_cases e:x.1=p
  ·have hn:∀ y∈xs,y.1≠p:=fun y hy z=>nd.1 (by rw[e,← z]; exact List.mem_map.mpr ⟨y,hy,rfl⟩)
   have e2:(xs.map fun x=>if x.1=p then (p,x.2+m) else x)=xs:=by
    conv=>rhs; rw[← List.map_id xs]
    exact List.map_congr_left fun y hy=>if_neg (hn y hy)
   rw[e2,if_pos e,e]
   show (if c p=true then x.2+m else 0)+_=_
   by_cases hc:c p=true
   ·rw[if_pos hc,if_pos hc,if_pos hc]; omega
   ·rw[if_neg hc,if_neg hc,if_neg hc]; omega
  ·have h':p∈xs.map Prod.fst:=by
    rw[List.map_cons] at h
    rcases List.mem_cons.mp h with h | h
    ·exact absurd h.symm e
    ·exact h
   rw[AS nd.2 h',if_neg e]
   omega
theorem Gm {c:Nat→Bool} {p:Nat} {m:Int} {xs:List (Nat×Int)} (nd:(xs.map Prod.fst).Nodup):sY c (t8 xs p m)=sY c xs+if c p=true then m else 0:=by
 unfold t8
 by_cases h:p∈xs.map Prod.fst
 ·rw[if_pos h,AS nd h]
 ·rw[if_neg h,Fp]
  show _+((if c p=true then m else 0)+0)=_
  omega
theorem zY {c:Nat→Bool}:∀ {ys:List (Nat×Int)},(∀ y∈ys,0≤y.2)→sY c (ys.filter fun x=>decide (0<x.2))=sY c ys
 | [],_=>rfl
 | y::ys,h=>by
  have ih:=zY (c:=c) fun z hz=>h z (List.mem_cons_of_mem _ hz)
  have h0:=h y List.mem_cons_self
  by_cases e:0<y.2
  ·rw[List.filter_cons_of_pos (by simpa using e),uR,uR,ih]
  ·rw[List.filter_cons_of_neg (by simpa using e),uR,ih,show y.2=0 by omega]
   split <;> omega
theorem HW {p:Nat} {m:Int} {xs:List (Nat×Int)} (h0:∀ x∈xs,0≤x.2) (h1:∀ x∈xs,x.1=p→0≤x.2+m) (h2:p ∉ xs.map Prod.fst→0≤m):∀ y∈t8 xs p m,0≤y.2:=fun y hy=>by
 unfold t8 at hy
 by_cases h:p∈xs.map Prod.fst
 ·rw[if_pos h] at hy
  obtain⟨x,hx,rfl⟩:=List.mem_map.mp hy
  by_cases e:x.1=p
  ·rw[if_pos e]
   exact h1 x hx e
  ·rw[if_neg e]
   exact h0 x hx
 ·rw[if_neg h] at hy
  rcases List.mem_append.mp hy with hy | hy
  ·exact h0 y hy
  ·rw[List.mem_singleton.mp hy]
   exact h2 h
theorem FL {p:Nat} {m:Int} {xs:List (Nat×Int)}:∀ y∈t8 xs p m,y.1∈xs.map Prod.fst∨y.1=p:=fun y hy=>by
 have:y.1∈(t8 xs p m).map Prod.fst:=List.mem_map.mpr ⟨y,hy,rfl⟩
 rw[AE] at this
 by_cases h:p∈xs.map Prod.fst
 ·rw[if_pos h] at this
  exact .inl this
 ·rw[if_neg h] at this
  rcases List.mem_append.mp this with h | h
  ·exact .inl h
  ·exact .inr (List.mem_singleton.mp h)
def stX (xs:List (Nat×Int)) (p:Nat) (m:Int):List (Nat×Int):=(t8 xs p m).filter fun x=>decide (0<x.2)
structure RtG (xs:List (Nat×Int)):Prop where
 nd:(xs.map Prod.fst).Nodup
 ge:∀ x∈xs,1≤x.2
theorem An {p:Nat} {m:Int} {xs:List (Nat×Int)} (h:RtG xs) (h1:∀ x∈xs,x.1=p→0≤x.2+m) (h2:p ∉ xs.map Prod.fst→0≤m):RtG (stX xs p m)∧(∀ c,sY c (stX xs p m)=sY c xs+if c p=true then m else 0)∧(∀ y∈stX xs p m,y.1∈xs.map Prod.fst∨y.1=p)∧(stX xs p m).length≤xs.length+1:=by
 refine⟨⟨?_,fun x hx=>?_⟩,fun c=>?_,fun y hy=>FL y (List.mem_filter.mp hy).1,?_⟩
 ·exact (BV h.nd).sublist (List.filter_sublist.map _)
 ·have:=of_decide_eq_true (List.mem_filter.mp hx).2
  omega
 ·unfold stX
  rw[zY (HW (fun x hx=>by have:=h.ge x hx; omega) h1 h2),Gm h.nd]
 ·exact Nat.le_trans (List.length_filter_le ..) Al
theorem B9 {p s:Nat} {m a:Int} {xs:List (Nat×Int)} (h:RtG xs) (hp:(p,a)∈xs) (m1:1≤m) (ma:m≤a):RtG (stX (stX xs p (-m)) s m)∧(∀ c,sY c (stX (stX xs p (-m)) s m)=sY c xs-(if c p=true then m else 0)+if c s=true then m else 0)∧(∀ y∈stX (stX xs p (-m)) s m,y.1∈xs.map Prod.fst∨y.1=s)∧(stX (stX xs p (-m)) s m).length≤xs.length+2:=by
 have hpm:p∈xs.map Prod.fst:=List.mem_map.mpr ⟨_,hp,rfl⟩
 obtain⟨g1,c1,y1,l1⟩:=An (m:=-m) h (fun x hx e=>by
  have f1:=u6 h.nd hx e
  have f2:=u6 h.nd hp rfl
  rw[f1] at f2
  have:x=(p,a):=Option.some.inj f2
  rw[this]
  show 0≤a + -m
  omega) (fun z=>absurd hpm z)
 obtain⟨g2,c2,y2,l2⟩:=An (p:=s) (m:=m) g1 (fun x hx _=>by have:=g1.ge x hx; omega) (fun _=>by omega)
 refine⟨g2,fun c=>?_,fun y hy=>?_,by omega⟩
 ·rw[c2,c1]
  by_cases hc:c p=true
  ·rw[if_pos hc,if_pos hc]; omega
  ·rw[if_neg hc,if_neg hc]; omega
 ·rcases y2 y hy with z | z
  ·obtain⟨w,hw,e⟩:=List.mem_map.mp z
   rcases y1 w hw with z | z
   ·rw[← e]
    exact .inl z
   ·rw[← e,z]
    exact .inl hpm
  ·exact .inr z
end MyO
namespace MyP
open My MyB MyC MyD MyE MyF MyG MyS MyI MyJ MyK MyT MyU MyV MyW MyX MyY MyZ MyL MyN MyO PySem L2
def top (i:Nat):Stmt:=PySem.Challenge.pw_tariffgate_k66_said_otherwise.main.body.getD i (.Pass ⟨0,0,0,0⟩)
theorem cq:(("_law_one":Str) == ("__debug__":Str))=false:=by decide
theorem cr:(("_law_one":Str) == ("__classdict__":Str))=false:=by decide
theorem cf:(("_law_other":Str) == ("__debug__":Str))=false:=by decide
theorem ci:(("_law_other":Str) == ("__classdict__":Str))=false:=by decide
theorem mQ:(("_law_amount":Str) == ("__debug__":Str))=false:=by decide
theorem mR:(("_law_amount":Str) == ("__classdict__":Str))=false:=by decide
theorem bW:(("_law_second":Str) == ("__debug__":Str))=false:=by decide
theorem bX:(("_law_second":Str) == ("__classdict__":Str))=false:=by decide
theorem pX:(("_law_more":Str) == ("__debug__":Str))=false:=by decide
theorem pY:(("_law_more":Str) == ("__classdict__":Str))=false:=by decide
abbrev ao:Stmt:=top 30
theorem cu:FnScope ["_law_line_here","_law_routes","_law_one","_law_other","_law_place","_law_amount","_law_second","_law_more"] ["_law_line_here","_law_routes"] (defScope ao):=⟨rfl,rfl,rfl,by decide +kernel,rfl,by decide +kernel,by decide +kernel⟩
theorem gC:Vis (defScope ao) "_law_line_here":=by decreasing_trivial
theorem jV:Vis (defScope ao) "_law_routes":=by decreasing_trivial
theorem eA:Vis (defScope ao) "_law_one":=by decreasing_trivial
theorem pZ:Loc (defScope ao) "_law_one":=by first | exact Or.inl rfl | exact Or.inr rfl
theorem gD:Vis (defScope ao) "_law_other":=by decreasing_trivial
theorem p9:Loc (defScope ao) "_law_other":=by first | exact Or.inl rfl | exact Or.inr rfl
theorem gE:Vis (defScope ao) "_law_place":=by decreasing_trivial
theorem qc:Loc (defScope ao) "_law_place":=by first | exact Or.inl rfl | exact Or.inr rfl
theorem qd:Vis (defScope ao) "_law_amount":=by decreasing_trivial
theorem qg:Loc (defScope ao) "_law_amount":=by first | exact Or.inl rfl | exact Or.inr rfl
theorem gF:Vis (defScope ao) "_law_second":=by decreasing_trivial
theorem qh:Loc (defScope ao) "_law_second":=by first | exact Or.inl rfl | exact Or.inr rfl
theorem qj:Vis (defScope ao) "_law_more":=by decreasing_trivial
theorem qk:Loc (defScope ao) "_law_more":=by first | exact Or.inl rfl | exact Or.inr rfl
theorem gG:(defScope ao).names.lookup ("range":Str)=some .globalImplicit:=by rfl
theorem mT:(defScope ao).names.lookup ("len":Str)=some .globalImplicit:=by rfl
theorem mU:(defScope ao).names.lookup ("min":Str)=some .globalImplicit:=by rfl
def yU (K:PySem.W.Frag):Sp:=fun vs H Q _=>∃ (l r:Addr) (L:List En) (ras:List Addr) (RS:List (List (Nat×Int))),vs=[.ref l,.ref r]∧LnAt K H l L∧L.length≤64∧SqL K H r (ras.map V.ref)∧uB K H ras RS∧RS.length=L.length∧(∀ H',Same H H'→Q .non H')∧∀ (t:Addr) (H':Hp) (one other p s:Nat) (a b m:Int),Same H H'→SqT K H' t [.int (one:Int),.int (other:Int),.int (p:Int),.int (s:Int),.int m]→one<L.length→other<one→(p,a)∈RS.getD one []→(s,b)∈RS.getD other []→p≠s→p∈pl L other→s∈pl L one→m≤a→m≤b→(m=a∨m=b)→Q (.ref t) H'
theorem yK {K:PySem.W.Frag} {H:Hp}:∀ {us:List V} {xs:List (Nat×Int)} {i:Nat} {v:V},RtAt K H us xs→us[i]?=some v→∃ t x,v=V.ref t∧xs[i]?=some x∧SqT K H t [.int (x.1:Int),.int x.2]
 | _,_,_,_,.nil,h=>by cases h
 | _,_,0,_,.cons ⟨t,a,b⟩ _,h=>by
  cases h
  exact⟨t,_,a,rfl,b⟩
 | _,_,i+1,_,.cons _ r,h=>by
  rw[List.getElem?_cons_succ] at h
  obtain⟨t,x,a,b,c⟩:=yK r h
  exact⟨t,x,a,by rw[List.getElem?_cons_succ]; exact b,c⟩
section
variable {P:Program} {w:World} {K:PySem.W.Frag} {mg:Str→Option Value} {base:Heap} {f:Addr} {fd:FuncData}
theorem A6 (F:Fun K "_law_pair" "_law_pair" ao f fd) (M:Mg mg):FnOk P w K mg base CX0 1 f fd ["_law_line_here","_law_routes"] (yU K):=by
 refine F.ok cu (fun vs H Q E h=>?_) (fun cdv A outer s H vs Q E hr h=>?_)
 ·obtain⟨l,r,L,ras,RS,rfl,_⟩:=h
  rfl
 obtain⟨l,r,L,ras,RS,rfl,hL,l64,hr',hrs,lR,qn,q⟩:=h
 refine⟨_,(@dI _ _ _ _ _ (@pC _ _ _ _ _ _ _ _ PassesOwn.never rfl (@sW _ _ _ _ _ _ gG M.m_range (@bO _ _ _ _ _ (@fY _ _ _ _ _ _ _ _ _ iU mT M.m_len pW (@bO _ _ _ _ _ (@cO _ 0 _ _ rfl gC aa ae) (@cT _) (cg rfl)) aA az (cg rfl) ff) (@cT _) (cg rfl)) (star1' rfl)) (@fj _ _ 2 _ cu.nd rfl pZ (.inl rfl)) (@eF _ _ _ (@pC _ _ _ _ _ _ _ _ PassesOwn.never rfl (@sW _ _ _ _ _ _ gG M.m_range (@bO _ _ _ _ _ (@cO _ 2 _ _ rfl eA cq cr) (@cT _) (cg rfl)) (star1' rfl)) (@fj _ _ 3 _ cu.nd rfl p9 (.inl rfl)) (@eF _ _ _ (@pC _ _ _ _ _ _ _ _ PassesOwn.never rfl (@kL _ _ _ _ (@gu _ _ _ _ _ _ _ (@iV _) (@cO _ 1 _ _ rfl jV aP aQ) (@cO _ 2 _ _ rfl eA cq cr) (fun _ _=>rfl))) (@uP _ _ _ _ _ _ rfl (@gS _ _ _ _ _ (@fj _ _ 4 _ cu.nd rfl qc (.inl rfl)) (@gS _ _ _ _ _ (@fj _ _ 5 _ cu.nd rfl qg (.inl rfl)) (@oW _) (by rfl)) (by rfl)) (by rfl) (by rfl)) (@eF _ _ _ (@pC _ _ _ _ _ _ _ _ PassesOwn.never rfl (@kL _ _ _ _ (@gu _ _ _ _ _ _ _ (@iV _) (@cO _ 1 _ _ rfl jV aP aQ) (@cO _ 3 _ _ rfl gD cf ci) (fun _ _=>rfl))) (@uP _ _ _ _ _ _ rfl (@gS _ _ _ _ _ (@fj _ _ 6 _ cu.nd rfl qh (.inl rfl)) (@gS _ _ _ _ _ (@fj _ _ 7 _ cu.nd rfl qk (.inl rfl)) (@oW _) (by rfl)) (by rfl)) (by rfl) (by rfl)) (@eF _ _ _ (@nC _ _ _ _ _ _ _ _ (@PW.pt _ _ _ (@yc _ _ _ _ _ _ _ (@kB _ _ _ _ _ _ _ _ (@JN _) (@cO _ 4 _ _ rfl gE aM aN) (@cO _ 6 _ _ rfl gF bW bX) (i8 _)) (@yc _ _ _ _ _ _ _ (@kB _ _ _ _ _ _ _ _ (uZ (K:=K) rfl) (@cO _ 4 _ _ rfl gE aM aN) (@gu _ _ _ _ _ _ _ (@ni _) (@gu _ _ _ _ _ _ _ (@iV _) (@cO _ 0 _ _ rfl gC aa ae) (@cO _ 3 _ _ rfl gD cf ci) (fun _ _=>rfl)) (@dw _ _ _ _) (fun _ _=>rfl)) (by with_unfolding_all rfl)) (@Cr _ _ _ _ (@kB _ _ _ _ _ _ _ _ (uZ (K:=K) rfl) (@cO _ 6 _ _ rfl gF bW bX) (@gu _ _ _ _ _ _ _ (@ni _) (@gu _ _ _ _ _ _ _ (@iV _) (@cO _ 0 _ _ rfl gC aa ae) (@cO _ 2 _ _ rfl eA cq cr) (fun _ _=>rfl)) (@dw _ _ _ _) (fun _ _=>rfl)) (by with_unfolding_all rfl)))))) (@eF _ _ _ (@ia _ _ _ _ (@tP _ _ _ _ _ (@bO _ _ _ _ _ (@cO _ 2 _ _ rfl eA cq cr) (@bO _ _ _ _ _ (@cO _ 3 _ _ rfl gD cf ci) (@bO _ _ _ _ _ (@cO _ 4 _ _ rfl gE aM aN) (@bO _ _ _ _ _ (@cO _ 6 _ _ rfl gF bW bX) (@bO _ _ _ _ _ (@fY _ _ _ _ _ _ _ _ _ (ET rfl) mU M.m_min Gy (@bO _ _ _ _ _ (@cO _ 5 _ _ rfl qd mQ mR) (@bO _ _ _ _ _ (@cO _ 7 _ _ rfl qj pX pY) (@cT _) (cg rfl)) (cg rfl)) oK oJ (cg rfl) (fT rfl ff)) (@cT _) (cg rfl)) (cg rfl)) (cg rfl)) (cg rfl)) (cg rfl))))) (@m8 _))) (by intro _; rfl))) (by intro _; rfl))) (by intro _; rfl))) (by intro _; rfl)) (@eF _ _ _ (@ia _ _ _ _ (@tZ _ _ _)))),?_⟩
 obtain⟨us,hus,hpa⟩:=hL
 have lus:us.length=L.length:=Paired.length hpa
 have lras:ras.length=RS.length:=Paired.length hrs
 have pick:∀ k,k<L.length→∃ (ra:Addr) (ws:List V),atI (ras.map V.ref) (0+(k:Int))=some (.ref ra)∧SqL K H ra ws∧RtAt K H ws (RS.getD k []):=fun k hk=>by
  obtain⟨ra,hra⟩:∃ ra,ras[k]?=some ra:=⟨_,List.getElem?_eq_getElem (by omega)⟩
  obtain⟨xs,hxs,ws,h1,h2⟩:=ve hrs hra
  refine⟨ra,ws,?_,h1,by rw[show RS.getD k []=xs by rw[List.getD,hxs]; rfl]; exact h2⟩
  rw[Int.zero_add]
  exact oh (by rw[List.getElem?_map,hra]; rfl)
 have line:∀ k,k<L.length→∃ (te qe:Addr),atI us (0+(k:Int))=some (.ref te)∧(∃ w,SqT K H te [.ref qe,.int w])∧SqL K H qe (((pl L k).map fun j:Nat=>(j:Int)).map V.int):=fun k hk=>by
  obtain⟨en,hen⟩:∃ en,L[k]?=some en:=⟨_,List.getElem?_eq_getElem hk⟩
  obtain⟨te,qe,a1,a2,a3⟩:=tT hpa hen
  refine⟨te,qe,?_,⟨_,a2⟩,?_⟩
  ·rw[Int.zero_add]
   exact oh a1
  ·rw[show pl L k=en.1 by rw[pl,List.getD,hen]; rfl,List.map_map]
   exact a3
 trivial
 refine⟨us,.inl hus,by omega,by omega,?_⟩
 rw[lus,Int.toNat_natCast]
 obtain⟨P1,h1⟩:∃ P1:Nat→St→Hp→Prop,P1=fun k σ H'=>∃ (z3 z4 z5 z6 z7 z8:Option V),H'=H∧σ=[some (.ref l),some (.ref r),z3,z4,z5,z6,z7,z8]:=⟨_,rfl⟩
 refine ue P1 ?_ ?_ ?_
 ·rw[h1]
  exact⟨_,_,_,_,_,_,rfl,rfl⟩
 ·intro one σ H' ho h
  rw[h1] at h
  obtain⟨z3,z4,z5,z6,z7,z8,rfl,rfl⟩:=h
  trivial
  refine⟨by omega,by omega,?_⟩
  rw[show (0+(one:Int)).toNat=one by omega]
  obtain⟨P2,h2⟩:∃ P2:Nat→St→Hp→Prop,P2=fun k σ H''=>∃ (z4 z5 z6 z7 z8:Option V),H''=H'∧σ=[some (.ref l),some (.ref r),some (.int (0+(one:Int))),z4,z5,z6,z7,z8]:=⟨_,rfl⟩
  refine ue P2 ?_ ?_ ?_
  ·rw[h2]
   exact⟨_,_,_,_,_,rfl,rfl⟩
  ·intro oth σ H'' hlt h
   rw[h2] at h
   obtain⟨z4,z5,z6,z7,z8,rfl,rfl⟩:=h
   obtain⟨ra,ws,b1,b2,b3⟩:=pick one ho
   obtain⟨rb,vs,c1,c2,c3⟩:=pick oth (by omega)
   obtain⟨te,qe,t1,⟨w1,t2⟩,t3⟩:=line oth (by omega)
   obtain⟨tf,qf,f1,⟨w2,f2⟩,f3⟩:=line one ho
   trivial
   refine⟨_,hr',_,b1,ra,rfl,⟨_,b2⟩,?_⟩
   obtain⟨P3,h3⟩:∃ P3:Nat→St→Hp→Prop,P3=fun k σ H3=>∃ (z5 z6 z7 z8:Option V),H3=H''∧σ=[some (.ref l),some (.ref r),some (.int (0+(one:Int))),some (.int (0+(oth:Int))),z5,z6,z7,z8]:=⟨_,rfl⟩
   refine sy ws P3 ?_ (fun i σ H3 _ h=>by rw[h3] at h; obtain⟨_,_,_,_,rfl,_⟩:=h; exact b2) ?_ ?_
   ·rw[h3]
    exact⟨_,_,_,_,rfl,rfl⟩
   ·intro i v σ H3 hv h
    rw[h3] at h
    obtain⟨z5,z6,z7,z8,rfl,rfl⟩:=h
    obtain⟨tu,x,rfl,hx,ht⟩:=yK b3 hv
    trivial
    refine⟨_,ht,rfl,?_⟩
    trivial
    refine⟨_,hr',_,c1,rb,rfl,⟨_,c2⟩,?_⟩
    obtain⟨P4,h4⟩:∃ P4:Nat→St→Hp→Prop,P4=fun k σ H4=>∃ (z7 z8:Option V),H4=H3∧σ=[some (.ref l),some (.ref r),some (.int (0+(one:Int))),some (.int (0+(oth:Int))),some (.int (x.1:Int)),some (.int x.2),z7,z8]:=⟨_,rfl⟩
    refine sy vs P4 ?_ (fun i σ H4 _ h=>by rw[h4] at h; obtain⟨_,_,rfl,_⟩:=h; exact c2) ?_ ?_
    ·rw[h4]
     exact⟨_,_,rfl,rfl⟩
    ·intro k v σ H4 hv h
     rw[h4] at h
     obtain⟨z7,z8,rfl,rfl⟩:=h
     obtain⟨ty,y,rfl,hy,hty⟩:=yK c3 hv
     have go:P4 (k+1) [some (.ref l),some (.ref r),some (.int (0+(one:Int))),some (.int (0+(oth:Int))),some (.int (x.1:Int)),some (.int x.2),some (.int (y.1:Int)),some (.int y.2)] H4:=by
      rw[h4]
      exact⟨_,_,rfl,rfl⟩
     trivial
     refine⟨_,hty,rfl,?_⟩
     trivial
     by_cases n1:(x.1:Int)=(y.1:Int)
     ·rw[if_pos n1]
      exact go
     rw[if_neg n1]
     refine⟨us,hus,_,t1,te,rfl,_,t2,_,rfl,qe,_,rfl,.inl t3,rfl,vt _,?_⟩
     rw[uN]
     refine⟨_,rfl,?_⟩
     by_cases i1:(x.1:Int)∈(pl L oth).map fun j:Nat=>(j:Int)
     case neg =>
      rw[decide_eq_false i1]
      exact go
     rw[decide_eq_true i1]
     refine⟨us,hus,_,f1,tf,rfl,_,f2,_,rfl,qf,_,rfl,.inl f3,rfl,vt _,?_⟩
     rw[uN]
     refine⟨_,rfl,?_⟩
     by_cases i2:(y.1:Int)∈(pl L one).map fun j:Nat=>(j:Int)
     case neg =>
      rw[decide_eq_false i2]
      exact go
     rw[decide_eq_true i2]
     refine⟨small (by decide),fun t ht'=>?_⟩
     obtain⟨H5,g5,S5,T5⟩:=ki (K:=K) ht' [V.int (0+(one:Int)),V.int (0+(oth:Int)),V.int (x.1:Int),V.int (y.1:Int),V.int (if y.2<x.2 then y.2 else x.2)]
     rw[← g5]
     clear g5
     rw[Int.zero_add,Int.zero_add] at T5
     have cast:∀ {n:Nat} {l:List Nat},(n:Int)∈l.map (fun j:Nat=>(j:Int))→n∈l:=fun {n l} h=>by
      obtain⟨j,hj,e⟩:=List.mem_map.mp h
      rw[show n=j by omega]
      exact hj
     refine q t H5 one oth x.1 y.1 x.2 y.2 _ S5 T5 ho hlt (List.mem_of_getElem? hx) (List.mem_of_getElem? hy) (by omega) (cast i1) (cast i2) ?_ ?_ ?_
     ·split <;> omega
     ·split <;> omega
     ·split
      ·exact .inr rfl
      ·exact .inl rfl
    ·intro σ H4 h
     rw[h4] at h
     obtain⟨z7,z8,rfl,rfl⟩:=h
     rw[h3]
     exact⟨_,_,_,_,rfl,rfl⟩
   ·intro σ H3 h
    rw[h3] at h
    obtain⟨z5,z6,z7,z8,rfl,rfl⟩:=h
    rw[h2]
    exact⟨_,_,_,_,_,rfl,rfl⟩
  ·intro σ H'' h
   rw[h2] at h
   obtain⟨z4,z5,z6,z7,z8,rfl,rfl⟩:=h
   rw[h1]
   exact⟨_,_,_,_,_,_,rfl,rfl⟩
 ·intro σ H' h
  rw[h1] at h
  obtain⟨z3,z4,z5,z6,z7,z8,rfl,rfl⟩:=h
  trivial
  exact qn _ fun _ _ h=>h
end
end MyP
namespace MyQ
open My MyB MyC MyD MyE MyF MyG MyS MyI MyJ MyK MyT MyU MyV MyW MyX MyY MyZ MyL MyN MyO MyP PySem L2
def top (i:Nat):Stmt:=PySem.Challenge.pw_tariffgate_k66_said_otherwise.main.body.getD i (.Pass ⟨0,0,0,0⟩)
theorem fM:(("_law_pair_here":Str) == ("__debug__":Str))=false:=by decide
theorem fN:(("_law_pair_here":Str) == ("__classdict__":Str))=false:=by decide
theorem gJ:(("_law_some":Str) == ("__debug__":Str))=false:=by decide
theorem gK:(("_law_some":Str) == ("__classdict__":Str))=false:=by decide
theorem ql:(("_law_pair":Str) == ("__debug__":Str))=false:=by decide
theorem dG:(("_law_added":Str) == ("__debug__":Str))=false:=by decide
abbrev af:Stmt:=top 31
theorem bC:FnScope ["_law_line_here","_law_routes","_law_pair_here","_law_some","_law_one","_law_other","_law_place","_law_second","_law_many"] ["_law_line_here","_law_routes"] (defScope af):=⟨rfl,rfl,rfl,by decide +kernel,rfl,by decide +kernel,by decide +kernel⟩
theorem lE:Vis (defScope af) "_law_line_here":=by decreasing_trivial
theorem cW:Vis (defScope af) "_law_routes":=by decreasing_trivial
theorem gY:Vis (defScope af) "_law_pair_here":=by decreasing_trivial
theorem lH:Loc (defScope af) "_law_pair_here":=by first | exact Or.inl rfl | exact Or.inr rfl
theorem eB:Vis (defScope af) "_law_some":=by decreasing_trivial
theorem lI:Loc (defScope af) "_law_some":=by first | exact Or.inl rfl | exact Or.inr rfl
theorem gZ:Vis (defScope af) "_law_one":=by decreasing_trivial
theorem lJ:Loc (defScope af) "_law_one":=by first | exact Or.inl rfl | exact Or.inr rfl
theorem hG:Vis (defScope af) "_law_other":=by decreasing_trivial
theorem lK:Loc (defScope af) "_law_other":=by first | exact Or.inl rfl | exact Or.inr rfl
theorem hJ:Vis (defScope af) "_law_place":=by decreasing_trivial
theorem lM:Loc (defScope af) "_law_place":=by first | exact Or.inl rfl | exact Or.inr rfl
theorem hU:Vis (defScope af) "_law_second":=by decreasing_trivial
theorem lN:Loc (defScope af) "_law_second":=by first | exact Or.inl rfl | exact Or.inr rfl
theorem cX:Vis (defScope af) "_law_many":=by decreasing_trivial
theorem lO:Loc (defScope af) "_law_many":=by first | exact Or.inl rfl | exact Or.inr rfl
theorem gR:(defScope af).names.lookup ("_law_pair":Str)=some .globalImplicit:=by rfl
theorem jW:(defScope af).names.lookup ("list":Str)=some .globalImplicit:=by rfl
theorem bI:(defScope af).names.lookup ("_law_added":Str)=some .globalImplicit:=by rfl
structure RtsOk (L:List En) (G:List Int) (RS:List (List (Nat×Int))):Prop where
 len:RS.length=L.length
 g:∀ e,e<L.length→RtG (RS.getD e [])
 pl:∀ e,e<L.length→∀ x∈RS.getD e [],x.1∈pl L e
 s:∀ e,e<L.length→((RS.getD e []).map Prod.snd).sum=G.getD e 0
theorem xB {y:Int}:∀ {ns:List Int} {k:Nat} {x:Int},ns[k]?=some x→(ns.set k y).sum=ns.sum-x+y
 | [],_,_,h=>by cases h
 | n::ns,0,x,h=>by
  cases h
  rw[List.set_cons_zero,List.sum_cons,List.sum_cons]
  omega
 | n::ns,k+1,x,h=>by
  rw[List.getElem?_cons_succ] at h
  rw[List.set_cons_succ,List.sum_cons,List.sum_cons,xB h]
  omega
theorem zo {RS:List (List (Nat×Int))} {k e:Nat} {A:List (Nat×Int)} (hk:k<RS.length):(RS.set k A).getD e []=if k=e then A else RS.getD e []:=by
 rw[List.getD,List.getElem?_set]
 by_cases h:k=e
 ·rw[if_pos h,if_pos h,if_pos (by omega)]
  rfl
 ·rw[if_neg h,if_neg h]
  rfl
theorem yV {K:PySem.W.Frag} {H:Hp} {r:Addr} {us:List V} {A:List (Nat×Int)} (h1:SqL K H r us) (h2:RtAt K H us A):∀ {ras:List Addr} {RS:List (List (Nat×Int))} (k:Nat),uB K H ras RS→uB K H (ras.set k r) (RS.set k A)
 | _,_,_,.nil=>.nil
 | _,_,0,.cons _ t=>.cons ⟨us,h1,h2⟩ t
 | _,_,k+1,.cons a t=>.cons a (yV h1 h2 k t)
theorem Ii {L:List En} {G:List Int} {RS:List (List (Nat×Int))} (ok:RtsOk L G RS) (l58:∀ xs∈RS,xs.length≤58) {one oth p s:Nat} {a b m:Int} (h1:one<L.length) (h2:oth<one) (hp:(p,a)∈RS.getD one []) (hs:(s,b)∈RS.getD oth []) (pin:p∈pl L oth) (sin:s∈pl L one) (ma:m≤a) (mb:m≤b) (m1:1≤m) :
  RtsOk L G ((RS.set one (stX (stX (RS.getD one []) p (-m)) s m)).set oth (stX (stX (RS.getD oth []) s (-m)) p m))∧(∀ xs∈(RS.set one (stX (stX (RS.getD one []) p (-m)) s m)).set oth (stX (stX (RS.getD oth []) s (-m)) p m),xs.length≤60)∧∀ j,(((RS.set one (stX (stX (RS.getD one []) p (-m)) s m)).set oth (stX (stX (RS.getD oth []) s (-m)) p m)).map fun xs=>nW xs j).sum=(RS.map fun xs=>nW xs j).sum:=by
 have lR:=ok.len
 obtain⟨g1,c1,y1,l1⟩:=B9 (s:=s) (ok.g one h1) hp m1 ma
 obtain⟨g2,c2,y2,l2⟩:=B9 (s:=p) (ok.g oth (by omega)) hs m1 mb
 obtain⟨A,hA⟩:∃ A,A=stX (stX (RS.getD one []) p (-m)) s m:=⟨_,rfl⟩
 obtain⟨B,hB⟩:∃ B,B=stX (stX (RS.getD oth []) s (-m)) p m:=⟨_,rfl⟩
 rw[← hA] at g1 c1 y1 l1 ⊢
 rw[← hB] at g2 c2 y2 l2 ⊢
 have le:∀ k,k<L.length→(RS.getD k []).length≤58:=fun k hk=>by
  rw[My.getD_at (by omega)]
  exact l58 _ (List.getElem_mem _)
 have at':∀ e,((RS.set one A).set oth B).getD e []=if oth=e then B else if one=e then A else RS.getD e []:=fun e=>by
  rw[zo (by rw[List.length_set]; omega),zo (by omega)]
 refine⟨⟨by rw[List.length_set,List.length_set,lR],fun e he=>?_,fun e he x hx=>?_,fun e he=>?_⟩,fun xs hxs=>?_,fun j=>?_⟩
 ·rw[at']
  split
  ·exact g2
  split
  ·exact g1
  exact ok.g e he
 ·rw[at'] at hx
  by_cases e1:oth=e
  ·rw[if_pos e1] at hx
   rcases y2 x hx with z | z
   ·obtain⟨w,hw,ew⟩:=List.mem_map.mp z
    rw[← ew,← e1]
    exact ok.pl oth (by omega) w hw
   ·rw[z,← e1]
    exact pin
  rw[if_neg e1] at hx
  by_cases e2:one=e
  ·rw[if_pos e2] at hx
   rcases y1 x hx with z | z
   ·obtain⟨w,hw,ew⟩:=List.mem_map.mp z
    rw[← ew,← e2]
    exact ok.pl one h1 w hw
   ·rw[z,← e2]
    exact sin
  rw[if_neg e2] at hx
  exact ok.pl e he x hx
 ·rw[at',← vO]
  by_cases e1:oth=e
  ·rw[if_pos e1,c2,if_pos rfl,vO,← e1,ok.s oth (by omega)]
   omega
  rw[if_neg e1]
  by_cases e2:one=e
  ·rw[if_pos e2,c1,if_pos rfl,vO,← e2,ok.s one h1]
   omega
  rw[if_neg e2,vO]
  exact ok.s e he
 ·rcases List.mem_or_eq_of_mem_set hxs with h | h
  ·rcases List.mem_or_eq_of_mem_set h with h | h
   ·have:=l58 xs h
    omega
   ·have:=le one h1
    rw[h]
    omega
  ·have:=le oth (by omega)
   rw[h]
   omega
 ·have x1:(RS.map fun xs=>nW xs j)[one]?=some (nW (RS.getD one []) j):=by
   rw[List.getElem?_map,My.getD_at (by omega),List.getElem?_eq_getElem (by omega)]
   rfl
  have x2:((RS.map fun xs=>nW xs j).set one (nW A j))[oth]?=some (nW (RS.getD oth []) j):=by
   rw[List.getElem?_set_ne (by omega),List.getElem?_map,My.getD_at (by omega),List.getElem?_eq_getElem (by omega)]
   rfl
  rw[List.map_set,List.map_set,xB x2,xB x1]
  have v1:=c1 fun i=>decide (i=j)
  have v2:=c2 fun i=>decide (i=j)
  rw[EF,EF] at v1 v2
  rw[v1,v2]
  omega
def CZ (K:PySem.W.Frag):Sp:=fun vs H Q _=>∃ (l r:Addr) (L:List En) (G:List Int) (ras:List Addr) (RS:List (List (Nat×Int))),vs=[.ref l,.ref r]∧LnAt K H l L∧L.length≤64∧SqL K H r (ras.map V.ref)∧uB K H ras RS∧RtsOk L G RS∧(∀ xs∈RS,xs.length≤58)∧∀ (r':Addr) (ras':List Addr) (RS':List (List (Nat×Int))) (H':Hp),Same H H'→H' r'=some (.lst (ras'.map V.ref))→uB K H' ras' RS'→RtsOk L G RS'→(∀ xs∈RS',xs.length≤60)→(∀ j,(RS'.map fun xs=>nW xs j).sum=(RS.map fun xs=>nW xs j).sum)→Q (.ref r') H'
theorem xG {K:PySem.W.Frag} {H H':Hp} (e:Same H H') {ras:List Addr} {RS:List (List (Nat×Int))} (h:uB K H ras RS):uB K H' ras RS:=Paired.mapP h fun r xs=>by rintro⟨us,a,b⟩; exact⟨us,e.seq a,b.same e⟩
section
variable {P:Program} {w:World} {K:PySem.W.Frag} {mg:Str→Option Value} {base:Heap} {f:Addr} {fd:FuncData}
theorem yT (F:Fun K "_law_changed" "_law_changed" af f fd) (M:Mg mg) (i6:Cal P w K mg base CX0 "_law_pair" 1 ["_law_line_here","_law_routes"] (yU K)) (cQ:Cal P w K mg base CX0 "_law_added" 1 ["_law_route","_law_place","_law_many"] (yF K fun x=>decide (0<x.2))):FnOk P w K mg base CX0 2 f fd ["_law_line_here","_law_routes"] (CZ K):=by
 refine F.ok bC (fun vs H Q E h=>?_) (fun cdv A outer s H vs Q E hr h=>?_)
 ·obtain⟨l,r,L,G,ras,RS,rfl,_⟩:=h
  rfl
 obtain⟨l,r,L,G,ras,RS,rfl,hL,l64,hr',hrs,ok,l58,q⟩:=h
 refine⟨_,(@dI _ _ _ _ _ (@ic _ _ 2 _ _ _ _ bC.nd rfl lH (@fX _ _ _ _ _ _ _ _ _ _ _ i6 hr gR (@bO _ _ _ _ _ (@cO _ 0 _ _ rfl lE aa ae) (@bO _ _ _ _ _ (@cO _ 1 _ _ rfl cW aP aQ) (@cT _) (cg rfl)) (cg rfl)) (by decide) ql (cg rfl) (fT rfl ff)) (fZ rfl) (.inl rfl)) (@dI _ _ _ _ _ (@ic _ _ 3 _ _ _ _ bC.nd rfl lI (@nS _ _ _ _ _ _ _ _ _ tS jW M.m_list tM (@bO _ _ _ _ _ (@cO _ 1 _ _ rfl cW aP aQ) (@cT _) (cg rfl)) bi bh (cg rfl) ff) (fZ rfl) (.inl rfl)) (@dI _ _ _ _ _ (@nC _ _ _ _ _ _ _ _ (@kB _ _ _ _ _ _ _ _ wL (@cO _ 2 _ _ rfl gY fM fN) (@tZ _ _ _) (i8 _)) (@dI _ _ _ _ _ (@wc _ _ _ _ _ _ (@cO _ 2 _ _ rfl gY fM fN) (@uP _ _ _ _ _ _ rfl (@gS _ _ _ _ _ (@fj _ _ 4 _ bC.nd rfl lJ (.inl rfl)) (@gS _ _ _ _ _ (@fj _ _ 5 _ bC.nd rfl lK (.inl rfl)) (@gS _ _ _ _ _ (@fj _ _ 6 _ bC.nd rfl lM (.inl rfl)) (@gS _ _ _ _ _ (@fj _ _ 7 _ bC.nd rfl lN (.inl rfl)) (@gS _ _ _ _ _ (@fj _ _ 8 _ bC.nd rfl lO (.inl rfl)) (@oW _) (by rfl)) (by rfl)) (by rfl)) (by rfl)) (by rfl)) (by rfl) (by rfl)) (by rfl) (by rfl) (by rfl)) (@dI _ _ _ _ _ (@wc _ _ _ _ _ _ (@fX _ _ _ _ _ _ _ _ _ _ _ cQ hr bI (@bO _ _ _ _ _ (@fX _ _ _ _ _ _ _ _ _ _ _ cQ hr bI (@bO _ _ _ _ _ (@gu _ _ _ _ _ _ _ (@iV _) (@cO _ 1 _ _ rfl cW aP aQ) (@cO _ 4 _ _ rfl gZ cq cr) (fun _ _=>rfl)) (@bO _ _ _ _ _ (@cO _ 6 _ _ rfl hJ aM aN) (@bO _ _ _ _ _ (@vz _ _ _ _ _ _ (@uT _) (@cO _ 8 _ _ rfl cX br bu)) (@cT _) (cg rfl)) (cg rfl)) (cg rfl)) (by decide) dG (cg rfl) (fT rfl (fT rfl ff))) (@bO _ _ _ _ _ (@cO _ 7 _ _ rfl hU bW bX) (@bO _ _ _ _ _ (@cO _ 8 _ _ rfl cX br bu) (@cT _) (cg rfl)) (cg rfl)) (cg rfl)) (by decide) dG (cg rfl) (fT rfl (fT rfl ff))) (@Ab _ _ _ _ _ _ _ (@cO _ 3 _ _ rfl eB gJ gK) (@cO _ 4 _ _ rfl gZ cq cr) set_list (by intro _; rfl)) (by rfl) (by rfl) (by rfl)) (@eF _ _ _ (@wc _ _ _ _ _ _ (@fX _ _ _ _ _ _ _ _ _ _ _ cQ hr bI (@bO _ _ _ _ _ (@fX _ _ _ _ _ _ _ _ _ _ _ cQ hr bI (@bO _ _ _ _ _ (@gu _ _ _ _ _ _ _ (@iV _) (@cO _ 1 _ _ rfl cW aP aQ) (@cO _ 5 _ _ rfl hG cf ci) (fun _ _=>rfl)) (@bO _ _ _ _ _ (@cO _ 7 _ _ rfl hU bW bX) (@bO _ _ _ _ _ (@vz _ _ _ _ _ _ (@uT _) (@cO _ 8 _ _ rfl cX br bu)) (@cT _) (cg rfl)) (cg rfl)) (cg rfl)) (by decide) dG (cg rfl) (fT rfl (fT rfl ff))) (@bO _ _ _ _ _ (@cO _ 6 _ _ rfl hJ aM aN) (@bO _ _ _ _ _ (@cO _ 8 _ _ rfl cX br bu) (@cT _) (cg rfl)) (cg rfl)) (cg rfl)) (by decide) dG (cg rfl) (fT rfl (fT rfl ff))) (@Ab _ _ _ _ _ _ _ (@cO _ 3 _ _ rfl eB gJ gK) (@cO _ 5 _ _ rfl hG cf ci) set_list (by intro _; rfl)) (by rfl) (by rfl) (by rfl))))) (@m8 _)) (@eF _ _ _ (@ia _ _ _ _ (@cO _ 3 _ _ rfl eB gJ gK)))))),?_⟩
 have lR:=ok.len
 have lras:ras.length=RS.length:=Paired.length hrs
 trivial
 refine⟨l,r,L,ras,RS,rfl,hL,l64,hr',hrs,lR,fun H1 e1=>?_,fun t H1 one oth p s' a b m e1 ht h1 h2 h3 h4 h5 h6 h7 h8 h9 h10=>?_⟩
 ·show ∃ x_1,SqL K H1 r x_1∧∀ (D:Addr),H1 D=none→_
  refine⟨_,e1.seq hr',fun D hD=>?_⟩
  rw[if_pos rfl]
  have S2:=fD hD (.lst (ras.map V.ref))
  exact q D ras RS _ (e1.trans S2) cY (xG (e1.trans S2) hrs) ok (fun xs hxs=>by have:=l58 xs hxs; omega) fun _=>rfl
 ·have pick:∀ k,k<L.length→∃ (ra:Addr) (ws:List V),ras[k]?=some ra∧atI (ras.map V.ref) (k:Int)=some (.ref ra)∧SqL K H ra ws∧RtAt K H ws (RS.getD k []):=fun k hk=>by
   obtain⟨ra,hra⟩:∃ ra,ras[k]?=some ra:=⟨_,List.getElem?_eq_getElem (by omega)⟩
   obtain⟨xs,hxs,ws,u1,u2⟩:=ve hrs hra
   exact⟨ra,ws,hra,oh (by rw[List.getElem?_map,hra]; rfl),u1,by rw[show RS.getD k []=xs by rw[List.getD,hxs]; rfl]; exact u2⟩
  obtain⟨ra1,ws1,_,b2,b3,b4⟩:=pick one h1
  obtain⟨ra2,ws2,_,c2,c3,c4⟩:=pick oth (by omega)
  have le:∀ k,k<L.length→(RS.getD k []).length≤58:=fun k hk=>by
   rw[My.getD_at (by omega)]
   exact l58 _ (List.getElem_mem _)
  have g1:=ok.g one h1
  have g2:=ok.g oth (by omega)
  have a1:1≤a:=g1.ge _ h3
  have b1:1≤b:=g2.ge _ h4
  have m1:1≤m:=by rcases h10 with z | z <;> omega
  have st:∀ {xs:List (Nat×Int)} {p:Nat} {a m:Int},RtG xs→(p,a)∈xs→m≤a→RtG (stX xs p (-m))∧(stX xs p (-m)).length≤xs.length+1:=fun {xs p a m} g hp ma=>by
   obtain⟨k1,_,_,k4⟩:=An (m:=-m) g (fun x hx e=>by
    have f1:=u6 g.nd hx e
    have f2:=u6 g.nd hp rfl
    rw[f1] at f2
    have:x=(p,a):=Option.some.inj f2
    rw[this]
    show 0≤a + -m
    omega) (fun z=>absurd (List.mem_map.mpr ⟨_,hp,rfl⟩) z)
   exact⟨k1,k4⟩
  obtain⟨s1,t1⟩:=st g1 h3 h8
  obtain⟨s2,t2⟩:=st g2 h4 h9
  have y1:=le one h1
  have y2:=le oth (by omega)
  show ∃ x_1,SqL K H1 r x_1∧∀ (D:Addr),H1 D=none→_
  refine⟨_,e1.seq hr',fun D hD=>?_⟩
  rw[if_neg (fun z=>by cases z)]
  obtain⟨H2,g2',S2,T2⟩:=nJ hD (ras.map V.ref)
  rw[← g2']
  clear g2'
  have e2:=e1.trans S2
  refine⟨t,rfl,_,Same.tup S2 ht,rfl,_,_,rfl,_,_,rfl,_,_,rfl,_,_,rfl,_,_,rfl,rfl,_,_,rfl,e2.seq hr',_,b2,m,rfl,?_⟩
  refine⟨ra1,ws1,RS.getD one [],p,-m,rfl,e2.seq b3,b4.same e2,by omega,g1.nd,fun r3 us3 H3 e3 hn3 d3 rt3=>?_⟩
  refine⟨r3,us3,stX (RS.getD one []) p (-m),s',m,rfl,SqL.of d3,rt3,by omega,s1.nd,fun r4 us4 H4 e4 hn4 d4 rt4=>?_⟩
  have D3:=e3 _ _ T2
  have D4:=e4 _ _ D3
  have r4D:r4≠D:=fun z=>by rw[z,D3] at hn4; cases hn4
  refine⟨_,_,rfl,D4,one,vC (by rw[List.length_map]; omega),?_⟩
  have e14:Same H1 (L2.upd H4 D (.lst ((ras.map V.ref).set one (.ref r4)))):=fS ((S2.trans e3).trans e4) hD _
  have r5:L2.upd H4 D (.lst ((ras.map V.ref).set one (.ref r4))) r4=some (.lst us4):=by rw[er r4D]; exact d4
  have rt5:RtAt K (L2.upd H4 D (.lst ((ras.map V.ref).set one (.ref r4)))) us4 (stX (stX (RS.getD one []) p (-m)) s' m):=RtAt.upd D4 (fun ys z=>by cases z) (fun _ _ z=>by cases z) rt4
  have D5:L2.upd H4 D (.lst ((ras.map V.ref).set one (.ref r4))) D=some (.lst ((ras.map V.ref).set one (.ref r4))):=cY
  obtain⟨H5,hH5⟩:∃ H5,H5=L2.upd H4 D (.lst ((ras.map V.ref).set one (.ref r4))):=⟨_,rfl⟩
  rw[← hH5] at e14 r5 rt5 D5 ⊢
  have e5:=e1.trans e14
  refine⟨_,_,rfl,e5.seq hr',_,c2,m,rfl,?_⟩
  refine⟨ra2,ws2,RS.getD oth [],s',-m,rfl,e5.seq c3,c4.same e5,by omega,g2.nd,fun r6 us6 H6 e6 hn6 d6 rt6=>?_⟩
  refine⟨r6,us6,stX (RS.getD oth []) s' (-m),p,m,rfl,SqL.of d6,rt6,by omega,s2.nd,fun r7 us7 H7 e7 hn7 d7 rt7=>?_⟩
  have D6:=e6 _ _ D5
  have D7:=e7 _ _ D6
  have r7D:r7≠D:=fun z=>by rw[z,D6] at hn7; cases hn7
  refine⟨_,_,rfl,D7,oth,vC (by rw[List.length_set,List.length_map]; omega),?_⟩
  have e18:Same H1 (L2.upd H7 D (.lst (((ras.map V.ref).set one (.ref r4)).set oth (.ref r7)))):=fS ((e14.trans e6).trans e7) hD _
  have up:∀ {us:List V} {xs:List (Nat×Int)},RtAt K H7 us xs→RtAt K (L2.upd H7 D (.lst (((ras.map V.ref).set one (.ref r4)).set oth (.ref r7)))) us xs:=fun h=>RtAt.upd D7 (fun ys z=>by cases z) (fun _ _ z=>by cases z) h
  have r48:L2.upd H7 D (.lst (((ras.map V.ref).set one (.ref r4)).set oth (.ref r7))) r4=some (.lst us4):=by rw[er r4D]; exact (e6.trans e7) _ _ r5
  have r78:L2.upd H7 D (.lst (((ras.map V.ref).set one (.ref r4)).set oth (.ref r7))) r7=some (.lst us7):=by rw[er r7D]; exact d7
  obtain⟨k1,k2,k3⟩:=Ii ok l58 h1 h2 h3 h4 h6 h7 h8 h9 m1
  refine q D ((ras.set one r4).set oth r7) _ _ (e1.trans e18) ?_ (yV (SqL.of r78) (up rt7) oth (yV (SqL.of r48) (up (rt5.same (e6.trans e7))) one (xG (e1.trans e18) hrs))) k1 k2 k3
  rw[cY,List.map_set,List.map_set]
end
end MyQ
namespace MyR
open My MyB MyC MyD MyE MyF MyG MyS MyI MyJ MyK MyT MyU MyV MyW MyX MyY MyZ MyL MyN MyO MyP MyQ PySem L2
theorem Ep {l:List Nat} {S T:Nat→Bool} (h:l.all S=true∨l.all T=true):l.all (fun j=>S j || T j)=true:=by
 rw[List.all_eq_true]
 intro j hj
 rcases h with h | h
 ·rw[List.all_eq_true.mp h j hj]; rfl
 ·rw[List.all_eq_true.mp h j hj,Bool.or_true]
theorem HD {l:List Nat} {S T:Nat→Bool}:l.all (fun j=>S j && T j)=(l.all S && l.all T):=by
 induction l with
 | nil=>rfl
 | cons x xs ih =>
  rw[List.all_cons,List.all_cons,List.all_cons,ih]
  cases S x <;> cases T x <;> cases xs.all S <;> cases xs.all T <;> rfl
theorem EM (rooms:List Int) (S T:Nat→Bool):∀ m,roomS rooms m (fun j=>S j || T j)+roomS rooms m (fun j=>S j && T j)=roomS rooms m S+roomS rooms m T:=by
 intro m
 unfold roomS
 rw[← uH,← uH]
 refine jw fun j _=>?_
 cases h1:S j <;> cases h2:T j <;> simp [h1,h2]
theorem ES {L:List En} {g:Nat→Int} {S:Nat→Bool} {k d:Nat} (h0:∀ e,0≤g e):sumG L g S k≤sumG L g S (k+d):=by
 induction d with
 | zero=>exact Int.le_refl _
 | succ d ih =>
  refine Int.le_trans ih ?_
  unfold sumG
  rw[show k+(d+1)=k+d+1 from rfl,iN]
  have:=h0 (k+d)
  split <;> omega
theorem Gb {rooms G:List Int} {L:List En} {S:Nat→Bool} {k n:Nat} (mo:Most rooms L G) (h0:∀ e,0≤G.getD e 0) (kn:k≤n) (hn:n≤L.length) (h:roomS rooms rooms.length S=sumG L (fun e=>G.getD e 0) S k):roomS rooms rooms.length S=sumG L (fun e=>G.getD e 0) S n:=by
 have a:=mo.loose S n hn
 obtain⟨d,rfl⟩:∃ d,n=k+d:=⟨n-k,by omega⟩
 have b:=ES (L:=L) (g:=fun e=>G.getD e 0) (S:=S) (k:=k) (d:=d) h0
 omega
theorem Jx (x:Int) (h0:0≤x):∀ a b o:Bool,((a=true∨b=true)→o=true)→(if a=true then x else 0)+(if b=true then x else 0)≤(if o=true then x else 0)+(if (a && b)=true then x else 0)
 | true,true,true,_=>Int.le_refl _
 | true,false,true,_=>Int.le_refl _
 | false,true,true,_=>by show 0+x≤x+0; omega
 | false,false,true,_=>by show 0+0≤x+0; omega
 | false,false,false,_=>Int.le_refl _
 | true,_,false,h=>by cases h (.inl rfl)
 | false,true,false,h=>by cases h (.inr rfl)
theorem Ai {L:List En} {g:Nat→Int} {S T:Nat→Bool} (h0:∀ e,0≤g e):∀ n,sumG L g S n+sumG L g T n≤sumG L g (fun j=>S j || T j) n+sumG L g (fun j=>S j && T j) n
 | 0=>Int.le_refl _
 | n+1=>by
  have ih:=Ai (L:=L) (S:=S) (T:=T) h0 n
  unfold sumG at ih ⊢
  rw[iN,iN,iN,iN,HD]
  have o:=Jx (g n) (h0 n) ((pl L n).all S) ((pl L n).all T) ((pl L n).all fun j=>S j || T j) Ep
  omega
theorem FT {rooms G:List Int} {L:List En} {S T:Nat→Bool} {n:Nat} (mo:Most rooms L G) (h0:∀ e,0≤G.getD e 0) (hn:n≤L.length) (h1:roomS rooms rooms.length S=sumG L (fun e=>G.getD e 0) S n) (h2:roomS rooms rooms.length T=sumG L (fun e=>G.getD e 0) T n):roomS rooms rooms.length (fun j=>S j || T j)=sumG L (fun e=>G.getD e 0) (fun j=>S j || T j) n:=by
 have a:=mo.loose (fun j=>S j || T j) n hn
 have b:=mo.loose (fun j=>S j && T j) n hn
 have c:=Ai (L:=L) (g:=fun e=>G.getD e 0) (S:=S) (T:=T) h0 n
 have d:=EM rooms S T rooms.length
 omega
theorem sP {m:Nat} {ns:List Int} (nd:ns.Nodup) (h4:∀ x∈ns,∃ j:Nat,x=(j:Int)∧j<m):ns.length≤m:=by
 have e:=yi (g:=fun _=>1) nd h4
 have l1:(iW m fun j=>if inS ns j=true then (1:Int) else 0)≤iW m fun _=>1:=u5 fun j _=>by split <;> omega
 have l2:∀ k,iW k (fun _=>(1:Int))=k:=fun k=>by
  induction k with
  | zero=>rfl
  | succ k ih=>rw[iN,ih]; omega
 have l3:∀ l:List Int,(l.map fun _=>(1:Int)).sum=l.length:=fun l=>by
  induction l with
  | nil=>rfl
  | cons x xs ih=>rw[List.map_cons,List.sum_cons,ih,List.length_cons]; omega
 have:=l3 ns
 rw[l2] at l1
 omega
theorem HA {K:PySem.W.Frag} {H:Hp} {rooms lf:List Int} {L:List En} {F:List (List Int)} {ok:Addr→Prop} {e:Nat} {v:V} (m6:rooms.length≤6) (h:CutAt L rooms.length rooms F lf H ok e v):CutN K H rooms L (F.map List.sum) e v:=by
 rcases h with ⟨a,b⟩ | ⟨c,ns,rfl,_,h1,h2,h3,h4,_,h5,h6⟩
 ·exact .inl ⟨a,by rw[sum_at]; exact b⟩
 ·have nd:ns.Nodup:=h3.imp fun h=>by omega
  refine .inr ⟨c,ns,rfl,SqL.of h1,Nat.le_trans (sP nd h4) m6,by rw[sum_at]; exact h2,nd,h4,?_,?_⟩
  ·rw[List.all_eq_true]
   exact fun j hj=>decide_eq_true (h5 j hj)
  ·rw[h6]
   exact ud fun e _=>sum_at.symm
theorem E9 {rooms lf:List Int} {L:List En} {F:List (List Int)} (flo:Flo L L.length rooms.length rooms F lf):RtsOk L (F.map List.sum) (F.map rt):=by
 obtain⟨q1,q2,_⟩:=yl flo
 exact⟨q1,fun e he=>⟨(q2 e he).1,fun x hx=>((q2 e he).2.1 x hx).2⟩,fun e he x hx=>((q2 e he).2.1 x hx).1,fun e he=>(q2 e he).2.2⟩
theorem Eo {L:List En} {G:List Int} {RS:List (List (Nat×Int))} (ok:RtsOk L G RS):RtsOk L G (RS.map List.reverse)∧∀ j,((RS.map List.reverse).map fun xs=>nW xs j).sum=(RS.map fun xs=>nW xs j).sum:=by
 have lR:=ok.len
 have at':∀ e,(RS.map List.reverse).getD e []=(RS.getD e []).reverse:=fun e=>by
  rw[List.getD,List.getD,List.getElem?_map]
  cases RS[e]? <;> rfl
 refine⟨⟨by rw[List.length_map,lR],fun e he=>⟨?_,fun x hx=>?_⟩,fun e he x hx=>?_,fun e he=>?_⟩,fun j=>?_⟩
 ·rw[at',List.map_reverse,List.Nodup,List.pairwise_reverse]
  exact (ok.g e he).nd.imp fun h=>Ne.symm h
 ·rw[at'] at hx
  exact (ok.g e he).ge x (List.mem_reverse.mp hx)
 ·rw[at'] at hx
  exact ok.pl e he x (List.mem_reverse.mp hx)
 ·rw[at',List.map_reverse,List.sum_reverse]
  exact ok.s e he
 ·rw[List.map_map]
  refine congrArg List.sum (List.map_congr_left fun xs _=>?_)
  show nW xs.reverse j=nW xs j
  unfold nW
  rw[List.map_reverse,List.sum_reverse]
end MyR
namespace My1
open My MyB MyC MyD MyE MyF MyG MyS MyI MyJ MyK MyT MyU MyV MyW MyX MyY MyZ MyL MyN MyO MyP MyQ MyR PySem L2
def top (i:Nat):Stmt:=PySem.Challenge.pw_tariffgate_k66_said_otherwise.main.body.getD i (.Pass ⟨0,0,0,0⟩)
theorem jh:(("_law_known":Str) == ("__debug__":Str))=false:=by decide
theorem ji:(("_law_known":Str) == ("__classdict__":Str))=false:=by decide
theorem bZ:(("_law_joined_here":Str) == ("__debug__":Str))=false:=by decide
theorem cb:(("_law_joined_here":Str) == ("__classdict__":Str))=false:=by decide
abbrev au:Stmt:=top 32
theorem cM:FnScope ["_law_cuts","_law_known","_law_joined_here","_law_cut"] ["_law_cuts"] (defScope au):=⟨rfl,rfl,rfl,by decide +kernel,rfl,by decide +kernel,by decide +kernel⟩
theorem mV:Vis (defScope au) "_law_cuts":=by decreasing_trivial
theorem iK:Vis (defScope au) "_law_known":=by decreasing_trivial
theorem iL:Loc (defScope au) "_law_known":=by first | exact Or.inl rfl | exact Or.inr rfl
theorem dj:Vis (defScope au) "_law_joined_here":=by decreasing_trivial
theorem mW:Loc (defScope au) "_law_joined_here":=by first | exact Or.inl rfl | exact Or.inr rfl
theorem iM:Vis (defScope au) "_law_cut":=by decreasing_trivial
theorem mX:Loc (defScope au) "_law_cut":=by first | exact Or.inl rfl | exact Or.inr rfl
theorem kW:(defScope au).names.lookup ("len":Str)=some .globalImplicit:=by rfl
theorem jo:(defScope au).names.lookup ("sorted":Str)=some .globalImplicit:=by rfl
theorem kX:(defScope au).names.lookup ("set":Str)=some .globalImplicit:=by rfl
def CutM (K:PySem.W.Frag) (H:Hp) (rooms:List Int) (L:List En) (G:List Int) (e:Nat) (v:V):Prop:=(v=.non∧G.getD e 0=wt L e)∨∃ (c:Addr) (ns:List Int),v=.ref c∧H c=some (.lst (ns.map V.int))∧ns.length≤6∧G.getD e 0<wt L e∧ns.Nodup∧(∀ x∈ns,∃ j:Nat,x=(j:Int)∧j<rooms.length)∧(pl L e).all (inS ns)=true∧roomS rooms rooms.length (inS ns)=sumG L (fun e=>G.getD e 0) (inS ns) (e+1)
def yH (K:PySem.W.Frag):Sp:=fun vs H Q _=>∃ (c:Addr) (cvs:List V) (rooms:List Int) (L:List En) (G:List Int),vs=[.ref c]∧SqL K H c cvs∧cvs.length=L.length∧L.length≤64∧rooms.length≤6∧Most rooms L G∧(∀ (e:Nat) (v:V),cvs[e]?=some v→CutM K H rooms L G e v)∧∀ (c':Addr) (cvs':List V) (cds':List Dt) (H':Hp),Same H H'→H' c'=some (.lst cvs')→uK K H' cvs' cds'→cds'.length=L.length→(∀ e d,cds'[e]?=some d→CE rooms L G e d)→Q (.ref c') H'
theorem nonneg {rooms G:List Int} {L:List En} (mo:Most rooms L G):∀ e,0≤G.getD e 0:=fun e=>by
 by_cases h:e<L.length
 ·exact mo.nn e h
 ·rw[List.getD,List.getElem?_eq_none (by rw[mo.len]; omega)]
  exact Int.le_refl _
def toI (ks:List Nat):List Int:=ks.map fun n:Nat=>(n:Int)
theorem yv {ks:List Nat} {j:Nat}:(j:Int)∈toI ks↔j∈ks:=by
 unfold toI
 rw[List.mem_map]
 exact⟨fun ⟨a,h,e⟩=>by rwa [show j=a by omega],fun h=>⟨j,h,rfl⟩⟩
theorem Ah {ks:List Nat} (h:ks.Pairwise (· < ·)):(toI ks).Nodup:=by
 unfold toI List.Nodup
 rw[List.pairwise_map]
 exact h.imp fun h=>by omega
theorem EN:∀ {ns:List Int} {m:Nat},(∀ x∈ns,∃ j:Nat,x=(j:Int)∧j<m)→∃ nn:List Nat,ns=toI nn∧∀ j∈nn,j<m
 | [],_,_=>⟨[],rfl,fun j h=>by cases h⟩
 | x::ns,m,h=>by
  obtain⟨j,rfl,hj⟩:=h x (.head _)
  obtain⟨nn,rfl,hn⟩:=EN fun y hy=>h y (.tail _ hy)
  refine⟨j::nn,rfl,fun i hi=>?_⟩
  rcases List.mem_cons.mp hi with rfl | hi
  ·exact hj
  ·exact hn i hi
theorem Ed {ks ks':List Nat} {ns:List Int} (h:∀ j:Nat,j∈ks'↔j∈ks∨(j:Int)∈ns):inS (toI ks')=fun j=>inS (toI ks) j || inS ns j:=by
 funext j
 unfold inS
 rw[← Bool.decide_or,decide_eq_decide,yv,yv]
 exact h j
theorem Dq (rooms:List Int) (m:Nat):roomS rooms m (inS (toI []))=0:=by
 unfold roomS
 have:(iW m fun j=>if inS (toI []) j=true then rooms.getD j 0 else 0)=iW m fun _=>0:=jw fun j _=>by rw[if_neg (by simp [inS,toI])]
 rw[this]
 unfold iW
 induction m with
 | zero=>rfl
 | succ m ih=>rw[List.range_succ,List.map_append,List.sum_append,ih (by
   exact jw fun j _=>by rw[if_neg (by simp [inS,toI])])]; rfl
section
variable {P:Program} {w:World} {K:PySem.W.Frag} {mg:Str→Option Value} {base:Heap} {f:Addr} {fd:FuncData}
theorem zF (F:Fun K "_law_joined" "_law_joined" au f fd) (M:Mg mg):FnOk P w K mg base CX0 1 f fd ["_law_cuts"] (yH K):=by
 refine F.ok cM (fun vs H Q E h=>?_) (fun cdv A outer s H vs Q E hr h=>?_)
 ·obtain⟨c,cvs,rooms,L,G,rfl,_⟩:=h
  rfl
 obtain⟨c,cvs,rooms,L,G,rfl,hc,lc,l64,m6,mo,cn,q⟩:=h
 refine⟨_,(@dI _ _ _ _ _ (@ic _ _ 1 _ _ _ _ cM.nd rfl iL (@rE _ _ _ _ (@cT _)) (fZ rfl) (.inl rfl)) (@dI _ _ _ _ _ (@ic _ _ 2 _ _ _ _ cM.nd rfl mW (@rE _ _ _ _ (@cT _)) (fZ rfl) (.inl rfl)) (@dI _ _ _ _ _ (@pC _ _ _ _ _ _ _ _ PassesOwn.never rfl (@kL _ _ _ _ (@cO _ 0 _ _ rfl mV bG bH)) (@fj _ _ 3 _ cM.nd rfl mX (.inl rfl)) (@eF _ _ _ (@nC _ _ _ _ _ _ _ _ (@kB _ _ _ _ _ _ _ _ (@DL _) (@cO _ 3 _ _ rfl iM dA dB) (@tZ _ _ _) (i8 _)) (@eF _ _ _ (@r8 _ _ _ _ (@uo _ _ _ _ _ _ _ _ _ _ _ _ PySem.F.plainAttrs_list PySem.F.slot_list_append PySem.F.type_list_append nR (@cO _ 2 _ _ rfl dj bZ cb) (@bO _ _ _ _ _ (@uG _ _ _ _ _ _ _ (@bO _ _ _ _ _ (@tZ _ _ _) (@bO _ _ _ _ _ (@IM _ _ _ _) (@bO _ _ _ _ _ (@rE _ _ _ _ (@bO _ _ _ _ _ (@dw _ _ _ _) (@bO _ _ _ _ _ (@dw _ _ _ _) (@cT _) (cg rfl)) (cg rfl))) (@bO _ _ _ _ _ (@vz _ _ _ _ _ _ (@uT _) (@dw _ _ _ _)) (@cT _) (cg rfl)) (cg rfl)) (cg rfl)) (cg rfl)) (@iI _ _ _ _ _ _ _ _ (@tO _) (@fY _ _ _ _ _ _ _ _ _ iU kW M.m_len pW (@bO _ _ _ _ _ (@cO _ 2 _ _ rfl dj bZ cb) (@cT _) (cg rfl)) aA az (cg rfl) ff) (@dw _ _ _ _)) (fun _ _=>rfl)) (@cT _) (cg rfl)) (by rfl) (by rfl) (by rfl) (by rfl) (by rfl)) (fZ rfl))) (@dI _ _ _ _ _ (@ic _ _ 1 _ _ _ _ cM.nd rfl iL (@Ac _ _ _ _ _ _ _ rfl jo M.m_sorted kX M.m_set (@bO _ _ _ _ _ (@iI _ _ _ _ _ _ _ _ (@AZ _) (@cO _ 1 _ _ rfl iK jh ji) (@cO _ 3 _ _ rfl iM dA dB)) (@cT _) (cg rfl)) rfl rfl (fun _=>rfl)) (fZ rfl) (.inl rfl)) (@eF _ _ _ (@r8 _ _ _ _ (@uo _ _ _ _ _ _ _ _ _ _ _ _ PySem.F.plainAttrs_list PySem.F.slot_list_append PySem.F.type_list_append nR (@cO _ 2 _ _ rfl dj bZ cb) (@bO _ _ _ _ _ (@cO _ 1 _ _ rfl iK jh ji) (@cT _) (cg rfl)) (by rfl) (by rfl) (by rfl) (by rfl) (by rfl)) (fZ rfl)))))) (by intro _; rfl)) (@eF _ _ _ (@ia _ _ _ _ (@cO _ 2 _ _ rfl dj bZ cb)))))),?_⟩
 trivial
 refine⟨small (by decide),fun kn hkn=>?_⟩
 obtain⟨H0,g0,S0,T0⟩:=nJ hkn ([]:List V)
 rw[← g0]
 clear g0
 refine⟨small (by decide),fun D hD=>?_⟩
 refine⟨⟨_,(S0.trans (fD hD _)).seq hc⟩,?_⟩
 have n0:=nonneg mo
 have hD':H D=none:=none_of S0 hD
 have knD:kn≠D:=fun z=>by rw[z,hD] at T0; cases T0
 obtain⟨Pv,hP⟩:∃ Pv:Nat→St→Hp→Prop,Pv=fun i σ H'=>∃ (vs':List V) (ds':List Dt) (z:Option V) (ka:Addr) (ks:List Nat),H' D=some (.lst vs')∧Paired (fun v d=>TV K H' D v d) vs' ds'∧ds'.length=i∧(∀ e d,ds'[e]?=some d→CE rooms L G e d)∧Same H H'∧H' ka=some (.lst (ks.map fun n:Nat=>V.int (n:Int)))∧ka≠D∧ks.Pairwise (· < ·)∧(∀ j∈ks,j<rooms.length)∧roomS rooms rooms.length (inS (toI ks))=sumG L (fun e=>G.getD e 0) (inS (toI ks)) i∧σ=[some (.ref c),some (.ref ka),some (.ref D),z]:=⟨_,rfl⟩
 refine sy cvs Pv ?_ (fun i σ H' _ h=>by rw[hP] at h; obtain⟨_,_,_,_,_,_,_,_,_,e,_⟩:=h; exact e.seq hc) ?_ ?_
 ·rw[hP]
  refine⟨[],[],_,kn,[],cY,.nil,rfl,(fun e d h=>by cases h),S0.trans (fD hD _),by rw[er knD]; exact T0,knD,.nil,(fun j h=>by cases h),?_,rfl⟩
  rw[Dq]
  rfl
 ·intro i v σ H1 hv h
  rw[hP] at h
  obtain⟨vs',ds',z,ka,ks,d1,p1,ld,ce,e1,hka,kaD,kp,kl,kt,rfl⟩:=h
  have li:=(List.getElem?_eq_some_iff.mp hv).1
  have lv:vs'.length=ds'.length:=Paired.length p1
  have snoc:∀ {H2:Hp} {v':V} {d':Dt},Same H1 H2→TV K H2 D v' d'→CE rooms L G i d'→∃ (vs'':List V) (ds'':List Dt),vs''=vs'++[v']∧Paired (fun v d=>TV K (L2.upd H2 D (.lst (vs'++[v']))) D v d) vs'' ds''∧ds''.length=i+1∧∀ e d,ds''[e]?=some d→CE rooms L G e d:=fun {H2 v' d'} e2 ht hce=>by
   have d2:=e2 _ _ d1
   have p2:Paired (fun v d=>TV K (L2.upd H2 D (.lst (vs'++[v']))) D v d) vs' ds':=Paired.mapP p1 fun v d=>fun h=>(h.same e2).upd d2
   refine⟨vs'++[v'],ds'++[d'],rfl,?_,by rw[List.length_append,ld]; rfl,fun e d hd=>?_⟩
   ·refine se ?_ p2
    exact ht.upd d2
   ·by_cases he:e<ds'.length
    ·rw[List.getElem?_append_left he] at hd
     exact ce e d hd
    ·rw[List.getElem?_append_right (by omega)] at hd
     have:e-ds'.length=0:=by
      have:=(List.getElem?_eq_some_iff.mp hd).1
      rw[List.length_singleton] at this
      omega
     rw[this] at hd
     cases hd
     rw[show e=i by omega]
     exact hce
  have kt1:=Gb mo n0 (Nat.le_succ i) (by omega) kt
  trivial
  have ty:tyV K "list" (V.ref D) H1:=.inl ⟨rfl,_,SqL.of d1⟩
  rcases cn i v hv with ⟨rfl,hw⟩ | ⟨a,ns,rfl,h1,h2,h3,h4,h5,h6,h7⟩
  ·rw[if_pos rfl]
   refine⟨ty,small (by decide),fun p hp=>⟨small (by decide),?_⟩⟩
   obtain⟨H2,g2,S2,T2⟩:=nJ hp [V.int 7,V.int 7]
   rw[← g2]
   clear g2
   have d2:=S2 _ _ d1
   have pD:p≠D:=fun z=>by rw[z,d1] at hp; cases hp
   obtain⟨k,hk,hk4⟩:∃ k:Nat,((vs'.length:Int) % 4).toNat=k∧k<4:=⟨_,rfl,by omega⟩
   obtain⟨v',d',hv',ht⟩:∃ v' d',[V.non,V.str "no",V.ref p,V.int (-1)][k]?=some v'∧TV K H2 D v' d':=by
    match k,hk4 with
    | 0,_=>exact⟨.non,.non,rfl,.inr (.inr (.inl ⟨rfl,rfl⟩))⟩
    | 1,_=>exact⟨.str "no",.str "no",rfl,.inr (.inr (.inr (.inl ⟨rfl,rfl⟩)))⟩
    | 2,_=>exact⟨.ref p,_,rfl,.inr (.inl ⟨p,[7,7],rfl,pD,T2,by decide,rfl⟩)⟩
    | 3,_=>exact⟨.int (-1),.int (-1),rfl,.inr (.inr (.inr (.inr ⟨_,rfl,rfl⟩)))⟩
   obtain⟨vs'',ds'',rfl,p3,l3,c3⟩:=snoc S2 ht (fun z=>by omega)
   refine⟨vs',.inl (SqL.of d2),by decide,by omega,v',by rw[hk]; exact hv',_,d2,Nat.lt_of_lt_of_le (m:=1000) (by omega) (by decide),?_⟩
   rw[hP]
   exact⟨_,ds'',_,ka,ks,cY,p3,l3,c3,fS (e1.trans S2) hD' _,by rw[er kaD]; exact S2 _ _ hka,kaD,kp,kl,kt1,rfl⟩
  ·rw[if_neg (fun z=>by cases z)]
   have mem:∀ j∈ks,∃ i:Nat,(j:Int)=(i:Int)∧i<rooms.length:=fun j hj=>⟨j,rfl,kl j hj⟩
   have lks:ks.length≤6:=by
    have:=sP (Ah kp) (m:=rooms.length) fun x hx=>by
     obtain⟨j,hj,rfl⟩:=List.mem_map.mp hx
     exact⟨j,rfl,kl j hj⟩
    unfold toI at this
    rw[List.length_map] at this
    omega
   obtain⟨nn,hnn,hnl⟩:=EN h5
   refine⟨a,rfl,_,hka,_,e1 _ _ h1,small (by rw[List.length_map,List.length_map]; omega),fun p hp=>?_⟩
   have eL:(ks.map fun n:Nat=>V.int (n:Int))++ns.map V.int=(ks++nn).map fun n:Nat=>V.int (n:Int):=by
    rw[hnn,List.map_append]
    unfold toI
    rw[List.map_map]
    rfl
   rw[eL]
   obtain⟨H2,g2,S2,T2⟩:=nJ hp ((ks++nn).map fun n:Nat=>V.int (n:Int))
   rw[← g2]
   clear g2
   refine⟨ks++nn,SqL.of T2,fun n hn=>?_,fun l2 ks' hl2 kp' km=>?_⟩
   ·rcases List.mem_append.mp hn with h | h
    ·have:=kl n h; omega
    ·have:=hnl n h; omega
   obtain⟨H3,g3,S3,T3⟩:=nJ hl2 (ks'.map fun n:Nat=>V.int (n:Int))
   rw[← g3]
   clear g3
   have S23:=S2.trans S3
   have d3:=S23 _ _ d1
   have l2D:l2≠D:=fun z=>by rw[z,S2 _ _ d1] at hl2; cases hl2
   have kl':∀ j∈ks',j<rooms.length:=fun j hj=>by
    rcases List.mem_append.mp ((km j).mp hj) with h | h
    ·exact kl j h
    ·exact hnl j h
   have hun:∀ j:Nat,j∈ks'↔j∈ks∨(j:Int)∈ns:=fun j=>by rw[km j,List.mem_append,hnn,yv]
   have kt':roomS rooms rooms.length (inS (toI ks'))=sumG L (fun e=>G.getD e 0) (inS (toI ks')) (i+1):=by
    rw[Ed hun]
    exact FT mo n0 (by omega) kt1 h7
   have mem':∀ x∈toI ks',∃ j:Nat,x=(j:Int)∧j<rooms.length:=fun x hx=>by
    obtain⟨j,hj,rfl⟩:=List.mem_map.mp hx
    exact⟨j,rfl,kl' j hj⟩
   have lk':(toI ks').length≤60:=by
    have:=sP (Ah kp') mem'
    omega
   obtain⟨vs'',ds'',rfl,p3,l3,c3⟩:=snoc S23 (.inr (.inl ⟨l2,toI ks',rfl,l2D,by rw[T3]; unfold toI; rw[List.map_map]; rfl,lk',rfl⟩)) (fun _=>⟨toI ks',rfl,Ah kp',mem',by rw[Ed hun]; exact Ep (.inr h6),kt'⟩)
   refine⟨.inl ⟨rfl,_,SqL.of d3⟩,_,d3,Nat.lt_of_lt_of_le (m:=1000) (by omega) (by decide),?_⟩
   rw[hP]
   exact⟨_,ds'',_,l2,ks',cY,p3,l3,c3,fS (e1.trans S23) hD' _,by rw[er l2D]; exact T3,l2D,kp',kl',kt',rfl⟩
 ·intro σ H1 h
  rw[hP] at h
  obtain⟨vs',ds',z,ka,ks,d1,p1,ld,ce,e1,hka,kaD,kp,kl,kt,rfl⟩:=h
  trivial
  exact q _ _ _ _ e1 d1 (Paired.mapP p1 fun v d=>fun h=>h.ok) (by rw[ld,lc]) ce
end
end My1
namespace My2
open My MyB MyC MyD MyE MyF MyG MyS MyI MyJ MyK MyT MyU MyV MyW MyX MyY MyZ MyL MyN MyO MyP MyQ MyR My1 PySem L2
def top (i:Nat):Stmt:=PySem.Challenge.pw_tariffgate_k66_said_otherwise.main.body.getD i (.Pass ⟨0,0,0,0⟩)
theorem jX:(("_law_back":Str) == ("__debug__":Str))=false:=by decide
theorem jY:(("_law_back":Str) == ("__classdict__":Str))=false:=by decide
theorem oj:(("_law_rooms":Str) == ("__debug__":Str))=false:=by decide
theorem qm:(("_law_line":Str) == ("__debug__":Str))=false:=by decide
theorem sv:(("served":Str) == ("__debug__":Str))=false:=by decide
theorem qQ:(("_law_own":Str) == ("__debug__":Str))=false:=by decide
theorem qR:(("_law_own":Str) == ("__classdict__":Str))=false:=by decide
theorem qS:(("_law_due":Str) == ("__debug__":Str))=false:=by decide
theorem dC:(("_law_let":Str) == ("__debug__":Str))=false:=by decide
theorem mY:(("_law_joined":Str) == ("__debug__":Str))=false:=by decide
theorem hV:(("_law_changed":Str) == ("__debug__":Str))=false:=by decide
theorem mZ:(("_law_turned":Str) == ("__debug__":Str))=false:=by decide
abbrev aC:Stmt:=top 35
theorem gM:FnScope ["_law_script","_law_rooms_here","_law_line_here","_law_found","_law_due_here","_law_own","_law_back"] ["_law_script"] (defScope aC):=⟨rfl,rfl,rfl,by decide +kernel,rfl,by decide +kernel,by decide +kernel⟩
theorem qX:Vis (defScope aC) "_law_script":=by decreasing_trivial
theorem dO:Vis (defScope aC) "_law_rooms_here":=by decreasing_trivial
theorem tE:Loc (defScope aC) "_law_rooms_here":=by first | exact Or.inl rfl | exact Or.inr rfl
theorem dk:Vis (defScope aC) "_law_line_here":=by decreasing_trivial
theorem tF:Loc (defScope aC) "_law_line_here":=by first | exact Or.inl rfl | exact Or.inr rfl
theorem dl:Vis (defScope aC) "_law_found":=by decreasing_trivial
theorem tG:Loc (defScope aC) "_law_found":=by first | exact Or.inl rfl | exact Or.inr rfl
theorem fW:Vis (defScope aC) "_law_due_here":=by decreasing_trivial
theorem tI:Loc (defScope aC) "_law_due_here":=by first | exact Or.inl rfl | exact Or.inr rfl
theorem tJ:Vis (defScope aC) "_law_own":=by decreasing_trivial
theorem tK:Loc (defScope aC) "_law_own":=by first | exact Or.inl rfl | exact Or.inr rfl
theorem qY:Vis (defScope aC) "_law_back":=by decreasing_trivial
theorem tL:Loc (defScope aC) "_law_back":=by first | exact Or.inl rfl | exact Or.inr rfl
theorem kY:(defScope aC).names.lookup ("_law_rooms":Str)=some .globalImplicit:=by rfl
theorem lP:(defScope aC).names.lookup ("_law_line":Str)=some .globalImplicit:=by rfl
theorem sw:(defScope aC).names.lookup ("len":Str)=some .globalImplicit:=by rfl
theorem qo:(defScope aC).names.lookup ("served":Str)=some .globalImplicit:=by rfl
theorem rO:(defScope aC).names.lookup ("list":Str)=some .globalImplicit:=by rfl
theorem lQ:(defScope aC).names.lookup ("_law_copy":Str)=some .globalImplicit:=by rfl
theorem m7:(defScope aC).names.lookup ("_law_due":Str)=some .globalImplicit:=by rfl
theorem cC:(defScope aC).names.lookup ("_law_let":Str)=some .globalImplicit:=by rfl
theorem kc:(defScope aC).names.lookup ("_law_joined":Str)=some .globalImplicit:=by rfl
theorem fu:(defScope aC).names.lookup ("_law_changed":Str)=some .globalImplicit:=by rfl
theorem kg:(defScope aC).names.lookup ("_law_turned":Str)=some .globalImplicit:=by rfl
theorem u0 {s1 tl:TS} {D:Ends} {σ:St} {H:Hp} (h:∀ tl',tl'=tl→uV s1 tl' D σ H):uV s1 tl D σ H:=h tl rfl
theorem DX {K:PySem.W.Frag} {H:Hp} {rooms:List Int} {L:List En} {G:List Int} {e:Nat} {v:V} (h:CutM K H rooms L G e v):CutN K H rooms L G e v:=by
 rcases h with h | ⟨c,ns,h1,h2,h3⟩
 ·exact .inl h
 ·exact .inr ⟨c,ns,h1,SqL.of h2,h3⟩
theorem CutM.same {K:PySem.W.Frag} {H H':Hp} {rooms:List Int} {L:List En} {G:List Int} {e:Nat} {v:V} (h:CutM K H rooms L G e v) (s:Same H H'):CutM K H' rooms L G e v:=by
 rcases h with h | ⟨c,ns,h1,h2,h3⟩
 ·exact .inl h
 ·exact .inr ⟨c,ns,h1,s _ _ h2,h3⟩
theorem HK {K:PySem.W.Frag} {H:Hp} {rooms lf:List Int} {L:List En} {F:List (List Int)} {ok:Addr→Prop} {e:Nat} {v:V} (m6:rooms.length≤6) (h:CutAt L rooms.length rooms F lf H ok e v):CutM K H rooms L (F.map List.sum) e v:=by
 rcases HA (K:=K) m6 h with h2 | ⟨c,ns,rfl,h2,h3,h4,h5,h6,h7,h8⟩
 ·exact .inl h2
 ·rcases h with ⟨a,b⟩ | ⟨c',ns',e1,_,g1,g2,g3,g4,_,g5,g6⟩
  ·cases a
  ·cases e1
   have nd:ns'.Nodup:=g3.imp fun h=>by omega
   refine .inr ⟨c,ns',rfl,g1,Nat.le_trans (sP nd g4) m6,h4,nd,g4,?_,?_⟩
   ·rw[List.all_eq_true]
    exact fun j hj=>decide_eq_true (g5 j hj)
   ·rw[g6]
    exact ud fun e _=>sum_at.symm
theorem JA {K:PySem.W.Frag} {H:Hp} {rooms:List Int} {L:List En} {G:List Int} {e:Nat} {v:V} (h:CutN K H rooms L G e v):∃ d,Fi K H v d∧CE rooms L G e d:=by
 rcases h with ⟨rfl,hw⟩ | ⟨c,ns,rfl,h1,h2,h3,h4,h5,h6,h7⟩
 ·exact⟨.non,⟨.non,_,.non,⟨rfl,Nat.zero_le _⟩⟩,fun z=>by omega⟩
 ·exact⟨.lst (ns.map Dt.int),⟨zR h1 (by omega),_,vq h1,vP ns⟩,fun _=>⟨ns,rfl,h4,h5,h6,h7⟩⟩
theorem Ao {K:PySem.W.Frag} {H:Hp} {rooms:List Int} {L:List En} {G:List Int}:∀ (cs:List V) (k:Nat),(∀ e v,cs[e]?=some v→CutN K H rooms L G (k+e) v)→∃ cds,uK K H cs cds∧∀ e d,cds[e]?=some d→CE rooms L G (k+e) d
 | [],k,_=>⟨[],.nil,fun e d h=>by cases h⟩
 | v::cs,k,h=>by
  obtain⟨d,h1,h2⟩:=JA (h 0 v rfl)
  obtain⟨cds,h3,h4⟩:=Ao cs (k+1) fun e v hv=>by
   have:=h (e+1) v (by simpa using hv)
   rwa [show k+(e+1)=k+1+e by omega] at this
  refine⟨d::cds,.cons h1 h3,fun e d' hd=>?_⟩
  cases e with
  | zero=>cases hd; exact h2
  | succ e =>
   rw[show k+(e+1)=k+1+e by omega]
   exact h4 e d' (by simpa using hd)
theorem Ja {rooms G:List Int} {L:List En} {RS:List (List (Nat×Int))} {cds:List Dt} (mo:Most rooms L G) (ok:RtsOk L G RS) (hk:∀ j,j<rooms.length→(RS.map fun xs=>nW xs j).sum≤rooms.getD j 0) (lc:cds.length=L.length) (ce:∀ e d,cds[e]?=some d→CE rooms L G e d) :
  vI rooms L (.lst (G.map Dt.int)) (.lst (RS.map vd)) (.lst cds)=true:=by
 refine HJ mo ok.len lc (fun e he=>⟨(ok.g e he).nd,fun x hx=>⟨ok.pl e he x hx,(ok.g e he).ge x hx⟩,ok.s e he⟩) hk fun e he hlt=>?_
 have hg:cds[e]?=some (cds.getD e .non):=by rw[List.getD,List.getElem?_eq_getElem (by omega)]; rfl
 exact ce e _ hg hlt
theorem Cg {K:PySem.W.Frag} {H:Hp}:∀ {ras:List Addr} {F:List (List Int)},Paired (fun r row=>∃ us,H r=some (.lst us)∧RtAt K H us (rt row)) ras F→uB K H ras (F.map rt)
 | _,_,.nil=>.nil
 | _,_,.cons ⟨us,a,b⟩ t=>.cons ⟨us,SqL.of a,b⟩ (Cg t)
theorem A1 {α β:Type} {R:α→β→Prop}:∀ {xs:List α} {ys:List β},Paired R xs ys→Paired R xs.reverse ys.reverse
 | _,_,.nil=>.nil
 | _,_,.cons r t=>by rw[List.reverse_cons,List.reverse_cons]; exact se r (A1 t)
def RB (K:PySem.W.Frag) (H:Hp) (D:Addr) (bs:List Addr) (XS:List (List (Nat×Int))):Prop:=Paired (fun r xs=>r≠D∧∃ us,H r=some (.lst us)∧RtAt K H us xs) bs XS
theorem RB.ok {K:PySem.W.Frag} {H:Hp} {D:Addr} {bs:List Addr} {XS:List (List (Nat×Int))} (h:RB K H D bs XS):uB K H bs XS:=Paired.mapP h fun r xs=>by rintro⟨_,us,a,b⟩; exact⟨us,SqL.of a,b⟩
theorem RB.same {K:PySem.W.Frag} {H H':Hp} {D:Addr} {bs:List Addr} {XS:List (List (Nat×Int))} (h:RB K H D bs XS) (e:Same H H'):RB K H' D bs XS:=Paired.mapP h fun r xs=>by rintro⟨n,us,a,b⟩; exact⟨n,us,e _ _ a,b.same e⟩
theorem RB.upd {K:PySem.W.Frag} {H:Hp} {D:Addr} {bs:List Addr} {XS:List (List (Nat×Int))} {ys zs:List V} (h:RB K H D bs XS) (hD:H D=some (.lst ys)):RB K (L2.upd H D (.lst zs)) D bs XS:=Paired.mapP h fun r xs=>by rintro⟨n,us,a,b⟩; exact⟨n,us,by rw[er n]; exact a,RtAt.upd hD (fun ys z=>by cases z) (fun _ _ z=>by cases z) b⟩
section
variable {P:Program} {w:World} {K:PySem.W.Frag} {mg:Str→Option Value} {base:Heap} {f:Addr} {fd:FuncData}
theorem JC (F:Fun K "law" "law" aC f fd) (M:Mg mg) (kZ:Cal P w K mg base CX0 "served" 4 ["rooms","line"] (xN K)) (io:Cal P w K mg base CX0 "_law_rooms" 2 ["_law_script"] (yz K)) (i7:Cal P w K mg base CX0 "_law_line" 2 ["_law_script","_law_many"] (Am K)) (di:Cal P w K mg base CX0 "_law_copy" 1 ["_law_line_here"] (yh K)) (jZ:Cal P w K mg base CX0 "_law_due" 1 ["_law_rooms_here","_law_line_here"] (CM K)) (dH:Cal P w K mg base CX0 "_law_changed" 2 ["_law_line_here","_law_routes"] (CZ K)) (gN:Cal P w K mg base CX0 "_law_joined" 1 ["_law_cuts"] (yH K)) (gO:Cal P w K mg base CX0 "_law_turned" 1 ["_law_cuts"] (yY K)) (de:Cal P w K mg base CX0 "_law_let" 6 ["_law_rooms_here","_law_line_here","_law_granted","_law_routes","_law_cuts"] (v9 K)):FnOk P w K mg base CX0 7 f fd ["_law_script"] (zN K):=by
 refine F.ok gM (fun vs H Q E h=>?_) (fun cdv A outer s H vs Q E hr h=>?_)
 ·obtain⟨a,ns,rfl,_⟩:=h
  rfl
 obtain⟨a,ns,rfl,hS,n63,q⟩:=h
 refine⟨_,(@dI _ _ _ _ _ (@ic _ _ 1 _ _ _ _ gM.nd rfl tE (@fX _ _ _ _ _ _ _ _ _ _ _ io hr kY (@bO _ _ _ _ _ (@cO _ 0 _ _ rfl qX ax ay) (@cT _) (cg rfl)) (by decide) oj (cg rfl) ff) (fZ rfl) (.inl rfl)) (@dI _ _ _ _ _ (@ic _ _ 2 _ _ _ _ gM.nd rfl tF (@fX _ _ _ _ _ _ _ _ _ _ _ i7 hr lP (@bO _ _ _ _ _ (@cO _ 0 _ _ rfl qX ax ay) (@bO _ _ _ _ _ (@fY _ _ _ _ _ _ _ _ _ iU sw M.m_len pW (@bO _ _ _ _ _ (@cO _ 1 _ _ rfl dO aj ak) (@cT _) (cg rfl)) aA az (cg rfl) ff) (@cT _) (cg rfl)) (cg rfl)) (by decide) qm (cg rfl) (fT rfl ff)) (fZ rfl) (.inl rfl)) (@dI _ _ _ _ _ (@ic _ _ 3 _ _ _ _ gM.nd rfl tG (@fX _ _ _ _ _ _ _ _ _ _ _ kZ hr qo (@bO _ _ _ _ _ (@nS _ _ _ _ _ _ _ _ _ tS rO M.m_list tM (@bO _ _ _ _ _ (@cO _ 1 _ _ rfl dO aj ak) (@cT _) (cg rfl)) bi bh (cg rfl) ff) (@bO _ _ _ _ _ (@fX _ _ _ _ _ _ _ _ _ _ _ di hr lQ (@bO _ _ _ _ _ (@cO _ 2 _ _ rfl dk aa ae) (@cT _) (cg rfl)) (by decide) gB (cg rfl) ff) (@cT _) (cg rfl)) (cg rfl)) (by decide) sv (cg rfl) (fT rfl ff)) (fZ rfl) (.inl rfl)) (@dI _ _ _ _ _ (@wc _ _ _ _ _ _ (@fX _ _ _ _ _ _ _ _ _ _ _ jZ hr m7 (@bO _ _ _ _ _ (@cO _ 1 _ _ rfl dO aj ak) (@bO _ _ _ _ _ (@cO _ 2 _ _ rfl dk aa ae) (@cT _) (cg rfl)) (cg rfl)) (by decide) qS (cg rfl) (fT rfl ff)) (@uP _ _ _ _ _ _ rfl (@gS _ _ _ _ _ (@fj _ _ 4 _ gM.nd rfl tI (.inl rfl)) (@gS _ _ _ _ _ (@fj _ _ 5 _ gM.nd rfl tK (.inl rfl)) (@oW _) (by rfl)) (by rfl)) (by rfl) (by rfl)) (by rfl) (by rfl) (by rfl)) (@dI _ _ _ _ _ (@nC _ _ _ _ _ _ _ _ (@PW.pt _ _ _ (@Dv _ _ _ _ _ _ _ (@kB _ _ _ _ _ _ _ _ (@Ij _ (Nat.lt_of_succ_lt (uX hr))) (@gu _ _ _ _ _ _ _ (@ni _) (@cO _ 3 _ _ rfl dl aE aF) (@dw _ _ _ _) (fun _ _=>rfl)) (@cO _ 4 _ _ rfl fW aJ aK) (i8 _)) (@AR _ _ _ _ (@qT _ _ _ _ (@pV _ _ _ (@fX _ _ _ _ _ _ _ _ _ _ _ de hr cC (@bO _ _ _ _ _ (@cO _ 1 _ _ rfl dO aj ak) (@bO _ _ _ _ _ (@cO _ 2 _ _ rfl dk aa ae) (@bO _ _ _ _ _ (@cO _ 4 _ _ rfl fW aJ aK) (@bO _ _ _ _ _ (@gu _ _ _ _ _ _ _ (@ni _) (@cO _ 3 _ _ rfl dl aE aF) (@dw _ _ _ _) (fun _ _=>rfl)) (@bO _ _ _ _ _ (@gu _ _ _ _ _ _ _ (@ni _) (@cO _ 3 _ _ rfl dl aE aF) (@dw _ _ _ _) (fun _ _=>rfl)) (@cT _) (cg rfl)) (cg rfl)) (cg rfl)) (cg rfl)) (cg rfl)) (by decide) dC (cg rfl) (fT rfl (fT rfl (fT rfl (fT rfl ff))))) (sZ rfl)))))) (@eF _ _ _ (@ia _ _ _ _ (@tY _ _ _ _))) (@m8 _)) (@dI _ _ _ _ _ (@uE _ _ _ _ _ _ _ _ _ _ _ _ _ _ _ 6 _ _ _ gM.nd rfl tL rfl (CompOk.make (N':=["_law_route"]) (ix:=[]) (nl:=1) (by rfl) fm0 (by rfl) (by decide +kernel) rfl (by decide +kernel) rfl True.intro) (@kL _ _ _ _ (@gu _ _ _ _ _ _ _ (@ni _) (@cO _ 3 _ _ rfl dl aE aF) (@dw _ _ _ _) (fun _ _=>rfl))) (fun _ _ _ _ _=>(@fj _ _ 0 _ (show List.Nodup (["_law_route"]:List Str) from by decide) rfl (Or.inl rfl) (by first | exact .inl rfl | exact .inr rfl | assumption))) (fun _ _ _ _ _=>(@nk _)) (fun _ _ _ _ _=>(@EL _ K _ _ _ _ _ _ rfl (@pv _ 0 _ _ (by rfl) (by decreasing_trivial) (by decide) (by decide)) (@wN _ _ _ (@vz _ _ _ _ _ _ (@uT _) (@dw _ _ _ _))))) (by rfl) (by intro _; rfl) (by first | exact .inl rfl | exact .inr rfl | assumption)) (@dI _ _ _ _ _ (@nC _ _ _ _ _ _ _ _ (@qT _ _ _ _ (@pV _ _ _ (@fX _ _ _ _ _ _ _ _ _ _ _ de hr cC (@bO _ _ _ _ _ (@cO _ 1 _ _ rfl dO aj ak) (@bO _ _ _ _ _ (@cO _ 2 _ _ rfl dk aa ae) (@bO _ _ _ _ _ (@cO _ 4 _ _ rfl fW aJ aK) (@bO _ _ _ _ _ (@cO _ 6 _ _ rfl qY jX jY) (@bO _ _ _ _ _ (@fX _ _ _ _ _ _ _ _ _ _ _ gN hr kc (@bO _ _ _ _ _ (@gu _ _ _ _ _ _ _ (@ni _) (@cO _ 3 _ _ rfl dl aE aF) (@dw _ _ _ _) (fun _ _=>rfl)) (@cT _) (cg rfl)) (by decide) mY (cg rfl) ff) (@cT _) (cg rfl)) (cg rfl)) (cg rfl)) (cg rfl)) (cg rfl)) (by decide) dC (cg rfl) (fT rfl (fT rfl (fT rfl (fT rfl ff))))) (sZ rfl))) (@eF _ _ _ (@ia _ _ _ _ (@tY _ _ _ _))) (@m8 _)) (@dI _ _ _ _ _ (@nC _ _ _ _ _ _ _ _ (@qT _ _ _ _ (@pV _ _ _ (@fX _ _ _ _ _ _ _ _ _ _ _ de hr cC (@bO _ _ _ _ _ (@cO _ 1 _ _ rfl dO aj ak) (@bO _ _ _ _ _ (@cO _ 2 _ _ rfl dk aa ae) (@bO _ _ _ _ _ (@cO _ 4 _ _ rfl fW aJ aK) (@bO _ _ _ _ _ (@fX _ _ _ _ _ _ _ _ _ _ _ dH hr fu (@bO _ _ _ _ _ (@cO _ 2 _ _ rfl dk aa ae) (@bO _ _ _ _ _ (@gu _ _ _ _ _ _ _ (@ni _) (@cO _ 3 _ _ rfl dl aE aF) (@dw _ _ _ _) (fun _ _=>rfl)) (@cT _) (cg rfl)) (cg rfl)) (by decide) hV (cg rfl) (fT rfl ff)) (@bO _ _ _ _ _ (@cO _ 5 _ _ rfl tJ qQ qR) (@cT _) (cg rfl)) (cg rfl)) (cg rfl)) (cg rfl)) (cg rfl)) (by decide) dC (cg rfl) (fT rfl (fT rfl (fT rfl (fT rfl ff))))) (sZ rfl))) (@eF _ _ _ (@ia _ _ _ _ (@tY _ _ _ _))) (@m8 _)) (@dI _ _ _ _ _ (@nC _ _ _ _ _ _ _ _ (@qT _ _ _ _ (@pV _ _ _ (@fX _ _ _ _ _ _ _ _ _ _ _ de hr cC (@bO _ _ _ _ _ (@cO _ 1 _ _ rfl dO aj ak) (@bO _ _ _ _ _ (@cO _ 2 _ _ rfl dk aa ae) (@bO _ _ _ _ _ (@cO _ 4 _ _ rfl fW aJ aK) (@bO _ _ _ _ _ (@fX _ _ _ _ _ _ _ _ _ _ _ dH hr fu (@bO _ _ _ _ _ (@cO _ 2 _ _ rfl dk aa ae) (@bO _ _ _ _ _ (@cO _ 6 _ _ rfl qY jX jY) (@cT _) (cg rfl)) (cg rfl)) (by decide) hV (cg rfl) (fT rfl ff)) (@bO _ _ _ _ _ (@fX _ _ _ _ _ _ _ _ _ _ _ gO hr kg (@bO _ _ _ _ _ (@gu _ _ _ _ _ _ _ (@ni _) (@cO _ 3 _ _ rfl dl aE aF) (@dw _ _ _ _) (fun _ _=>rfl)) (@cT _) (cg rfl)) (by decide) mZ (cg rfl) ff) (@cT _) (cg rfl)) (cg rfl)) (cg rfl)) (cg rfl)) (cg rfl)) (by decide) dC (cg rfl) (fT rfl (fT rfl (fT rfl (fT rfl ff))))) (sZ rfl))) (@eF _ _ _ (@ia _ _ _ _ (@tY _ _ _ _))) (@m8 _)) (@eF _ _ _ (@ia _ _ _ _ (@fX _ _ _ _ _ _ _ _ _ _ _ de hr cC (@bO _ _ _ _ _ (@cO _ 1 _ _ rfl dO aj ak) (@bO _ _ _ _ _ (@cO _ 2 _ _ rfl dk aa ae) (@bO _ _ _ _ _ (@cO _ 4 _ _ rfl fW aJ aK) (@bO _ _ _ _ _ (@gu _ _ _ _ _ _ _ (@ni _) (@cO _ 3 _ _ rfl dl aE aF) (@dw _ _ _ _) (fun _ _=>rfl)) (@bO _ _ _ _ _ (@gu _ _ _ _ _ _ _ (@ni _) (@cO _ 3 _ _ rfl dl aE aF) (@dw _ _ _ _) (fun _ _=>rfl)) (@cT _) (cg rfl)) (cg rfl)) (cg rfl)) (cg rfl)) (cg rfl)) (by decide) dC (cg rfl) (fT rfl (fT rfl (fT rfl (fT rfl ff)))))))))))))))),?_⟩
 refine u0 fun tl htl=>?_
 trivial
 refine⟨a,ns,rfl,hS,fun rm rooms H1 e1 hrm d1 m6 rb=>?_⟩
 show tl _ _ _
 rw[htl]
 clear htl tl
 refine u0 fun tl htl=>?_
 trivial
 refine⟨_,.inl (SqL.of d1),?_⟩
 rw[List.length_map]
 refine⟨a,ns,rooms.length,rfl,e1.seq hS,m6,fun l L H2 e2 hl hL ln=>?_⟩
 have lok:=JV ln m6
 have l64:=lok.l
 have d2:=e2 _ _ d1
 have r0:∀ x∈rooms,0≤x:=fun x hx=>(rb x hx).1
 show tl _ _ _
 rw[htl]
 clear htl tl
 refine u0 fun tl htl=>?_
 trivial
 refine⟨_,SqL.of d2,fun r3 hr3=>?_⟩
 obtain⟨H3,g3,S3,T3⟩:=nJ hr3 (rooms.map V.int)
 rw[← g3]
 clear g3
 refine⟨l,L,rfl,hL.same S3,l64,fun l4 H4 S4 hl4 hL4=>?_⟩
 refine⟨r3,l4,rooms,L,rfl,SqL.of (S4 _ _ T3),hL4.at,lok,r0,fun t ga ra ca Fl lf ras cs H5 S5 ht fnd lcs cut flo sep=>?_⟩
 have e5:=(S3.trans S4).trans S5
 show tl _ _ _
 rw[htl]
 clear htl tl
 refine u0 fun tl htl=>?_
 trivial
 refine⟨rm,l,rooms,L,rfl,SqL.of (e5 _ _ d2),hL.same e5,ln,m6,r0,fun t6 du ow G us H6 S6 T6 ddu dow lus cn mo=>?_⟩
 refine⟨t6,rfl,_,T6,rfl,_,_,rfl,_,_,rfl,rfl,?_⟩
 show tl _ _ _
 rw[htl]
 clear htl tl
 refine u0 fun tl htl=>?_
 trivial
 have fnd6:=fnd.same S6
 have mof:=G0 (K:=K) flo lcs cut
 have eG:Fl.map List.sum=G:=F0 mof mo
 have lG:=mo.len
 have lF:Fl.length=L.length:=flo.rows.1
 obtain⟨RS,hRS⟩:∃ RS,RS=Fl.map rt:=⟨_,rfl⟩
 have ok0:RtsOk L G RS:=by rw[hRS,← eG]; exact E9 flo
 have hk0:∀ j,j<rooms.length→(RS.map fun xs=>nW xs j).sum≤rooms.getD j 0:=by rw[hRS]; exact (yl flo).2.2
 have l6:∀ xs∈RS,xs.length≤6:=fun xs hx=>by
  rw[hRS] at hx
  obtain⟨row,hr,rfl⟩:=List.mem_map.mp hx
  have:=Jv (flo.rows.2 row hr)
  omega
 have rts0:∀ {Hx:Hp},Same H6 Hx→uB K Hx ras RS:=fun e=>by rw[hRS]; exact Cg ((fnd6.same e).rs)
 have cm:∀ {Hx:Hp},Same H6 Hx→∀ (e:Nat) (v:V),cs[e]?=some v→CutM K Hx rooms L G e v:=fun {Hx} s e v hv=>by
  have:=CutM.same (HK (K:=K) m6 (cut e v hv)) (S6.trans s)
  rwa [eG] at this
 have e6:=e5.trans S6
 have letG:∀ {Hx:Hp} {QQ:VK} {r c:Addr} {ras':List Addr} {RS':List (List (Nat×Int))} {cvs:List V} {cds:List Dt},Same H6 Hx→SqL K Hx r (ras'.map V.ref)→uB K Hx ras' RS'→RtsOk L G RS'→(∀ xs∈RS',xs.length≤60)→(∀ j,(RS'.map fun xs=>nW xs j).sum=(RS.map fun xs=>nW xs j).sum)→SqL K Hx c cvs→uK K Hx cvs cds→cds.length=L.length→(∀ e d,cds[e]?=some d→CE rooms L G e d)→(∀ H',Same Hx H'→QQ (.bl true) H')→v9 K [.ref rm,.ref l,.ref du,.ref r,.ref c] Hx QQ E0:=fun {Hx QQ r c ras' RS' cvs cds} s h1 h2 h3 h4 h5 h6 h7 h8 h9 qq =>
  ⟨rm,l,du,r,c,rooms,L,G,ras',RS',cvs,cds,rfl,SqL.of ((e6.trans s) _ _ d2),hL.same (e6.trans s),lok,SqL.of (s _ _ ddu),by omega,h1,h2,by rw[h3.len]; omega,h4,h6,h7,by omega,Ja mo h3 (fun j hj=>by rw[h5 j]; exact hk0 j hj) h8 h9,qq⟩
 have let0:∀ {Hx:Hp} {QQ:VK},Same H6 Hx→(∀ H',Same Hx H'→QQ (.bl true) H')→v9 K [.ref rm,.ref l,.ref du,.ref ra,.ref ca] Hx QQ E0:=fun {Hx QQ} s qq=>by
  obtain⟨cds,c1,c2⟩:=Ao cs 0 fun e v hv=>by rw[Nat.zero_add]; exact DX (cm s e v hv)
  have lc:=Paired.length c1
  exact letG s (SqL.of (s _ _ fnd6.r)) (rts0 s) ok0 (fun xs hx=>by have:=l6 xs hx; omega) (fun _=>rfl) (SqL.of (s _ _ fnd6.c)) c1 (by omega) (fun e d hd=>by have:=c2 e d hd; rwa [Nat.zero_add] at this) qq
 refine⟨_,fnd6.t,_,rfl,ga,du,rfl,rfl,.inr ⟨Fl.map List.sum,G,.inl ⟨SqL.of fnd6.g,SqL.of ddu⟩,false,by rw[eG]; simp,?_⟩⟩
 rw[if_neg (by decide)]
 refine⟨_,fnd6.t,_,rfl,_,fnd6.t,_,rfl,let0 (fun _ _ h=>h) fun H7 S7=>⟨true,rfl,?_⟩⟩
 rw[if_neg (by decide)]
 show tl _ _ _
 rw[htl]
 clear htl tl
 refine u0 fun tl htl=>?_
 trivial
 have lRS:=ok0.len
 have lras:ras.length=RS.length:=Paired.length (rts0 (fun _ _ h=>h))
 have fnd7:=fnd6.same S7
 refine⟨_,fnd7.t,_,rfl,ra,rfl,⟨_,SqL.of fnd7.r⟩,fun D hD=>?_⟩
 obtain⟨Pc,hC⟩:∃ Pc:Nat→St→Hp→Prop,Pc=fun j τ H'=>∃ (bs:List Addr) (z:Option V),H' D=some (.lst (bs.map V.ref))∧RB K H' D bs ((RS.take j).map List.reverse)∧bs.length=j∧Same H7 H'∧τ=[z]:=⟨_,rfl⟩
 refine mC (ras.map V.ref) Pc ?_ (fun j τ H' _ h=>by rw[hC] at h; obtain⟨_,_,_,_,_,e,_⟩:=h; exact SqL.of (e _ _ fnd7.r)) ?_ ?_
 ·rw[hC]
  exact⟨[],_,cY,.nil,rfl,fD hD _,rfl⟩
 ·intro j v τ H' R' hv h next
  rw[hC] at h
  obtain⟨bs,z,dD,rb,lb,e8,rfl⟩:=h
  obtain⟨r,hr1,rfl⟩:∃ r,ras[j]?=some r∧v=.ref r:=by
   rw[List.getElem?_map] at hv
   cases h1:ras[j]? with
   | none=>rw[h1] at hv; cases hv
   | some r=>rw[h1] at hv; cases hv; exact⟨r,rfl,rfl⟩
  have lj:=(List.getElem?_eq_some_iff.mp hr1).1
  obtain⟨xs,hxs,us',u1,u2⟩:=ve (rts0 (S7.trans e8)) hr1
  trivial
  refine⟨us',u1,fun p hp=>?_⟩
  obtain⟨H9,g9,S9,T9⟩:=nJ hp us'.reverse
  rw[← g9]
  clear g9
  have pD:p≠D:=fun z=>by rw[z,dD] at hp; cases hp
  have dD9:=S9 _ _ dD
  refine⟨_,dD9,by rw[List.length_map]; exact Nat.lt_of_lt_of_le (m:=1000) (by omega) (by decide),next _ _ ?_⟩
  rw[hC]
  refine⟨bs++[p],_,by rw[cY,List.map_append]; rfl,?_,by rw[List.length_append,lb]; rfl,fS (e8.trans S9) hD _,rfl⟩
  rw[List.take_succ,hxs,List.map_append]
  exact se (⟨pD,us'.reverse,by rw[er pD]; exact T9,RtAt.upd dD9 (fun ys z=>by cases z) (fun _ _ z=>by cases z) (A1 (u2.same S9))⟩) ((rb.same S9).upd dD9)
 intro τ H8 h
 rw[hC] at h
 obtain⟨bs,z,dD,rb,lb,e8,rfl⟩:=h
 clear hC
 rw[List.length_map,lras,List.take_length] at rb
 obtain⟨okR,amR⟩:=Eo ok0
 have S8:=S7.trans e8
 show tl _ _ _
 rw[htl]
 clear htl tl
 refine u0 fun tl htl=>?_
 trivial
 have fnd8:=fnd6.same S8
 have lenR:∀ xs∈RS.map List.reverse,xs.length≤6:=fun xs hx=>by
  obtain⟨y,hy,rfl⟩:=List.mem_map.mp hx
  rw[List.length_reverse]
  exact l6 y hy
 refine⟨_,fnd8.t,_,rfl,ca,cs,rooms,L,G,rfl,SqL.of fnd8.c,lcs,l64,m6,mo,cm S8,fun c9 cv9 cd9 H9 S9 hc9 cva9 lc9 ce9=>?_⟩
 refine letG (S8.trans S9) (SqL.of (S9 _ _ dD)) (rb.same S9).ok okR (fun xs hx=>by have:=lenR xs hx; omega) amR (SqL.of hc9) cva9 lc9 ce9 fun H10 S10=>⟨true,rfl,?_⟩
 rw[if_neg (by decide)]
 show tl _ _ _
 rw[htl]
 clear htl tl
 refine u0 fun tl htl=>?_
 trivial
 have S10':=(S8.trans S9).trans S10
 refine⟨_,Same.tup S10' fnd6.t,_,rfl,l,ra,L,G,ras,RS,rfl,hL.same (e6.trans S10'),l64,SqL.of (S10' _ _ fnd6.r),rts0 S10',ok0,(fun xs hx=>by have:=l6 xs hx; omega),fun r11 ras11 RS11 H11 S11 d11 rt11 ok11 l11 am11=>?_⟩
 obtain⟨cdo,co1,co2⟩:=Ao (K:=K) (H:=H11) us 0 fun e v hv=>by rw[Nat.zero_add]; exact (cn e v hv).same (S10'.trans S11)
 have lco:=Paired.length co1
 refine letG (S10'.trans S11) (SqL.of d11) rt11 ok11 l11 am11 (SqL.of ((S10'.trans S11) _ _ dow)) co1 (by omega) (fun e d hd=>by have:=co2 e d hd; rwa [Nat.zero_add] at this) fun H12 S12=>⟨true,rfl,?_⟩
 rw[if_neg (by decide)]
 have S12':=(S10'.trans S11).trans S12
 have S812:=((S9.trans S10).trans S11).trans S12
 show tl _ _ _
 rw[htl]
 clear htl tl
 refine u0 fun tl htl=>?_
 trivial
 refine⟨l,D,L,G,bs,RS.map List.reverse,rfl,hL.same (e6.trans S12'),l64,SqL.of (S812 _ _ dD),(rb.same S812).ok,okR,(fun xs hx=>by have:=lenR xs hx; omega),fun r13 ras13 RS13 H13 S13 d13 rt13 ok13 l13 am13=>?_⟩
 have S13':=S12'.trans S13
 refine⟨_,Same.tup S13' fnd6.t,_,rfl,ca,cs,rooms,L,G,rfl,SqL.of (S13' _ _ fnd6.c),lcs,l64,fun e v hv=>DX (cm S13' e v hv),fun c14 cv14 cd14 H14 S14 hc14 cva14 lc14 ce14=>?_⟩
 refine letG (S13'.trans S14) (SqL.of (S14 _ _ d13)) (xG S14 rt13) ok13 l13 (fun j=>by rw[am13 j]; exact amR j) (SqL.of hc14) cva14 lc14 ce14 fun H15 S15=>⟨true,rfl,?_⟩
 rw[if_neg (by decide)]
 have S15':=(S13'.trans S14).trans S15
 show tl _ _ _
 rw[htl]
 clear htl tl
 trivial
 refine⟨_,Same.tup S15' fnd6.t,_,rfl,_,Same.tup S15' fnd6.t,_,rfl,let0 S15' fun H16 S16=>?_⟩
 exact q _
end
end My2
namespace My
open MyB MyC MyD MyE MyF MyG MyS MyI MyJ MyK MyT MyU MyV MyW MyX MyY MyZ MyL MyN MyO MyP MyQ MyR My1 My2 PySem L2
theorem all_mk {l:PySem.W.OpenLaw} {w:World} {K:PySem.W.Frag} {h:Heap} {mg:Str→Option Value} {fa f1 f2 f3 f4 f5 f6 f7 f8 f9 f10 f11 f12 f13 f14 f15 f16 f17 f18 f19 f20 f21 f22 f23 f24 f25 f26 f27 f28 f29 f30 f31:Addr} (X:K.In h) (G:h.Ns mainGlobals mg) (hfa:mg "law"=some (.ref fa))
  {od1 an1 od2 an2 od3 an3 od4 an4 od5 an5 od6 an6 od7 an7 od8 an8 od9 an9 od10 an10 od11 an11 od12 an12 od13 an13 od14 an14 od15 an15 od16 an16 od17 an17 od18 an18 od19 an19 od20 an20 od21 an21 od22 an22 od23 an23 od24 an24 od25 an25 od26 an26 od27 an27 od28 an28 od29 an29 od30 an30 od31 an31:Option Addr} {sl1 sl2 sl3 sl4 sl5 sl6 sl7 sl8 sl9 sl10 sl11 sl12 sl13 sl14 sl15 sl16 sl17 sl18 sl19 sl20 sl21 sl22 sl23 sl24 sl25 sl26 sl27 sl28 sl29 sl30 sl31:Array (Option Value)} {oc1 kV1 dc1 pm1 cd1 ct1 oc2 kV2 dc2 pm2 cd2 ct2 oc3 kV3 dc3 pm3 cd3 ct3 oc4 kV4 dc4 pm4 cd4 ct4 oc5 kV5 dc5 pm5 cd5 ct5 oc6 kV6 dc6 pm6 cd6 ct6 oc7 kV7 dc7 pm7 cd7 ct7 oc8 kV8 dc8 pm8 cd8 ct8 oc9 kV9 dc9 pm9 cd9 ct9 oc10 kV10 dc10 pm10 cd10 ct10 oc11 kV11 dc11 pm11 cd11 ct11 oc12 kV12 dc12 pm12 cd12 ct12 oc13 kV13 dc13 pm13 cd13 ct13 oc14 kV14 dc14 pm14 cd14 ct14 oc15 kV15 dc15 pm15 cd15 ct15 oc16 kV16 dc16 pm16 cd16 ct16 oc17 kV17 dc17 pm17 cd17 ct17 oc18 kV18 dc18 pm18 cd18 ct18 oc19 kV19 dc19 pm19 cd19 ct19 oc20 kV20 dc20 pm20 cd20 ct20 oc21 kV21 dc21 pm21 cd21 ct21 oc22 kV22 dc22 pm22 cd22 ct22 oc23 kV23 dc23 pm23 cd23 ct23 oc24 kV24 dc24 pm24 cd24 ct24 oc25 kV25 dc25 pm25 cd25 ct25 oc26 kV26 dc26 pm26 cd26 ct26 oc27 kV27 dc27 pm27 cd27 ct27 oc28 kV28 dc28 pm28 cd28 ct28 oc29 kV29 dc29 pm29 cd29 ct29 oc30 kV30 dc30 pm30 cd30 ct30 oc31 kV31 dc31 pm31 cd31 ct31:Value}
  (a1:PySem.W.nsIn K mainGlobals "is_whole"=some (some (.ref f1))) (l1:K.lookup f1=some ⟨oc1,od1,.func (PySem.W.fnOf "is_whole" "is_whole" (defArgs bL) (defBody bL) (defScope bL) .none kV1 dc1 pm1 an1 cd1 ct1),sl1⟩) (c1:PySem.W.codeIn K cd1 "is_whole"=true) (k1:PySem.W.keepIn K (.ref f1)=true)
  (a2:PySem.W.nsIn K mainGlobals "is_list_of"=some (some (.ref f2))) (l2:K.lookup f2=some ⟨oc2,od2,.func (PySem.W.fnOf "is_list_of" "is_list_of" (defArgs aY) (defBody aY) (defScope aY) .none kV2 dc2 pm2 an2 cd2 ct2),sl2⟩) (c2:PySem.W.codeIn K cd2 "is_list_of"=true) (k2:PySem.W.keepIn K (.ref f2)=true)
  (a3:PySem.W.nsIn K mainGlobals "is_grant"=some (some (.ref f3))) (l3:K.lookup f3=some ⟨oc3,od3,.func (PySem.W.fnOf "is_grant" "is_grant" (defArgs bQ) (defBody bQ) (defScope bQ) .none kV3 dc3 pm3 an3 cd3 ct3),sl3⟩) (c3:PySem.W.codeIn K cd3 "is_grant"=true) (k3:PySem.W.keepIn K (.ref f3)=true)
  (a4:PySem.W.nsIn K mainGlobals "are_places"=some (some (.ref f4))) (l4:K.lookup f4=some ⟨oc4,od4,.func (PySem.W.fnOf "are_places" "are_places" (defArgs bv) (defBody bv) (defScope bv) .none kV4 dc4 pm4 an4 cd4 ct4),sl4⟩) (c4:PySem.W.codeIn K cd4 "are_places"=true) (k4:PySem.W.keepIn K (.ref f4)=true)
  (a5:PySem.W.nsIn K mainGlobals "is_pair"=some (some (.ref f5))) (l5:K.lookup f5=some ⟨oc5,od5,.func (PySem.W.fnOf "is_pair" "is_pair" (defArgs bN) (defBody bN) (defScope bN) .none kV5 dc5 pm5 an5 cd5 ct5),sl5⟩) (c5:PySem.W.codeIn K cd5 "is_pair"=true) (k5:PySem.W.keepIn K (.ref f5)=true)
  (a6:PySem.W.nsIn K mainGlobals "is_route"=some (some (.ref f6))) (l6:K.lookup f6=some ⟨oc6,od6,.func (PySem.W.fnOf "is_route" "is_route" (defArgs aV) (defBody aV) (defScope aV) .none kV6 dc6 pm6 an6 cd6 ct6),sl6⟩) (c6:PySem.W.codeIn K cd6 "is_route"=true) (k6:PySem.W.keepIn K (.ref f6)=true)
  (a7:PySem.W.nsIn K mainGlobals "amount_through"=some (some (.ref f7))) (l7:K.lookup f7=some ⟨oc7,od7,.func (PySem.W.fnOf "amount_through" "amount_through" (defArgs aq) (defBody aq) (defScope aq) .none kV7 dc7 pm7 an7 cd7 ct7),sl7⟩) (c7:PySem.W.codeIn K cd7 "amount_through"=true) (k7:PySem.W.keepIn K (.ref f7)=true)
  (a8:PySem.W.nsIn K mainGlobals "keep_to_rooms"=some (some (.ref f8))) (l8:K.lookup f8=some ⟨oc8,od8,.func (PySem.W.fnOf "keep_to_rooms" "keep_to_rooms" (defArgs aW) (defBody aW) (defScope aW) .none kV8 dc8 pm8 an8 cd8 ct8),sl8⟩) (c8:PySem.W.codeIn K cd8 "keep_to_rooms"=true) (k8:PySem.W.keepIn K (.ref f8)=true)
  (a9:PySem.W.nsIn K mainGlobals "is_within"=some (some (.ref f9))) (l9:K.lookup f9=some ⟨oc9,od9,.func (PySem.W.fnOf "is_within" "is_within" (defArgs bT) (defBody bT) (defScope bT) .none kV9 dc9 pm9 an9 cd9 ct9),sl9⟩) (c9:PySem.W.codeIn K cd9 "is_within"=true) (k9:PySem.W.keepIn K (.ref f9)=true)
  (a10:PySem.W.nsIn K mainGlobals "is_cut"=some (some (.ref f10))) (l10:K.lookup f10=some ⟨oc10,od10,.func (PySem.W.fnOf "is_cut" "is_cut" (defArgs aH) (defBody aH) (defScope aH) .none kV10 dc10 pm10 an10 cd10 ct10),sl10⟩) (c10:PySem.W.codeIn K cd10 "is_cut"=true) (k10:PySem.W.keepIn K (.ref f10)=true)
  (a11:PySem.W.nsIn K mainGlobals "cut_holds"=some (some (.ref f11))) (l11:K.lookup f11=some ⟨oc11,od11,.func (PySem.W.fnOf "cut_holds" "cut_holds" (defArgs bw) (defBody bw) (defScope bw) .none kV11 dc11 pm11 an11 cd11 ct11),sl11⟩) (c11:PySem.W.codeIn K cd11 "cut_holds"=true) (k11:PySem.W.keepIn K (.ref f11)=true)
  (a12:PySem.W.nsIn K mainGlobals "lets_by"=some (some (.ref f12))) (l12:K.lookup f12=some ⟨oc12,od12,.func (PySem.W.fnOf "lets_by" "lets_by" (defArgs aZ) (defBody aZ) (defScope aZ) .none kV12 dc12 pm12 an12 cd12 ct12),sl12⟩) (c12:PySem.W.codeIn K cd12 "lets_by"=true) (k12:PySem.W.keepIn K (.ref f12)=true)
  (a13:PySem.W.nsIn K mainGlobals "led_over"=some (some (.ref f13))) (l13:K.lookup f13=some ⟨oc13,od13,.func (PySem.W.fnOf "led_over" "led_over" (defArgs av) (defBody av) (defScope av) .none kV13 dc13 pm13 an13 cd13 ct13),sl13⟩) (c13:PySem.W.codeIn K cd13 "led_over"=true) (k13:PySem.W.keepIn K (.ref f13)=true)
  (a14:PySem.W.nsIn K mainGlobals "reached_by"=some (some (.ref f14))) (l14:K.lookup f14=some ⟨oc14,od14,.func (PySem.W.fnOf "reached_by" "reached_by" (defArgs ah) (defBody ah) (defScope ah) .none kV14 dc14 pm14 an14 cd14 ct14),sl14⟩) (c14:PySem.W.codeIn K cd14 "reached_by"=true) (k14:PySem.W.keepIn K (.ref f14)=true)
  (a15:PySem.W.nsIn K mainGlobals "moves_to"=some (some (.ref f15))) (l15:K.lookup f15=some ⟨oc15,od15,.func (PySem.W.fnOf "moves_to" "moves_to" (defArgs bn) (defBody bn) (defScope bn) .none kV15 dc15 pm15 an15 cd15 ct15),sl15⟩) (c15:PySem.W.codeIn K cd15 "moves_to"=true) (k15:PySem.W.keepIn K (.ref f15)=true)
  (a16:PySem.W.nsIn K mainGlobals "lead"=some (some (.ref f16))) (l16:K.lookup f16=some ⟨oc16,od16,.func (PySem.W.fnOf "lead" "lead" (defArgs aX) (defBody aX) (defScope aX) .none kV16 dc16 pm16 an16 cd16 ct16),sl16⟩) (c16:PySem.W.codeIn K cd16 "lead"=true) (k16:PySem.W.keepIn K (.ref f16)=true)
  (a17:PySem.W.nsIn K mainGlobals "serve"=some (some (.ref f17))) (l17:K.lookup f17=some ⟨oc17,od17,.func (PySem.W.fnOf "serve" "serve" (defArgs aO) (defBody aO) (defScope aO) .none kV17 dc17 pm17 an17 cd17 ct17),sl17⟩) (c17:PySem.W.codeIn K cd17 "serve"=true) (k17:PySem.W.keepIn K (.ref f17)=true)
  (a18:PySem.W.nsIn K mainGlobals "route_of"=some (some (.ref f18))) (l18:K.lookup f18=some ⟨oc18,od18,.func (PySem.W.fnOf "route_of" "route_of" (defArgs ck) (defBody ck) (defScope ck) .none kV18 dc18 pm18 an18 cd18 ct18),sl18⟩) (c18:PySem.W.codeIn K cd18 "route_of"=true) (k18:PySem.W.keepIn K (.ref f18)=true)
  (a19:PySem.W.nsIn K mainGlobals "served"=some (some (.ref f19))) (l19:K.lookup f19=some ⟨oc19,od19,.func (PySem.W.fnOf "served" "served" (defArgs aG) (defBody aG) (defScope aG) .none kV19 dc19 pm19 an19 cd19 ct19),sl19⟩) (c19:PySem.W.codeIn K cd19 "served"=true) (k19:PySem.W.keepIn K (.ref f19)=true)
  (a20:PySem.W.nsIn K mainGlobals "_law_cell"=some (some (.ref f20))) (l20:K.lookup f20=some ⟨oc20,od20,.func (PySem.W.fnOf "_law_cell" "_law_cell" (defArgs bF) (defBody bF) (defScope bF) .none kV20 dc20 pm20 an20 cd20 ct20),sl20⟩) (c20:PySem.W.codeIn K cd20 "_law_cell"=true) (k20:PySem.W.keepIn K (.ref f20)=true)
  (a21:PySem.W.nsIn K mainGlobals "_law_rooms"=some (some (.ref f21))) (l21:K.lookup f21=some ⟨oc21,od21,.func (PySem.W.fnOf "_law_rooms" "_law_rooms" (defArgs aI) (defBody aI) (defScope aI) .none kV21 dc21 pm21 an21 cd21 ct21),sl21⟩) (c21:PySem.W.codeIn K cd21 "_law_rooms"=true) (k21:PySem.W.keepIn K (.ref f21)=true)
  (a22:PySem.W.nsIn K mainGlobals "_law_line"=some (some (.ref f22))) (l22:K.lookup f22=some ⟨oc22,od22,.func (PySem.W.fnOf "_law_line" "_law_line" (defArgs am) (defBody am) (defScope am) .none kV22 dc22 pm22 an22 cd22 ct22),sl22⟩) (c22:PySem.W.codeIn K cd22 "_law_line"=true) (k22:PySem.W.keepIn K (.ref f22)=true)
  (a23:PySem.W.nsIn K mainGlobals "_law_copy"=some (some (.ref f23))) (l23:K.lookup f23=some ⟨oc23,od23,.func (PySem.W.fnOf "_law_copy" "_law_copy" (defArgs cG) (defBody cG) (defScope cG) .none kV23 dc23 pm23 an23 cd23 ct23),sl23⟩) (c23:PySem.W.codeIn K cd23 "_law_copy"=true) (k23:PySem.W.keepIn K (.ref f23)=true)
  (a24:PySem.W.nsIn K mainGlobals "_law_due"=some (some (.ref f24))) (l24:K.lookup f24=some ⟨oc24,od24,.func (PySem.W.fnOf "_law_due" "_law_due" (defArgs ai) (defBody ai) (defScope ai) .none kV24 dc24 pm24 an24 cd24 ct24),sl24⟩) (c24:PySem.W.codeIn K cd24 "_law_due"=true) (k24:PySem.W.keepIn K (.ref f24)=true)
  (a25:PySem.W.nsIn K mainGlobals "_law_added"=some (some (.ref f25))) (l25:K.lookup f25=some ⟨oc25,od25,.func (PySem.W.fnOf "_law_added" "_law_added" (defArgs bg) (defBody bg) (defScope bg) .none kV25 dc25 pm25 an25 cd25 ct25),sl25⟩) (c25:PySem.W.codeIn K cd25 "_law_added"=true) (k25:PySem.W.keepIn K (.ref f25)=true)
  (a26:PySem.W.nsIn K mainGlobals "_law_pair"=some (some (.ref f26))) (l26:K.lookup f26=some ⟨oc26,od26,.func (PySem.W.fnOf "_law_pair" "_law_pair" (defArgs ao) (defBody ao) (defScope ao) .none kV26 dc26 pm26 an26 cd26 ct26),sl26⟩) (c26:PySem.W.codeIn K cd26 "_law_pair"=true) (k26:PySem.W.keepIn K (.ref f26)=true)
  (a27:PySem.W.nsIn K mainGlobals "_law_changed"=some (some (.ref f27))) (l27:K.lookup f27=some ⟨oc27,od27,.func (PySem.W.fnOf "_law_changed" "_law_changed" (defArgs af) (defBody af) (defScope af) .none kV27 dc27 pm27 an27 cd27 ct27),sl27⟩) (c27:PySem.W.codeIn K cd27 "_law_changed"=true) (k27:PySem.W.keepIn K (.ref f27)=true)
  (a28:PySem.W.nsIn K mainGlobals "_law_joined"=some (some (.ref f28))) (l28:K.lookup f28=some ⟨oc28,od28,.func (PySem.W.fnOf "_law_joined" "_law_joined" (defArgs au) (defBody au) (defScope au) .none kV28 dc28 pm28 an28 cd28 ct28),sl28⟩) (c28:PySem.W.codeIn K cd28 "_law_joined"=true) (k28:PySem.W.keepIn K (.ref f28)=true)
  (a29:PySem.W.nsIn K mainGlobals "_law_turned"=some (some (.ref f29))) (l29:K.lookup f29=some ⟨oc29,od29,.func (PySem.W.fnOf "_law_turned" "_law_turned" (defArgs ba) (defBody ba) (defScope ba) .none kV29 dc29 pm29 an29 cd29 ct29),sl29⟩) (c29:PySem.W.codeIn K cd29 "_law_turned"=true) (k29:PySem.W.keepIn K (.ref f29)=true)
  (a30:PySem.W.nsIn K mainGlobals "_law_let"=some (some (.ref f30))) (l30:K.lookup f30=some ⟨oc30,od30,.func (PySem.W.fnOf "_law_let" "_law_let" (defArgs aB) (defBody aB) (defScope aB) .none kV30 dc30 pm30 an30 cd30 ct30),sl30⟩) (c30:PySem.W.codeIn K cd30 "_law_let"=true) (k30:PySem.W.keepIn K (.ref f30)=true)
  (a31:PySem.W.nsIn K mainGlobals "law"=some (some (.ref f31))) (l31:K.lookup f31=some ⟨oc31,od31,.func (PySem.W.fnOf "law" "law" (defArgs aC) (defBody aC) (defScope aC) .none kV31 dc31 pm31 an31 cd31 ct31),sl31⟩) (c31:PySem.W.codeIn K cd31 "law"=true) (k31:PySem.W.keepIn K (.ref f31)=true)
  (z_dict:PySem.W.nsIn K mainGlobals "dict"=some none)
  (z_len:PySem.W.nsIn K mainGlobals "len"=some none)
  (z_range:PySem.W.nsIn K mainGlobals "range"=some none)
  (z_abs:PySem.W.nsIn K mainGlobals "abs"=some none)
  (z_max:PySem.W.nsIn K mainGlobals "max"=some none)
  (z_min:PySem.W.nsIn K mainGlobals "min"=some none)
  (z_isinstance:PySem.W.nsIn K mainGlobals "isinstance"=some none)
  (z_int:PySem.W.nsIn K mainGlobals "int"=some none)
  (z_bool:PySem.W.nsIn K mainGlobals "bool"=some none)
  (z_str:PySem.W.nsIn K mainGlobals "str"=some none)
  (z_list:PySem.W.nsIn K mainGlobals "list"=some none)
  (z_tuple:PySem.W.nsIn K mainGlobals "tuple"=some none)
  (z_sum:PySem.W.nsIn K mainGlobals "sum"=some none)
  (z_all:PySem.W.nsIn K mainGlobals "all"=some none)
  (z_enumerate:PySem.W.nsIn K mainGlobals "enumerate"=some none)
  (z_zip:PySem.W.nsIn K mainGlobals "zip"=some none)
  (z_ValueError:PySem.W.nsIn K mainGlobals "ValueError"=some none)
  (z_any:PySem.W.nsIn K mainGlobals "any"=some none)
  (z_set:PySem.W.nsIn K mainGlobals "set"=some none)
  (z_sorted:PySem.W.nsIn K mainGlobals "sorted"=some none)
  : ∃ fd:FuncData,(∀ (s:Shared) (v:Value),BindsTo s fd ⟨[v],[]⟩ [("_law_script",v)])∧∀ base:Heap,K.In base→base.Ns mainGlobals mg→FnOk l.prog w K mg base CX0 7 fa fd ["_law_script"] (zN K):=by
 have e:=hfa.symm.trans (PySem.W.mg_of X G a31)
 cases e
 have F1:=jf (st:=bL) l1 c1 k1
 have F2:=jf (st:=aY) l2 c2 k2
 have F3:=jf (st:=bQ) l3 c3 k3
 have F4:=jf (st:=bv) l4 c4 k4
 have F5:=jf (st:=bN) l5 c5 k5
 have F6:=jf (st:=aV) l6 c6 k6
 have F7:=jf (st:=aq) l7 c7 k7
 have F8:=jf (st:=aW) l8 c8 k8
 have F9:=jf (st:=bT) l9 c9 k9
 have F10:=jf (st:=aH) l10 c10 k10
 have F11:=jf (st:=bw) l11 c11 k11
 have F12:=jf (st:=aZ) l12 c12 k12
 have F13:=jf (st:=av) l13 c13 k13
 have F14:=jf (st:=ah) l14 c14 k14
 have F15:=jf (st:=bn) l15 c15 k15
 have F16:=jf (st:=aX) l16 c16 k16
 have F17:=jf (st:=aO) l17 c17 k17
 have F18:=jf (st:=ck) l18 c18 k18
 have F19:=jf (st:=aG) l19 c19 k19
 have F20:=jf (st:=bF) l20 c20 k20
 have F21:=jf (st:=aI) l21 c21 k21
 have F22:=jf (st:=am) l22 c22 k22
 have F23:=jf (st:=cG) l23 c23 k23
 have F24:=jf (st:=ai) l24 c24 k24
 have F25:=jf (st:=bg) l25 c25 k25
 have F26:=jf (st:=ao) l26 c26 k26
 have F27:=jf (st:=af) l27 c27 k27
 have F28:=jf (st:=au) l28 c28 k28
 have F29:=jf (st:=ba) l29 c29 k29
 have F30:=jf (st:=aB) l30 c30 k30
 have F31:=jf (st:=aC) l31 c31 k31
 have b1:=F1.binds (ps:=["thing"]) fun _ _ _ _ _ _ us hl=>match us,hl with | [_],_=>rfl
 have b2:=F2.binds (ps:=["thing","many"]) fun _ _ _ _ _ _ us hl=>match us,hl with | [_,_],_=>rfl
 have b3:=F3.binds (ps:=["entry","grant"]) fun _ _ _ _ _ _ us hl=>match us,hl with | [_,_],_=>rfl
 have b4:=F4.binds (ps:=["some","allowed"]) fun _ _ _ _ _ _ us hl=>match us,hl with | [_,_],_=>rfl
 have b5:=F5.binds (ps:=["thing"]) fun _ _ _ _ _ _ us hl=>match us,hl with | [_],_=>rfl
 have b6:=F6.binds (ps:=["entry","grant","route"]) fun _ _ _ _ _ _ us hl=>match us,hl with | [_,_,_],_=>rfl
 have b7:=F7.binds (ps:=["routes","place"]) fun _ _ _ _ _ _ us hl=>match us,hl with | [_,_],_=>rfl
 have b8:=F8.binds (ps:=["rooms","routes"]) fun _ _ _ _ _ _ us hl=>match us,hl with | [_,_],_=>rfl
 have b9:=F9.binds (ps:=["entry","cut"]) fun _ _ _ _ _ _ us hl=>match us,hl with | [_,_],_=>rfl
 have b10:=F10.binds (ps:=["rooms","line","granted","cut"]) fun _ _ _ _ _ _ us hl=>match us,hl with | [_,_,_,_],_=>rfl
 have b11:=F11.binds (ps:=["rooms","line","granted","cut"]) fun _ _ _ _ _ _ us hl=>match us,hl with | [_,_,_,_],_=>rfl
 have b12:=F12.binds (ps:=["rooms","line","granted","routes","cuts"]) fun _ _ _ _ _ _ us hl=>match us,hl with | [_,_,_,_,_],_=>rfl
 have b13:=F13.binds (ps:=["line","flows","place"]) fun _ _ _ _ _ _ us hl=>match us,hl with | [_,_,_],_=>rfl
 have b14:=F14.binds (ps:=["line","flows","entry"]) fun _ _ _ _ _ _ us hl=>match us,hl with | [_,_,_],_=>rfl
 have b15:=F15.binds (ps:=["reached","place"]) fun _ _ _ _ _ _ us hl=>match us,hl with | [_,_],_=>rfl
 have b16:=F16.binds (ps:=["flows","left","wanted","moves"]) fun _ _ _ _ _ _ us hl=>match us,hl with | [_,_,_,_],_=>rfl
 have b17:=F17.binds (ps:=["line","flows","left","entry"]) fun _ _ _ _ _ _ us hl=>match us,hl with | [_,_,_,_],_=>rfl
 have b18:=F18.binds (ps:=["flow"]) fun _ _ _ _ _ _ us hl=>match us,hl with | [_],_=>rfl
 have b19:=F19.binds (ps:=["rooms","line"]) fun _ _ _ _ _ _ us hl=>match us,hl with | [_,_],_=>rfl
 have b20:=F20.binds (ps:=["_law_script","_law_k"]) fun _ _ _ _ _ _ us hl=>match us,hl with | [_,_],_=>rfl
 have b21:=F21.binds (ps:=["_law_script"]) fun _ _ _ _ _ _ us hl=>match us,hl with | [_],_=>rfl
 have b22:=F22.binds (ps:=["_law_script","_law_many"]) fun _ _ _ _ _ _ us hl=>match us,hl with | [_,_],_=>rfl
 have b23:=F23.binds (ps:=["_law_line_here"]) fun _ _ _ _ _ _ us hl=>match us,hl with | [_],_=>rfl
 have b24:=F24.binds (ps:=["_law_rooms_here","_law_line_here"]) fun _ _ _ _ _ _ us hl=>match us,hl with | [_,_],_=>rfl
 have b25:=F25.binds (ps:=["_law_route","_law_place","_law_many"]) fun _ _ _ _ _ _ us hl=>match us,hl with | [_,_,_],_=>rfl
 have b26:=F26.binds (ps:=["_law_line_here","_law_routes"]) fun _ _ _ _ _ _ us hl=>match us,hl with | [_,_],_=>rfl
 have b27:=F27.binds (ps:=["_law_line_here","_law_routes"]) fun _ _ _ _ _ _ us hl=>match us,hl with | [_,_],_=>rfl
 have b28:=F28.binds (ps:=["_law_cuts"]) fun _ _ _ _ _ _ us hl=>match us,hl with | [_],_=>rfl
 have b29:=F29.binds (ps:=["_law_cuts"]) fun _ _ _ _ _ _ us hl=>match us,hl with | [_],_=>rfl
 have b30:=F30.binds (ps:=["_law_rooms_here","_law_line_here","_law_granted","_law_routes","_law_cuts"]) fun _ _ _ _ _ _ us hl=>match us,hl with | [_,_,_,_,_],_=>rfl
 have M:Mg mg:=⟨PySem.W.mg_none_of X G z_len,PySem.W.mg_none_of X G z_range,PySem.W.mg_none_of X G z_abs,PySem.W.mg_none_of X G z_max,PySem.W.mg_none_of X G z_min,PySem.W.mg_none_of X G z_isinstance,PySem.W.mg_none_of X G z_int,PySem.W.mg_none_of X G z_bool,PySem.W.mg_none_of X G z_str,PySem.W.mg_none_of X G z_list,PySem.W.mg_none_of X G z_tuple,PySem.W.mg_none_of X G z_sum,PySem.W.mg_none_of X G z_all,PySem.W.mg_none_of X G z_enumerate,PySem.W.mg_none_of X G z_zip,PySem.W.mg_none_of X G z_ValueError,PySem.W.mg_none_of X G z_any,PySem.W.mg_none_of X G z_set,PySem.W.mg_none_of X G z_sorted⟩
 refine⟨PySem.W.fnOf "law" "law" (defArgs aC) (defBody aC) (defScope aC) .none kV31 dc31 pm31 an31 cd31 ct31,fun s v=>.of_eq rfl,fun base _ _=>?_⟩
 have m_dict:mg "dict"=none:=PySem.W.mg_none_of X G z_dict
 have bR:Cal l.prog w K mg base CX0 "is_whole" 1 ["thing"] (uS K):=⟨⟨_,_,A7 F1 M,b1,k1,PySem.W.mg_of X G a1⟩⟩
 have gq:Cal l.prog w K mg base CX0 "is_list_of" 1 ["thing","many"] (xF K):=⟨⟨_,_,zy F2 M,b2,k2,PySem.W.mg_of X G a2⟩⟩
 have i0:Cal l.prog w K mg base CX0 "is_grant" 2 ["entry","grant"] (x6 K):=⟨⟨_,_,Bo F3 M bR,b3,k3,PySem.W.mg_of X G a3⟩⟩
 have cB:Cal l.prog w K mg base CX0 "are_places" 2 ["some","allowed"] (vJ K):=⟨⟨_,_,zA F4 M bR,b4,k4,PySem.W.mg_of X G a4⟩⟩
 have jH:Cal l.prog w K mg base CX0 "is_pair" 2 ["thing"] (yx K):=⟨⟨_,_,Di F5 M bR,b5,k5,PySem.W.mg_of X G a5⟩⟩
 have i4:Cal l.prog w K mg base CX0 "is_route" 3 ["entry","grant","route"] (xQ K):=⟨⟨_,_,BJ F6 M cB jH,b6,k6,PySem.W.mg_of X G a6⟩⟩
 have dM:Cal l.prog w K mg base CX0 "amount_through" 1 ["routes","place"] (wg K):=⟨⟨_,_,xh F7 M,b7,k7,PySem.W.mg_of X G a7⟩⟩
 have dY:Cal l.prog w K mg base CX0 "keep_to_rooms" 2 ["rooms","routes"] (AG K):=⟨⟨_,_,xZ F8 M dM,b8,k8,PySem.W.mg_of X G a8⟩⟩
 have eX:Cal l.prog w K mg base CX0 "is_within" 1 ["entry","cut"] (wI K):=⟨⟨_,_,AU F9 M,b9,k9,PySem.W.mg_of X G a9⟩⟩
 have kQ:Cal l.prog w K mg base CX0 "is_cut" 3 ["rooms","line","granted","cut"] (AF K):=⟨⟨_,_,EJ F10 M cB eX,b10,k10,PySem.W.mg_of X G a10⟩⟩
 have il:Cal l.prog w K mg base CX0 "cut_holds" 4 ["rooms","line","granted","cut"] (xA K):=⟨⟨_,_,Ax F11 M kQ,b11,k11,PySem.W.mg_of X G a11⟩⟩
 have jU:Cal l.prog w K mg base CX0 "lets_by" 5 ["rooms","line","granted","routes","cuts"] (AD K):=⟨⟨_,_,CY F12 M gq i0 i4 dY il,b12,k12,PySem.W.mg_of X G a12⟩⟩
 have iR:Cal l.prog w K mg base CX0 "led_over" 1 ["line","flows","place"] (Dy K):=⟨⟨_,_,Bu F13 M,b13,k13,PySem.W.mg_of X G a13⟩⟩
 have gh:Cal l.prog w K mg base CX0 "reached_by" 2 ["line","flows","entry"] (CL K):=⟨⟨_,_,zH F14 M m_dict iR,b14,k14,PySem.W.mg_of X G a14⟩⟩
 have iT:Cal l.prog w K mg base CX0 "moves_to" 1 ["reached","place"] (yN K):=⟨⟨_,_,Be F15 M,b15,k15,PySem.W.mg_of X G a15⟩⟩
 have oV:Cal l.prog w K mg base CX0 "lead" 1 ["flows","left","wanted","moves"] (Az K):=⟨⟨_,_,HL F16 M,b16,k16,PySem.W.mg_of X G a16⟩⟩
 have my:Cal l.prog w K mg base CX0 "serve" 3 ["line","flows","left","entry"] (yy K):=⟨⟨_,_,FD F17 M gh iT oV,b17,k17,PySem.W.mg_of X G a17⟩⟩
 have iX:Cal l.prog w K mg base CX0 "route_of" 1 ["flow"] (yG K):=⟨⟨_,_,Br F18 M,b18,k18,PySem.W.mg_of X G a18⟩⟩
 have kZ:Cal l.prog w K mg base CX0 "served" 4 ["rooms","line"] (xN K):=⟨⟨_,_,DQ F19 M my iX,b19,k19,PySem.W.mg_of X G a19⟩⟩
 have bP:Cal l.prog w K mg base CX0 "_law_cell" 1 ["_law_script","_law_k"] (yd K):=⟨⟨_,_,BB F20 M,b20,k20,PySem.W.mg_of X G a20⟩⟩
 have io:Cal l.prog w K mg base CX0 "_law_rooms" 2 ["_law_script"] (yz K):=⟨⟨_,_,AO F21 M bP,b21,k21,PySem.W.mg_of X G a21⟩⟩
 have i7:Cal l.prog w K mg base CX0 "_law_line" 2 ["_law_script","_law_many"] (Am K):=⟨⟨_,_,BS F22 M bP,b22,k22,PySem.W.mg_of X G a22⟩⟩
 have di:Cal l.prog w K mg base CX0 "_law_copy" 1 ["_law_line_here"] (yh K):=⟨⟨_,_,BC F23 M,b23,k23,PySem.W.mg_of X G a23⟩⟩
 have jZ:Cal l.prog w K mg base CX0 "_law_due" 1 ["_law_rooms_here","_law_line_here"] (CM K):=⟨⟨_,_,CD F24 M,b24,k24,PySem.W.mg_of X G a24⟩⟩
 have cQ:Cal l.prog w K mg base CX0 "_law_added" 1 ["_law_route","_law_place","_law_many"] (yF K fun x=>decide (0<x.2)):=⟨⟨_,_,zS F25 M m_dict,b25,k25,PySem.W.mg_of X G a25⟩⟩
 have i6:Cal l.prog w K mg base CX0 "_law_pair" 1 ["_law_line_here","_law_routes"] (yU K):=⟨⟨_,_,A6 F26 M,b26,k26,PySem.W.mg_of X G a26⟩⟩
 have dH:Cal l.prog w K mg base CX0 "_law_changed" 2 ["_law_line_here","_law_routes"] (CZ K):=⟨⟨_,_,yT F27 M i6 cQ,b27,k27,PySem.W.mg_of X G a27⟩⟩
 have gN:Cal l.prog w K mg base CX0 "_law_joined" 1 ["_law_cuts"] (yH K):=⟨⟨_,_,zF F28 M,b28,k28,PySem.W.mg_of X G a28⟩⟩
 have gO:Cal l.prog w K mg base CX0 "_law_turned" 1 ["_law_cuts"] (yY K):=⟨⟨_,_,zB F29 M,b29,k29,PySem.W.mg_of X G a29⟩⟩
 have de:Cal l.prog w K mg base CX0 "_law_let" 6 ["_law_rooms_here","_law_line_here","_law_granted","_law_routes","_law_cuts"] (v9 K):=⟨⟨_,_,Du F30 M jU di,b30,k30,PySem.W.mg_of X G a30⟩⟩
 exact JC F31 M kZ io i7 di jZ dH gN gO de
theorem walk {l:PySem.W.OpenLaw} {q:Program} {loose:List Str} {XP:(Str→Option Value)→Heap→Prop} {YP:World→Heap→Prop} {d:DefRec} {K:Params→PySem.W.Frag} (hn:l.most=some 63) (hdf:d.params.defaults=[])
  (hY:∀ (w:World) (h:Heap),YP w h→(K w.params).In h)
  (F:∀ (w:World) (mg:Str→Option Value) (fa:Addr) (h:Heap),(K w.params).In h→h.Ns mainGlobals mg→mg d.name=some (.ref fa) →
   ∃ fd:FuncData,(∀ (s:Shared) (u:Value),BindsTo s fd ⟨[u],[]⟩ [("_law_script",u)])∧∀ base:Heap,(K w.params).In base→base.Ns mainGlobals mg→FnOk l.prog w (K w.params) mg base CX0 7 fa fd ["_law_script"] (zN (K w.params))) :
  PySem.W.WalkO q loose XP YP l.row.toRowW d [] (fun f vs=>PySem.call f vs) :=
 L2.walk_of (n:=63) (k:=7) (x:="_law_script") (CX:=fun _=>CX0) (sp:=fun w=>zN (K w.params)) hn (by decide) hdf ⟨rfl,by decide,by decide⟩ hY F (fun _ _ a ns hl _ hS=>⟨a,ns,rfl,hS,hl,fun _=>rfl⟩) fun _ _ _ _ _ z=>z
end My
namespace PySem.W.Fast
theorem tw10504293457215369621:True:=⟨⟩
theorem tw11303761397159237146:True:=⟨⟩
theorem tw7385651123705389929:True:=⟨⟩
theorem tw9109257114376086806:True:=⟨⟩
theorem tw3390272811269933298:True:=⟨⟩
theorem tw14888976049862316552:True:=⟨⟩
theorem tw16708109113674721742:True:=⟨⟩
theorem tw8330800465425344987:True:=⟨⟩
theorem tw17095194907268236354:True:=⟨⟩
theorem tw1058932239621611165:True:=⟨⟩
theorem tw11863986048083864238:True:=⟨⟩
theorem tw14075947996818339689:True:=⟨⟩
theorem tw15979741371008158323:True:=⟨⟩
theorem tw15319822643393554582:True:=⟨⟩
theorem tw670924854300236995:True:=⟨⟩
theorem tw7154049468292705645:True:=⟨⟩
theorem tw16102232099570544086:True:=⟨⟩
theorem tw376105682644517348:True:=⟨⟩
theorem tw10540028291099705436:True:=⟨⟩
theorem tw13866901220906748061:True:=⟨⟩
theorem tw313020124901898271:True:=⟨⟩
theorem tw5705655509564034907:True:=⟨⟩
theorem tw1109569838620156130:True:=⟨⟩
theorem tw10810076682576818032:True:=⟨⟩
theorem tw14284151170946622432:True:=⟨⟩
theorem tw1515932258375022666:True:=⟨⟩
theorem tw10498994210358908843:True:=⟨⟩
theorem tw4016535306230293497:True:=⟨⟩
theorem tw136236687626278788:True:=⟨⟩
theorem tw8119124194330626131:True:=⟨⟩
theorem tw3445350446808349213:True:=⟨⟩
theorem tw17777587087637885447:True:=⟨⟩
theorem tw16983464185306665832:True:=⟨⟩
theorem tw4023375649485075350:True:=⟨⟩
theorem tw8265645263893687581:True:=⟨⟩
theorem tw9569884071038091482:True:=⟨⟩
theorem tw4391738036603356831:True:=⟨⟩
theorem tw14998491430343936397:True:=⟨⟩
theorem tw8890940767193333352:True:=⟨⟩
theorem tw11483570210795500846:True:=⟨⟩
theorem tw13238169390910009095:True:=⟨⟩
theorem tw2625504945170714242:True:=⟨⟩
theorem tw4821545897740277651:True:=⟨⟩
theorem tw16914990477717267179:True:=⟨⟩
theorem tw12396004543800816733:True:=⟨⟩
theorem tw14159818608192005274:True:=⟨⟩
theorem tw14732411498006490586:True:=⟨⟩
theorem tw4523967923662563256:True:=⟨⟩
theorem tw9630107092148501858:True:=⟨⟩
theorem tw9010029912483818883:True:=⟨⟩
theorem tw13401555509309003229:True:=⟨⟩
theorem tw3089195613212539951:True:=⟨⟩
theorem tw7973452746347049459:True:=⟨⟩
theorem tw3372467778756670562:True:=⟨⟩
theorem tw6404551641068727142:True:=⟨⟩
theorem tw15332766752269346935:True:=⟨⟩
theorem tw11536798947245574192:True:=⟨⟩
theorem tw5658580644059501562:True:=⟨⟩
theorem tw5538295678392841013:True:=⟨⟩
theorem tw16554610867166751828:True:=⟨⟩
theorem tw16305603837156876637:True:=⟨⟩
theorem tw13315009175720443718:True:=⟨⟩
theorem tw9759224198964294826:True:=⟨⟩
theorem tw14809564853034564235:True:=⟨⟩
theorem tw1080776869466843273:True:=⟨⟩
theorem tw5093826473686540554:True:=⟨⟩
theorem tw11209306472266579832:True:=⟨⟩
theorem tw16099060868232023877:True:=⟨⟩
theorem tw970149641145589442:True:=⟨⟩
theorem tw11239140926735606482:True:=⟨⟩
theorem tw11926149377492902310:True:=⟨⟩
theorem tw18159352631487872425:True:=⟨⟩
theorem tw7570374384442583312:True:=⟨⟩
theorem tw7820677280900435118:True:=⟨⟩
theorem tw10653048754116776035:True:=⟨⟩
theorem tw3337936377935290330:True:=⟨⟩
theorem tw1512205014595801099:True:=⟨⟩
theorem tw13370205423029827283:True:=⟨⟩
theorem tw2756116173022601933:True:=⟨⟩
theorem tw6873772573780935603:True:=⟨⟩
theorem tw1950910044091714558:True:=⟨⟩
theorem tw18305556093036881693:True:=⟨⟩
theorem tw9982201425391958083:True:=⟨⟩
theorem tw2048707689405440228:True:=⟨⟩
theorem tw9949546862684671320:True:=⟨⟩
theorem tw16529379619236487627:True:=⟨⟩
theorem tw10253024439455123577:True:=⟨⟩
theorem tw16771803045217833670:True:=⟨⟩
theorem tw6897018710905092592:True:=⟨⟩
theorem tw17198741201749889411:True:=⟨⟩
theorem tw8223720720687873574:True:=⟨⟩
theorem tw7273767553953220683:True:=⟨⟩
theorem tw2610188753489524440:True:=⟨⟩
theorem tw14145589759624243924:True:=⟨⟩
theorem tw13360036974916436452:True:=⟨⟩
theorem tw1844187895925738275:True:=⟨⟩
theorem tw1939366663984244017:True:=⟨⟩
theorem tw15815470544699832174:True:=⟨⟩
theorem tw15617670541855957329:True:=⟨⟩
theorem tw14330204698931536937:True:=⟨⟩
theorem tw6445229563032908198:True:=⟨⟩
theorem tw4059692454100401102:True:=⟨⟩
theorem tw15650100119993334526:True:=⟨⟩
theorem tw7176566744469482698:True:=⟨⟩
theorem tw8152690219828720606:True:=⟨⟩
theorem tw10096740213876701515:True:=⟨⟩
theorem tw8716460325761012155:True:=⟨⟩
theorem tw12450550223230919134:True:=⟨⟩
theorem tw6378866883719924931:True:=⟨⟩
theorem tw6251631169090358660:True:=⟨⟩
theorem tw15435252888444678936:True:=⟨⟩
theorem tw10295611079380842515:True:=⟨⟩
theorem tw4039076892747315375:True:=⟨⟩
theorem tw1085335962959477704:True:=⟨⟩
theorem tw8567769455664232147:True:=⟨⟩
theorem tw13353407289527257166:True:=⟨⟩
theorem tw4335838448547586778:True:=⟨⟩
theorem tw9166916126114934157:True:=⟨⟩
theorem tw16390415097628850440:True:=⟨⟩
theorem tw16659613396327844719:True:=⟨⟩
theorem tw10688151570406127100:True:=⟨⟩
theorem tw3597923838280189051:True:=⟨⟩
theorem tw8651185329140288709:True:=⟨⟩
theorem tw10312469576810883167:True:=⟨⟩
theorem tw13727797425825056777:True:=⟨⟩
theorem tw8163677159616166228:True:=⟨⟩
theorem tw1743787436853204397:True:=⟨⟩
theorem tw14515428556841607152:True:=⟨⟩
theorem tw7084739602987590965:True:=⟨⟩
theorem tw3180352827829957361:True:=⟨⟩
theorem tw7566470013765931005:True:=⟨⟩
theorem tw10184618316035558215:True:=⟨⟩
theorem tw8475124213735780262:True:=⟨⟩
theorem tw6631358844593997589:True:=⟨⟩
theorem tw8321210981726193335:True:=⟨⟩
theorem tw3408014278967236884:True:=⟨⟩
theorem tw9961669477715452208:True:=⟨⟩
theorem tw12017678132227561780:True:=⟨⟩
theorem tw7087373244648283239:True:=⟨⟩
theorem tw18238220012867751639:True:=⟨⟩
theorem tw6398357780506432042:True:=⟨⟩
theorem tw17410787582015149740:True:=⟨⟩
theorem tw7314850069943338135:True:=⟨⟩
theorem tw16066207348350402426:True:=⟨⟩
theorem tw16940572471908537101:True:=⟨⟩
theorem tw14930200439215885697:True:=⟨⟩
theorem tw16159841195628618200:True:=⟨⟩
theorem tw11743455872712575832:True:=⟨⟩
theorem tw8581204917546669509:True:=⟨⟩
theorem tw2118215796117842294:True:=⟨⟩
theorem tw13730121643678846737:True:=⟨⟩
theorem tw14866757732243436173:True:=⟨⟩
theorem tw6394633035161562782:True:=⟨⟩
theorem tw10012961685079446837:True:=⟨⟩
theorem tw2714248657870304782:True:=⟨⟩
theorem tw13112259855925453431:True:=⟨⟩
theorem tw16504739349759127219:True:=⟨⟩
theorem tw10547009752468348279:True:=⟨⟩
theorem tw3255390033968095009:True:=⟨⟩
theorem tw11030356267782537433:True:=⟨⟩
theorem tw5020724578339668280:True:=⟨⟩
theorem tw13766719421408420272:True:=⟨⟩
theorem tw7790635187761166456:True:=⟨⟩
theorem tw15072427814465856677:True:=⟨⟩
theorem tw13840892898477110258:True:=⟨⟩
theorem tw6135785929990048419:True:=⟨⟩
theorem tw7710676389838135414:True:=⟨⟩
theorem tw16462521712971530975:True:=⟨⟩
theorem tw5452324905726089017:True:=⟨⟩
theorem tw12784592008194514893:True:=⟨⟩
theorem tw805138217317379444:True:=⟨⟩
theorem tw17088112733453935020:True:=⟨⟩
theorem tw5388952204797035653:True:=⟨⟩
theorem tw17045410992134718331:True:=⟨⟩
theorem tw11927122457764968109:True:=⟨⟩
theorem tw14220562009834406857:True:=⟨⟩
theorem tw14576631242208543612:True:=⟨⟩
theorem tw18332959998268349987:True:=⟨⟩
theorem tw14477541475116904604:True:=⟨⟩
theorem tw1989003058893215714:True:=⟨⟩
theorem tw16186232061018103756:True:=⟨⟩
theorem tw5807195270466025623:True:=⟨⟩
theorem tw14860241536338786545:True:=⟨⟩
theorem tw1275382559894762441:True:=⟨⟩
theorem tw7765038609073254662:True:=⟨⟩
theorem tw6687306274495444390:True:=⟨⟩
theorem tw9648331927433245496:True:=⟨⟩
theorem tw4510785459337021170:True:=⟨⟩
theorem tw12329755566781645553:True:=⟨⟩
theorem tw9044057394339521680:True:=⟨⟩
theorem tw15604595103374384721:True:=⟨⟩
theorem tw12208895458548750232:True:=⟨⟩
theorem tw15854728312052172551:True:=⟨⟩
theorem tw942404486914998059:True:=⟨⟩
theorem tw13367712522823521099:True:=⟨⟩
theorem tw9720332577325749844:True:=⟨⟩
theorem tw6231498166100876556:True:=⟨⟩
theorem tw17184364563887939969:True:=⟨⟩
theorem tw1190682869707940000:True:=⟨⟩
theorem tw9113055688072344107:True:=⟨⟩
theorem tw13611767991979110166:True:=⟨⟩
theorem tw13197168588555945054:True:=⟨⟩
theorem tw1646595432873717466:True:=⟨⟩
theorem tw7732545607368706391:True:=⟨⟩
theorem tw9863412308653469562:True:=⟨⟩
theorem tw10232500718673360064:True:=⟨⟩
theorem tw15959839538233125712:True:=⟨⟩
theorem tw4141162860083041723:True:=⟨⟩
end PySem.W.Fast
open PySem PySem.W PyProof.Rows
set_option maxRecDepth 100000 in
set_option maxHeartbeats 0 in
theorem PySem.Challenge.cw_tariffgate_k66_said_otherwise_holds : PySem.Challenge.rw_tariffgate_k66_said_otherwise.Holds := by
 w_on; o_law; k_head; (case hw=>w_witness2)
 k_fill
 refine My.walk (l:=PySem.Challenge.rw_tariffgate_k66_said_otherwise) rfl rfl (fun w h Y=>PySem.W.kIn_of Y) ?F
 case F =>
  intro w mg fa h KX G hmg
  refine' My.all_mk KX G hmg ?a1 ?l1 ?c1 ?k1 ?a2 ?l2 ?c2 ?k2 ?a3 ?l3 ?c3 ?k3 ?a4 ?l4 ?c4 ?k4 ?a5 ?l5 ?c5 ?k5 ?a6 ?l6 ?c6 ?k6 ?a7 ?l7 ?c7 ?k7 ?a8 ?l8 ?c8 ?k8 ?a9 ?l9 ?c9 ?k9 ?a10 ?l10 ?c10 ?k10 ?a11 ?l11 ?c11 ?k11 ?a12 ?l12 ?c12 ?k12 ?a13 ?l13 ?c13 ?k13 ?a14 ?l14 ?c14 ?k14 ?a15 ?l15 ?c15 ?k15 ?a16 ?l16 ?c16 ?k16 ?a17 ?l17 ?c17 ?k17 ?a18 ?l18 ?c18 ?k18 ?a19 ?l19 ?c19 ?k19 ?a20 ?l20 ?c20 ?k20 ?a21 ?l21 ?c21 ?k21 ?a22 ?l22 ?c22 ?k22 ?a23 ?l23 ?c23 ?k23 ?a24 ?l24 ?c24 ?k24 ?a25 ?l25 ?c25 ?k25 ?a26 ?l26 ?c26 ?k26 ?a27 ?l27 ?c27 ?k27 ?a28 ?l28 ?c28 ?k28 ?a29 ?l29 ?c29 ?k29 ?a30 ?l30 ?c30 ?k30 ?a31 ?l31 ?c31 ?k31 ?z_dict ?z_len ?z_range ?z_abs ?z_max ?z_min ?z_isinstance ?z_int ?z_bool ?z_str ?z_list ?z_tuple ?z_sum ?z_all ?z_enumerate ?z_zip ?z_ValueError ?z_any ?z_set ?z_sorted
  case a1 | l1 | c1 | k1 | a2 | l2 | c2 | k2 | a3 | l3 | c3 | k3 | a4 | l4 | c4 | k4 | a5 | l5 | c5 | k5 | a6 | l6 | c6 | k6 | a7 | l7 | c7 | k7 | a8 | l8 | c8 | k8 | a9 | l9 | c9 | k9 | a10 | l10 | c10 | k10 | a11 | l11 | c11 | k11 | a12 | l12 | c12 | k12 | a13 | l13 | c13 | k13 | a14 | l14 | c14 | k14 | a15 | l15 | c15 | k15 | a16 | l16 | c16 | k16 | a17 | l17 | c17 | k17 | a18 | l18 | c18 | k18 | a19 | l19 | c19 | k19 | a20 | l20 | c20 | k20 | a21 | l21 | c21 | k21 | a22 | l22 | c22 | k22 | a23 | l23 | c23 | k23 | a24 | l24 | c24 | k24 | a25 | l25 | c25 | k25 | a26 | l26 | c26 | k26 | a27 | l27 | c27 | k27 | a28 | l28 | c28 | k28 | a29 | l29 | c29 | k29 | a30 | l30 | c30 | k30 | a31 | l31 | c31 | k31 | z_dict | z_len | z_range | z_abs | z_max | z_min | z_isinstance | z_int | z_bool | z_str | z_list | z_tuple | z_sum | z_all | z_enumerate | z_zip | z_ValueError | z_any | z_set | z_sorted=>first | k_is | k_exc | kit_is | rfl | kernel_rfl | decide
#print axioms PySem.Challenge.cw_tariffgate_k66_said_otherwise_holds

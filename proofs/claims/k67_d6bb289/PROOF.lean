import PyProof.Rows.All
import Wide.All
import OpenK.AllK
import Wide.FinOn
import Lean
import PyProof.EqAt
import PyProof.EqKinds
import PyProof.TupleCall
import PyProof.NeKinds
import PyProof.Draws
import PyProof.EnumMake
import PyProof.WalksEnum
import PyProof.Rows.EnumRows
import PyProof.ExcArgsOwn
import PyProof.ExcAttrAll.ValueError
import PyProof.ExcBaseAll.ValueError
import KE.KIsAll
import KE.KTryOn
import KE.RegKIsAll
import OpenK.KOwn
import PyProof.ZipIter
import PyProof.StrWalks
import PyProof.DictTable
import PyProof.SetNew
import PyProof.SetRoads
import PyProof.P3In
import PyProof.NeData
import PyProof.AttrMissSeq
import KE.KDictOf
import KE.KDictSum
import PyProof.Rows.SortStr
import PyProof.ExcInit
import PyProof.ExcClass2
import PyProof.InstStoreFacts
import KE.KLam
import KE.KNestM
import PyProof.Rows.SortRuns
import KE.KSortTup
import KE.KDictLaws
import KE.KDictList
import PyProof.ListRange
import PySem.Challenge.RW_tariffgate_k67_whole_no_other
set_option Elab.async false
set_option linter.all false
set_option maxRecDepth 100000
namespace L2
open PySem PySem.Spec PyProof.Rows
abbrev Key:=Sum Int Str
def vX:Key→Value→Bool
 | .inl k,v=>Value.isInt k v
 | .inr x,v=>Value.isStrOf x v
def IE (w:World):Key→Int
 | .inl k=>hashInt k
 | .inr x=>hashStr w x
theorem nW:∀ {k:Key} {v:Value},vX k v=true→(∃ i t,k=Sum.inl i∧v=Value.int i t)∨(∃ x t,k=Sum.inr x∧v=Value.str x t)
 | .inl i,v,h=>by
  obtain⟨t,e⟩:=Value.isInt_shape (k:=i) (v:=v) h
  exact .inl ⟨i,t,rfl,e⟩
 | .inr x,v,h=>by
  obtain⟨t,e⟩:=Value.isStrOf_shape (x:=x) (v:=v) h
  exact .inr ⟨x,t,rfl,e⟩
theorem Dl (i:Int) (t:Tok):vX (.inl i) (.int i t)=true:=by simp [vX,Value.isInt]
theorem DY (x:Str) (t:Tok):vX (.inr x) (.str x t)=true:=by simp [vX,Value.isStrOf]
theorem HR (a b:Int):decide ((Sum.inl a:Key)=Sum.inl b)=(a == b):=by
 by_cases e:a=b
 ·subst e; simp
 ·have h:¬ (Sum.inl a:Key)=Sum.inl b:=fun q=>e (Sum.inl.inj q)
  rw[decide_eq_false h]
  exact (beq_eq_false_iff_ne.mpr e).symm
theorem HG (a b:Str):decide ((Sum.inr a:Key)=Sum.inr b)=decide (a=b):=by
 by_cases e:a=b
 ·subst e; simp
 ·have h:¬ (Sum.inr a:Key)=Sum.inr b:=fun q=>e (Sum.inr.inj q)
  rw[decide_eq_false h,decide_eq_false e]
theorem G2 (a:Int) (b:Str):decide ((Sum.inl a:Key)=Sum.inr b)=false:=decide_eq_false (fun q=>nomatch q)
theorem HJ (a:Str) (b:Int):decide ((Sum.inr a:Key)=Sum.inl b)=false:=decide_eq_false (fun q=>nomatch q)
def mU (prog:Program) (w:World):PySem.KeyKind prog w Key where
 is:=vX
 hash:=IE w
 inj:=fun v a b ha hb=>by
  rcases nW ha with ⟨i,t,rfl,rfl⟩ | ⟨x,t,rfl,rfl⟩
  ·rcases nW hb with ⟨j,u,rfl,e⟩ | ⟨y,u,rfl,e⟩
   ·injection e with e1 _; rw[e1]
   ·exact nomatch e
  ·rcases nW hb with ⟨j,u,rfl,e⟩ | ⟨y,u,rfl,e⟩
   ·exact nomatch e
   ·injection e with e1 _; rw[e1]
 byValue:=fun k v h=>by
  rcases nW h with ⟨i,t,rfl,rfl⟩ | ⟨x,t,rfl,rfl⟩ <;> rfl
 pyHash:=fun hv h=>by
  rcases nW hv with ⟨i,t,rfl,rfl⟩ | ⟨x,t,rfl,rfl⟩
  ·exact wpAny_pyHash_int h
  ·exact wpAny_pyHash_str h
 eqBool:=fun hu hv h=>by
  rcases nW hu with ⟨i,t,rfl,rfl⟩ | ⟨x,t,rfl,rfl⟩
  ·rcases nW hv with ⟨j,u,rfl,rfl⟩ | ⟨y,u,rfl,rfl⟩
   ·rw[HR] at h; exact wpAny_eqBool_int h
   ·rw[G2] at h; exact SeqAt.EqAt.int_str i t y u _ _ _ _ h
  ·rcases nW hv with ⟨j,u,rfl,rfl⟩ | ⟨y,u,rfl,rfl⟩
   ·rw[HJ] at h; exact SeqAt.EqAt.str_int x t j u _ _ _ _ h
   ·rw[HG] at h; exact wpAny_eqBool_str h
 «strs»:=fun k x t v h=>by
  rcases nW h with ⟨i,u,rfl,e⟩ | ⟨y,u,rfl,e⟩
  ·exact nomatch e
  ·injection e with e1 _
   subst e1
   cases v <;> rfl
theorem Bd (prog:Program) (w:World) (i:Int) (t:Tok):(mU prog w).is (.inl i) (.int i t)=true:=Dl i t
theorem AX (prog:Program) (w:World) (x:Str) (t:Tok):(mU prog w).is (.inr x) (.str x t)=true:=DY x t
inductive V where
 | non | bl (b:Bool) | int (i:Int) | str (x:Str) | byt (b:Array UInt8) | flt (b:UInt64) | ref (a:Addr) | ty (n:String)
 deriving DecidableEq
def RelV:V→Value→Prop
 | .non,u=>u=Value.none
 | .bl b,u=>u=Value.bool b
 | .int i,u=>∃ t,u=Value.int i t
 | .str x,u=>∃ t,u=Value.str x t
 | .byt b,u=>∃ t,u=Value.bytes b t
 | .flt b,u=>∃ t,u=Value.float b t
 | .ref a,u=>u=Value.ref a
 | .ty n,u=>u=Value.type n
abbrev Vals:List V→List Value→Prop:=Paired RelV
theorem Vals.length {xs:List V} {us:List Value} (r:Vals xs us):xs.length=us.length:=Paired.length r
theorem Vals.get:∀ {xs:List V} {us:List Value} {i:Nat} {x:V},Vals xs us→xs[i]?=some x→∃ u,us[i]?=some u∧RelV x u
 | _,_,_,_,.nil,e=>by simp at e
 | _,_,0,_,.cons r _,e=>by simp at e; subst e; exact⟨_,rfl,r⟩
 | _,_,i+1,x,.cons _ t,e=>by
  obtain⟨u,h1,h2⟩:=Vals.get (i:=i) (x:=x) t (by simpa using e)
  exact⟨u,by simpa using h1,h2⟩
theorem Vals.set {x:V} {u:Value} (r:RelV x u):∀ {xs:List V} {us:List Value} (i:Nat),Vals xs us→Vals (xs.set i x) (us.set i u)
 | _,_,_,.nil=>.nil
 | _,_,0,.cons _ t=>.cons r t
 | _,_,i+1,.cons q t=>.cons q (Vals.set r i t)
theorem Vals.append:∀ {xs ys:List V} {us ws:List Value},Vals xs us→Vals ys ws→Vals (xs++ys) (us++ws)
 | _,_,_,_,.nil,s=>s
 | _,_,_,_,.cons r t,s=>.cons r (Vals.append t s)
theorem Vals.take:∀ {xs:List V} {us:List Value} (n:Nat),Vals xs us→Vals (xs.take n) (us.take n)
 | _,_,0,_=>.nil
 | _,_,_+1,.nil=>.nil
 | _,_,n+1,.cons r t=>.cons r (Vals.take n t)
theorem Vals.drop:∀ {xs:List V} {us:List Value} (n:Nat),Vals xs us→Vals (xs.drop n) (us.drop n)
 | _,_,0,r=>r
 | _,_,_+1,.nil=>.nil
 | _,_,n+1,.cons _ t=>Vals.drop n t
def RelO:Option V→Option Value→Prop
 | some v,some u=>RelV v u
 | none,none=>True
 | _,_=>False
def KV {κ:Type}:List (κ×V)→List (κ×Value)→Prop:=Paired fun (p:κ×V) (q:κ×Value)=>p.1=q.1∧RelV p.2 q.2
def kV:Key→V
 | .inl i=>.int i
 | .inr x=>.str x
inductive HO where
 /-- a list -/
 | lst (xs:List V)
 /-- a tuple (never changes) -/
 | tup (xs:List V)
 /-- a dict whose keys are ints and texts; one whose keys are tuples of ints and texts (the empty one is both) -/
 | dK (kvs:List (Key×V)) | dT (kvs:List (List Key×V))
 /-- a set of ints: its members,its size -/
 | set (S:Int→Bool) (n:Nat)
 /-- an instance of the class at C,its dict at dx,its attributes -/
 | ins (C dx:Addr) (fs:List (Str×V))
 /-- the dict of the instance at x -/
 | own (x:Addr)
 /-- the dict of an exception -/
 | xd (fs:List (Str×V))
 /-- a bound method,f of x -/
 | met (f x:Addr)
 /-- a range object lo,lo+1,.. below hi -/
 | rng (lo hi:Int)
 /-- a thing that is known to the object (the script; a dict while a loop walks it): read,never written while it is so -/
 | frz (o:Obj) (u:HO)
 /-- a code object's table -/
 | tbl (ps:Array Value)
 /-- any other thing,by what is true of its one object (a def of one's own: SetO a S n:=HO.ext fun h=>..) -/
 | ext (φ:Heap→Prop)
abbrev Hp:=Addr→Option HO
def upd (H:Hp) (a:Addr) (o:HO):Hp:=fun b=>if b=a then some o else H b
theorem er {H:Hp} {a:Addr} {o:HO}:upd H a o a=some o:=by unfold upd; rw[if_pos rfl]
theorem fj {H:Hp} {a b:Addr} {o:HO} (h:b≠a):upd H a o b=H b:=by unfold upd; rw[if_neg h]
theorem Cg {H:Hp} {a b:Addr} {o u:HO} (h:H a=some o) (h':H b=some u) (d:o≠u):a≠b:=by
 intro e; subst e; rw[h] at h'; exact d (Option.some.inj h')
theorem lu {H:Hp} {a b:Addr} {o:HO} (h:H a=some o) (h':H b=none):a≠b:=by
 intro e; subst e; rw[h] at h'; cases h'
section
variable (P:Program) (w:World)
def NoD (h:Heap) (a:Addr):Prop:=∃ o,h.get? a=some o∧o.dict=none
def ObjOk (H:Hp) (h:Heap) (a:Addr):HO→Prop
 | .lst xs=>xs.length≤sizeLine∧∃ (its:List Value) (n:Nat),Vals xs its∧h.get? a=some { cls:=.type "list",data:=.seq its.toArray n }
 | .tup xs=>xs.length≤sizeLine∧∃ its:List Value,Vals xs its∧IsTup h a its.toArray∧NoD h a
 | .dK kvs=>kvs.length≤sizeLine∧(a == sysModules)=false∧∃ vs,KV kvs vs∧h.DictOf (mU P w) a vs
 | .dT kvs=>kvs.length≤sizeLine∧(a == sysModules)=false∧∃ xs:List (List Key×Addr×Value),
   Paired (fun (p:List Key×V) (q:List Key×Addr×Value)=>p.1=q.1∧H q.2.1=some (.tup (p.1.map kV))∧RelV p.2 q.2.2) kvs xs ∧
   ∃ o es ep,h.get? a=some o∧o.ExactDict∧o.data=.dict es ep∧es.toList=xs.map (entryOfKey (tupleKind (mU P w)))∧(xs.map (·.1)).Nodup
 | .set S n=>h.SetOf (intKind P w) a S n
 | .ins C dx fs=>H dx=some (.own a)∧fs.length≤1000∧dx≠a∧h.get? a=some (PySem.W.instObj C dx) ∧
   ∃ mA,h.Ns1 dx mA∧(∀ f,RelO (fs.lookup f) (mA f))∧PySem.Within mA (fs.map (·.1))
 | .own _=>∃ o,h.get? a=some o
 | .xd fs=>∃ mA,h.Ns1 a mA∧∀ f,RelO (fs.lookup f) (mA f)
 | .rng lo hi=>∃ t u v,h.get? a=some { cls:=.type "range",data:=.fields #[.int lo t,.int hi u,.int 1 v] }
 | .frz o u=>h.get? a=some o∧ObjOk H h a u
 | .tbl ps=>h.get? a=some { cls:=.none,data:=.fields ps }
 | .met f x=>h.get? a=some (PySem.W.methodObj (.ref f) (.ref x))
 | .ext φ=>φ h∧(∃ o,h.get? a=some o)∧∀ h1 h2:Heap,φ h1→(∀ o,h1.get? a=some o→h2.get? a=some o)→φ h2
def HOk (H:Hp) (h:Heap):Prop:=∀ a o,H a=some o→ObjOk P w H h a o
end
section
variable {P:Program} {w:World} {H H':Hp} {h h':Heap} {a:Addr} {o:HO}
theorem ObjOk.lt (x:ObjOk P w H h a o):a<h.objs.size:=by
 cases o with
 | lst xs=>obtain⟨_,_,_,_,e⟩:=x; exact Heap.lt_size e
 | tup xs=>obtain⟨_,_,_,p,_⟩:=x; exact p.lt
 | dK kvs=>obtain⟨_,_,_,_,o,_,_,e,_⟩:=x; exact Heap.lt_size e
 | dT kvs=>obtain⟨_,_,_,_,o,_,_,e,_⟩:=x; exact Heap.lt_size e
 | set S n=>obtain⟨o,_,_,_,e,_⟩:=x; exact Heap.lt_size e
 | ins C dx fs=>obtain⟨_,_,_,e,_⟩:=x; exact Heap.lt_size e
 | own y=>obtain⟨_,e⟩:=x; exact Heap.lt_size e
 | xd fs=>obtain⟨_,⟨_,_,_,e,_⟩,_⟩:=x; exact Heap.lt_size e
 | rng lo hi=>obtain⟨_,_,_,e⟩:=x; exact Heap.lt_size e
 | frz ob u=>obtain⟨e,_⟩:=x; exact Heap.lt_size e
 | tbl ps=>exact Heap.lt_size (show h.get? a=some _ from x)
 | met f y=>exact Heap.lt_size (show h.get? a=some _ from x)
 | ext φ=>obtain⟨_,⟨_,e⟩,_⟩:=x; exact Heap.lt_size e
theorem Paired.mapP {α β:Type} {F G:α→β→Prop}:∀ {l₁:List α} {l₂:List β},Paired F l₁ l₂→(∀ a b,F a b→G a b)→Paired G l₁ l₂
 | _,_,.nil,_=>.nil
 | _,_,.cons r t,f=>.cons (f _ _ r) (Paired.mapP t f)
theorem ObjOk.stay (x:ObjOk P w H h a o) (k:∀ b u,(b=a∨H b=some (.own a))→h.get? b=some u→h'.get? b=some u)
  (ho:∀ b,H b=some (.own a)→H' b=some (.own a)) (ht:∀ b xs,H b=some (.tup xs)→H' b=some (.tup xs)):ObjOk P w H' h' a o:=by
 induction o with
 | lst xs=>obtain⟨z,its,n,r,e⟩:=x; exact⟨z,its,n,r,k _ _ (.inl rfl) e⟩
 | tup xs=>obtain⟨z,its,r,⟨ob,e,c⟩,o2,e2,d2⟩:=x; exact⟨z,its,r,⟨ob,k _ _ (.inl rfl) e,c⟩,o2,k _ _ (.inl rfl) e2,d2⟩
 | dK kvs=>obtain⟨z,y,vs,r,ob,es,ep,e,c⟩:=x; exact⟨z,y,vs,r,ob,es,ep,k _ _ (.inl rfl) e,c⟩
 | dT kvs =>
  obtain⟨z,y,xs,r,ob,es,ep,e,c⟩:=x
  exact⟨z,y,xs,Paired.mapP r fun p q z=>⟨z.1,ht _ _ z.2.1,z.2.2⟩,ob,es,ep,k _ _ (.inl rfl) e,c⟩
 | set S n=>obtain⟨ob,es,ep,t,e,c⟩:=x; exact⟨ob,es,ep,t,k _ _ (.inl rfl) e,c⟩
 | ins C dx fs =>
  obtain⟨d,z,ne,e,mA,⟨od,es,ep,e2,c⟩,r⟩:=x
  exact⟨ho _ d,z,ne,k _ _ (.inl rfl) e,mA,⟨od,es,ep,k _ _ (.inr d) e2,c⟩,r⟩
 | own y=>obtain⟨ob,e⟩:=x; exact⟨ob,k _ _ (.inl rfl) e⟩
 | xd fs=>obtain⟨mA,⟨od,es,ep,e,c⟩,r⟩:=x; exact⟨mA,⟨od,es,ep,k _ _ (.inl rfl) e,c⟩,r⟩
 | rng lo hi=>obtain⟨t,u,v,e⟩:=x; exact⟨t,u,v,k _ _ (.inl rfl) e⟩
 | frz ob u ih=>obtain⟨e,q⟩:=x; exact⟨k _ _ (.inl rfl) e,ih q⟩
 | tbl ps =>
  have e:h.get? a=some { cls:=.none,data:=.fields ps }:=x
  show h'.get? a=some { cls:=.none,data:=.fields ps }
  exact k a _ (.inl rfl) e
 | met f y =>
  have e:h.get? a=some (PySem.W.methodObj (.ref f) (.ref y)):=x
  show h'.get? a=some (PySem.W.methodObj (.ref f) (.ref y))
  exact k a _ (.inl rfl) e
 | ext φ=>obtain⟨p,⟨o,e⟩,st⟩:=x; exact⟨st _ _ p fun o q=>k _ _ (.inl rfl) q,⟨o,k _ _ (.inl rfl) e⟩,st⟩
theorem HOk.lt (x:HOk P w H h) (e:H a=some o):a<h.objs.size:=(x a o e).lt
theorem HOk.fresh (x:HOk P w H h) (e:h.objs.size≤a):H a=none:=by
 cases q:H a with
 | none=>rfl
 | some u=>exact absurd (Nat.lt_of_lt_of_le (x.lt q) e) (Nat.lt_irrefl _)
theorem HOk.kept (x:HOk P w H h) (k:∀ b u,h.get? b=some u→h'.get? b=some u):HOk P w H h':=fun a o e =>
 (x a o e).stay (fun b u _ q=>k b u q) (fun _ q=>q) fun _ _ q=>q
theorem HOk.laid (x:HOk P w H h) (k:∀ b u,h.get? b=some u→h'.get? b=some u) (hp:h.objs.size≤a) (new:ObjOk P w (upd H a o) h' a o):HOk P w (upd H a o) h':=fun b u e=>by
 have hn:=x.fresh hp
 by_cases hb:b=a
 ·subst hb; rw[er] at e; cases e; exact new
 ·rw[fj hb] at e
  exact (x b u e).stay (fun c v _ q=>k c v q) (fun c q=>by rw[fj (lu q hn)]; exact q) fun c xs q=>by rw[fj (lu q hn)]; exact q
end
def Rd (H:Hp) (a:Addr) (u:HO):Prop:=H a=some u∨∃ o,H a=some (.frz o u)
theorem Rd.ok {P:Program} {w:World} {H:Hp} {h:Heap} {a:Addr} {u:HO} (r:Rd H a u) (x:HOk P w H h):ObjOk P w H h a u:=by
 rcases r with r | ⟨o,r⟩
 ·exact x a u r
 ·obtain⟨_,q⟩:=x a _ r
  exact q
def Mut:Option HO→Prop
 | some (.lst _)=>True
 | some (.dK _)=>True
 | some (.dT _)=>True
 | some (.set _ _)=>True
 | some (.ins _ _ _)=>True
 | some (.ext _)=>True
 | _=>False
section
variable {P:Program} {w:World} {H:Hp} {h h':Heap} {x e:Addr} {o':HO}
theorem HOk.write (ok:HOk P w H h) (mu:Mut (H x)) (he:e=x∨H e=some (.own x)) (k:∀ b u,b≠e→h.get? b=some u→h'.get? b=some u) (heo:∃ u,h'.get? e=some u)
  (new:ObjOk P w (upd H x o') h' x o'):HOk P w (upd H x o') h':=fun b u q=>by
 have nown:∀ c y,H c=some (.own y)→c≠x:=fun c y r z=>by subst z; rw[r] at mu; exact mu
 have ntup:∀ c xs,H c=some (.tup xs)→c≠x:=fun c xs r z=>by subst z; rw[r] at mu; exact mu
 by_cases hb:b=x
 ·subst hb; rw[er] at q; cases q; exact new
 ·rw[fj hb] at q
  by_cases hbe:b=e
  ·have q':H b=some (.own x):=by
    rcases he with z | z
    ·exact absurd (hbe.trans z) hb
    ·rw[hbe]; exact z
   rw[q] at q'; cases q'
   obtain⟨v,hv⟩:=heo
   exact⟨v,by rw[hbe]; exact hv⟩
  ·refine (ok b u q).stay (fun c v hc r=>k c v ?_ r) (fun c r=>by rw[fj (nown c b r)]; exact r) fun c xs r=>by rw[fj (ntup c xs r)]; exact r
   rcases hc with rfl | hc
   ·exact hbe
   ·rintro rfl
    rcases he with z | z
    ·exact nown c b hc z
    ·rw[hc] at z; cases z; exact hb rfl
end
structure Un (fs ex:List Addr) (H H':Hp) (h h':Heap):Prop where
 keep:∀ b o,h.get? b=some o→H b=none→b ∉ fs→b ∉ ex→h'.get? b=some o
 slot:∀ b o,h.get? b=some o→H b=none→b∈fs→b ∉ ex→∃ sl,h'.get? b=some { o with slots:=sl }
 free:∀ b o,h.get? b=some o→H b=none→b ∉ ex→H' b=none
 there:∀ b o,h.get? b=some o→b ∉ ex→∃ o',h'.get? b=some o'
 tups:∀ b xs,H b=some (.tup xs)→H' b=some (.tup xs)
 frzs:∀ b o u,H b=some (.frz o u)→H' b=some (.frz o u)
 tbls:∀ b ps,H b=some (.tbl ps)→∃ more,H' b=some (.tbl (ps++more))
section
variable {fs fs' ex ex':List Addr} {H H1 H2:Hp} {h h1 h2 h':Heap} {a x e:Addr} {o:HO}
theorem Un.any (u:Un fs ex H H1 h h1) {b:Addr} {ob:Obj} (q:h.get? b=some ob) (n:H b=none) (hx:b ∉ ex):∃ sl,h1.get? b=some { ob with slots:=sl }:=by
 by_cases hb:b∈fs
 ·exact u.slot b ob q n hb hx
 ·exact⟨ob.slots,u.keep b ob q n hb hx⟩
theorem Un.trans (a:Un fs ex H H1 h h1) (b:Un fs ex H1 H2 h1 h2):Un fs ex H H2 h h2 where
 keep:=fun c ob q n hc hx=>b.keep c ob (a.keep c ob q n hc hx) (a.free c ob q n hx) hc hx
 slot:=fun c ob q n hc hx=>by
  obtain⟨sl,e1⟩:=a.slot c ob q n hc hx
  obtain⟨sl',e2⟩:=b.slot c _ e1 (a.free c ob q n hx) hc hx
  exact⟨sl',e2⟩
 free:=fun c ob q n hx=>by
  obtain⟨o',e1⟩:=a.there c ob q hx
  exact b.free c o' e1 (a.free c ob q n hx) hx
 there:=fun c ob q hx=>by
  obtain⟨o',e1⟩:=a.there c ob q hx
  exact b.there c o' e1 hx
 tups:=fun c xs q=>b.tups c xs (a.tups c xs q)
 frzs:=fun c ob xs q=>b.frzs c ob xs (a.frzs c ob xs q)
 tbls:=fun c ps q=>by
  obtain⟨m1,e1⟩:=a.tbls c ps q
  obtain⟨m2,e2⟩:=b.tbls c _ e1
  exact⟨m1++m2,by rw[e2,Array.append_assoc]⟩
theorem Un.kept (k:∀ b u,h.get? b=some u→h'.get? b=some u):Un fs ex H H h h' :=
 ⟨fun b ob q _ _ _=>k b ob q,fun b ob q _ _ _=>⟨ob.slots,k b ob q⟩,fun _ _ _ n _=>n,fun b ob q _=>⟨ob,k b ob q⟩,fun _ _ q=>q,fun _ _ _ q=>q,fun _ ps q=>⟨#[],by rw[q]; simp⟩⟩
theorem Un.refl:Un fs ex H H h h:=Un.kept fun _ _ q=>q
theorem Un.laid (k:∀ b u,h.get? b=some u→h'.get? b=some u) (hp:h.objs.size≤a) (hn:H a=none):Un fs ex H (upd H a o) h h' where
 keep:=fun b u q _ _ _=>k b u q
 slot:=fun b u q _ _ _=>⟨u.slots,k b u q⟩
 free:=fun b u q n _=>by rw[fj (Nat.ne_of_lt (Nat.lt_of_lt_of_le (Heap.lt_size q) hp))]; exact n
 there:=fun b u q _=>⟨u,k b u q⟩
 tups:=fun b xs q=>by rw[fj (lu q hn)]; exact q
 frzs:=fun b u xs q=>by rw[fj (lu q hn)]; exact q
 tbls:=fun b ps q=>⟨#[],by rw[fj (lu q hn),q]; simp⟩
theorem Un.write (mu:Mut (H x)) (he:e=x∨H e=some (.own x)) (k:∀ b u,b≠e→h.get? b=some u→h'.get? b=some u) (heo:∃ u,h'.get? e=some u):Un fs ex H (upd H x o) h h':=by
 have hx:∀ b,H b=none→b≠x:=fun b n z=>by subst z; rw[n] at mu; exact mu
 have hb:∀ b,H b=none→b≠e:=fun b n z=>by
  subst z
  rcases he with r | r
  ·exact hx b n r
  ·rw[n] at r; cases r
 have hm:∀ b u,H b=some u→¬ Mut (some u)→b≠x:=fun b u q nm z=>by subst z; rw[q] at mu; exact nm mu
 refine⟨fun b u q n _ _=>k b u (hb b n) q,fun b u q n _ _=>⟨u.slots,k b u (hb b n) q⟩,fun b u q n _=>by rw[fj (hx b n)]; exact n,fun b u q _=>?_,
  fun b xs q=>by rw[fj (hm b _ q fun z=>z)]; exact q,fun b u xs q=>by rw[fj (hm b _ q fun z=>z)]; exact q,fun b ps q=>⟨#[],by rw[fj (hm b _ q fun z=>z),q]; simp⟩⟩
 by_cases hbe:b=e
 ·subst hbe; exact heo
 ·exact⟨u,k b u hbe q⟩
end
def trk (h:Heap) (H:Hp):List Addr:=(List.range h.objs.size).filter fun a=>(H a).isSome
def v9 (h:Heap) (H:Hp):Heap:=PySem.W.hideAll h (trk h H)
theorem DR (h:Heap) (H:Hp):(v9 h H).objs.size=h.objs.size:=PySem.W.hideAll_size _ _
theorem EE {h:Heap} {H:Hp} {b:Addr} {o:Obj} (e:h.get? b=some o) (n:H b=none):(v9 h H).get? b=some o :=
 PySem.W.hideAll_get _ e fun hm=>by
  have q:(H b).isSome=true:=(List.mem_filter.mp hm).2
  rw[n] at q; simp at q
theorem Gc {h:Heap} {H:Hp} {b:Addr} {o:Obj} (e:(v9 h H).get? b=some o):h.get? b=some o∧H b=none:=by
 have e':h.get? b=some o:=PySem.W.of_hideAll (trk h H) e
 refine⟨e',?_⟩
 cases q:H b with
 | none=>rfl
 | some x =>
  have hm:b∈trk h H:=List.mem_filter.mpr ⟨List.mem_range.mpr (Heap.lt_size e'),by simp [q]⟩
  have z:(v9 h H).get? b=none:=PySem.W.hideAll_none (trk h H) hm
  rw[z] at e; cases e
def Gq (g h:Heap) (L:Addr):List (Addr×Obj):=(List.range h.objs.size).filterMap fun a=>if a=L∨(g.get? a).isSome=true then none else (h.get? a).map fun o=>(a,o)
def rest (g h:Heap) (L d:Addr):List (Addr×Obj):=(Gq g h L).filter fun p=>decide (p.1≠d)
structure Mod (K:PySem.W.Frag) (mg:Str→Option Value) (base:Heap):Prop where
 kin:K.In base
 glob:base.Ns mainGlobals mg
 blt:∃ mb,base.Ns builtinsNs mb∧∀ x:Str,x≠"__name__"→mb x=bootBuiltins x
 nolimit:base.NoLimit
structure Cx where
 prog:Program
 w:World
 K:PySem.W.Frag
 mg:Str→Option Value
 base:Heap
 A:Around
 N:List Str
 s₀:Shared
 H₀:Hp
 env:Env
 outer:List Env
 stack:List Env
 ex:List Addr
 fn:Str→Bool
 calm:Bool
 pn:List (Addr×Obj)
 xe:Value→Shared→Prop
def frs (l:List Env):List Addr:=l.filterMap (·.frame)
abbrev Cx.fs (X:Cx):List Addr:=frs X.outer
def Vis (sc:Scope) (x:Str):Prop:=sc.names.lookup x=some .local∨sc.names.lookup x=some .cell∨sc.names.lookup x=some .free
def Loc (sc:Scope) (x:Str):Prop:=sc.names.lookup x=some .local∨sc.names.lookup x=some .cell
def Look (env:Env) (h:Heap) (m:Str→Option Value) (x:Str) (u:Value):Prop :=
 (env.kindOf x=some .local∧m x=some u)∨((env.kindOf x=some .cell∨env.kindOf x=some .free)∧∃ c,env.cells.lookup x=some c∧h.IsCell c (some u))
structure Cx.Ok (X:Cx):Prop where
 mod:Mod X.K X.mg X.base
 kind:X.env.scope.kind=.function
 glob:X.env.globals=mainGlobals
 blt:X.env.builtins=builtinsNs
 above:X.s₀.heap.objs.size≤X.env.locals
 inj:∀ x y c,X.env.cells.lookup x=some c→X.env.cells.lookup y=some c→x=y
 has:∀ x,(X.env.kindOf x=some .cell∨X.env.kindOf x=some .free)→∃ c,X.env.cells.lookup x=some c
 cab:∀ x c,X.fn x=true→X.env.cells.lookup x=some c→X.s₀.heap.objs.size≤c
 hd:X.calm=true→X.A.handled=none
 frames:X.A.frames=some X.stack
 stk:X.stack=X.outer∨(X.stack=X.env::X.outer∧X.env.frame=some X.env.locals)
 exf:∀ b∈X.ex,b≠X.env.locals∧∀ x c,X.env.cells.lookup x=some c→c≠b
 bs:∀ b o,X.base.get? b=some o→X.s₀.heap.get? b=some o∧X.H₀ b=none
 bsz:X.base.objs.size≤X.s₀.heap.objs.size
 noex:∀ b o,X.base.get? b=some o→b ∉ X.ex
 exfs:∀ b∈X.ex,b ∉ X.fs
 funs:X.s₀.heap.FunFrames X.base X.outer
 frf:∀ b∈X.fs,X.H₀ b=none
structure Inv (X:Cx) (pins:List (Addr×Obj)) (σ:List (Option V)) (H:Hp) (s:Shared):Prop where
 ok:X.Ok
 os:s.os=X.s₀.os
 bare:AllBare s.gens
 base:Un X.fs X.ex X.H₀ H X.s₀.heap s.heap
 loc:∃ m,s.heap.Ns X.env.locals m∧∀ (i:Nat) (x:Str) (v:V),X.N[i]?=some x→σ[i]?=some (some v)→Vis X.env.scope x→∃ u,RelV v u∧Look X.env s.heap m x u
 cell:∀ x c,X.env.cells.lookup x=some c→∃ v,s.heap.IsCell c v
 free:H X.env.locals=none
 freeC:∀ x c,X.env.cells.lookup x=some c→H c=none
 pin:∀ p∈X.pn++pins,s.heap.get? p.1=some p.2∧H p.1=none∧p.1≠X.env.locals∧p.1 ∉ X.fs∧∀ v,p.2.data≠.cell v
 hok:HOk X.prog X.w H s.heap
 len:σ.length=X.N.length
section
variable {X:Cx} {pins:List (Addr×Obj)} {σ:List (Option V)} {H H':Hp} {s:Shared} {h':Heap}
theorem Cx.Ok.nofr (ok:X.Ok) {b:Addr} {o:Obj} (e:X.base.get? b=some o):b ∉ X.fs:=fun hb=>by
 have:=(ok.funs.mem hb).1
 rw[e] at this; cases this
theorem Inv.bs (I:Inv X pins σ H s):∀ b o,X.base.get? b=some o→s.heap.get? b=some o∧H b=none:=fun b o e =>
 ⟨I.base.keep b o (I.ok.bs b o e).1 (I.ok.bs b o e).2 (I.ok.nofr e) (I.ok.noex b o e),I.base.free b o (I.ok.bs b o e).1 (I.ok.bs b o e).2 (I.ok.noex b o e)⟩
theorem Inv.bk (I:Inv X pins σ H s):∀ b o,X.base.get? b=some o→s.heap.get? b=some o:=fun b o e=>(I.bs b o e).1
theorem Inv.mod (I:Inv X pins σ H s):Mod X.K X.mg X.base:=I.ok.mod
theorem Inv.kIn (I:Inv X pins σ H s):X.K.In s.heap:=I.ok.mod.kin.keeps I.bk
theorem Inv.lt (I:Inv X pins σ H s):X.env.locals<s.heap.objs.size:=let ⟨_,hn,_⟩:=I.loc; hn.lt
theorem Inv.sz (I:Inv X pins σ H s):X.s₀.heap.objs.size≤s.heap.objs.size:=Nat.le_trans I.ok.above (Nat.le_of_lt I.lt)
theorem Inv.nofs (I:Inv X pins σ H s) {a:Addr} (h:s.heap.objs.size≤a):a ∉ X.fs:=fun hb=>by
 obtain⟨_,o,ho,_⟩:=I.ok.funs.mem hb
 exact absurd (Nat.lt_of_lt_of_le (Heap.lt_size ho) (Nat.le_trans I.sz h)) (Nat.lt_irrefl _)
theorem Inv.cne (I:Inv X pins σ H s):∀ x c,X.env.cells.lookup x=some c→c≠X.env.locals:=fun x c e z=>by
 obtain⟨v,o,ho,hd⟩:=I.cell x c e
 obtain⟨m,⟨o',es,ep,ho',hd',_⟩,_⟩:=I.loc
 rw[z,ho'] at ho; cases ho; rw[hd'] at hd; cases hd
theorem Inv.funs (I:Inv X pins σ H s):s.heap.FunFrames X.base X.outer:=by
 have all:∀ (l:List Env),(∀ b∈frs l,b∈X.fs)→X.s₀.heap.FunFrames X.base l→s.heap.FunFrames X.base l:=by
  intro l
  induction l with
  | nil=>intro _ _; trivial
  | cons env r ih =>
   intro hs hl
   obtain⟨hk,⟨L,o,hf,hn,ho,hd⟩,hr⟩:=hl
   have hL:L∈X.fs:=hs L (by unfold frs; rw[List.filterMap_cons,hf]; exact List.mem_cons_self)
   obtain⟨sl,e⟩:=I.base.slot L o ho (I.ok.frf L hL) hL fun z=>I.ok.exfs L z hL
   exact⟨hk,⟨L,_,hf,hn,e,hd⟩,ih (fun b hb=>hs b (by unfold frs; rw[List.filterMap_cons,hf]; exact List.mem_cons_of_mem _ hb)) hr⟩
 exact all X.outer (fun _ hb=>hb) I.ok.funs
theorem Inv.stack (I:Inv X pins σ H s):s.heap.FunFrames X.base X.stack:=by
 rcases I.ok.stk with e | ⟨e,hf⟩
 ·rw[e]; exact I.funs
 ·rw[e]
  obtain⟨m,hn,_⟩:=I.loc
  refine .cons (by rw[I.ok.kind]; decide) hf hn ?_ I.funs
  exact Heap.get?_none_of_le (Nat.le_trans I.ok.bsz I.ok.above)
theorem Inv.stkSub (I:Inv X pins σ H s):∀ b∈frs X.stack,b∈X.env.locals::X.fs:=fun b hb=>by
 rcases I.ok.stk with e | ⟨e,hf⟩
 ·rw[e] at hb; exact List.mem_cons_of_mem _ hb
 ·rw[e] at hb
  unfold frs at hb
  rw[List.filterMap_cons,hf] at hb
  exact hb
theorem Inv.stkFree (I:Inv X pins σ H s):∀ b∈frs X.stack,H b=none:=fun b hb=>by
 rcases List.mem_cons.mp (I.stkSub b hb) with e | hb
 ·rw[e]; exact I.free
 ·obtain⟨_,o,ho,_⟩:=I.ok.funs.mem hb
  exact I.base.free b o ho (I.ok.frf b hb) fun z=>I.ok.exfs b z hb
theorem Inv.step {g':Array GenState} {t':Nat} {d':Drawn} {ch:List Addr} (I:Inv X pins σ H s)
  (hch:∀ b∈ch,(b∈X.ex∨X.s₀.heap.objs.size≤b)∧b≠X.env.locals∧(∀ x c,X.env.cells.lookup x=some c→c≠b)∧∀ p∈X.pn++pins,p.1≠b)
  (keep:∀ b o,b≠X.env.locals→b ∉ X.fs→b ∉ ch→s.heap.get? b=some o→H b=none→h'.get? b=some o)
  (slot:∀ b o,b≠X.env.locals→b∈X.fs→b ∉ ch→s.heap.get? b=some o→H b=none→∃ sl,h'.get? b=some { o with slots:=sl }) (free:∀ b o,b ∉ ch→s.heap.get? b=some o→H b=none→H' b=none)
  (there:∀ b o,b ∉ ch→s.heap.get? b=some o→∃ o',h'.get? b=some o')
  (tups:∀ b xs,H b=some (.tup xs)→H' b=some (.tup xs)) (frzs:∀ b o u,H b=some (.frz o u)→H' b=some (.frz o u)) (tbls:∀ b ps,H b=some (.tbl ps)→∃ more,H' b=some (.tbl (ps++more)))
  (ns:∀ m,s.heap.Ns X.env.locals m→h'.Ns X.env.locals m) (hok:HOk X.prog X.w H' h') (hg:AllBare g') :
  Inv X pins σ H' { s with heap:=h',gens:=g',drawn:=d',toks:=t' }:=by
 have neL:∀ b o,X.s₀.heap.get? b=some o→b≠X.env.locals:=fun b o e=>Nat.ne_of_lt (Nat.lt_of_lt_of_le (Heap.lt_size e) I.ok.above)
 have neC:∀ b o,X.s₀.heap.get? b=some o→b ∉ X.ex→b ∉ ch:=fun b o e hx hb=>by
  rcases (hch b hb).1 with z | z
  ·exact hx z
  ·exact absurd (Nat.lt_of_lt_of_le (Heap.lt_size e) z) (Nat.lt_irrefl _)
 have cellK:∀ x c,X.env.cells.lookup x=some c→∀ v,s.heap.IsCell c v→h'.IsCell c v:=fun x c e v ⟨o,ho,hd⟩=>by
  have nch:c ∉ ch:=fun z=>(hch c z).2.2.1 x c e rfl
  by_cases hc:c∈X.fs
  ·obtain⟨sl,q⟩:=slot c o (I.cne x c e) hc nch ho (I.freeC x c e)
   exact⟨_,q,hd⟩
  ·exact⟨o,keep c o (I.cne x c e) hc nch ho (I.freeC x c e),hd⟩
 refine⟨I.ok,I.os,hg,⟨fun b o e n hb hx=>?_,fun b o e n hb hx=>?_,fun b o e n hx=>?_,fun b o e hx=>?_,fun b xs e=>tups b xs (I.base.tups b xs e),fun b o xs e=>frzs b o xs (I.base.frzs b o xs e),fun b ps e=>?_⟩,?_,fun x c e=>?_,?_,fun x c e=>?_,fun p hp=>?_,hok,I.len⟩
 ·exact keep b o (neL b o e) hb (neC b o e hx) (I.base.keep b o e n hb hx) (I.base.free b o e n hx)
 ·obtain⟨sl,e1⟩:=I.base.slot b o e n hb hx
  obtain⟨sl',e2⟩:=slot b _ (neL b o e) hb (neC b o e hx) e1 (I.base.free b o e n hx)
  exact⟨sl',e2⟩
 ·obtain⟨o',e1⟩:=I.base.there b o e hx
  exact free b o' (neC b o e hx) e1 (I.base.free b o e n hx)
 ·obtain⟨o',e1⟩:=I.base.there b o e hx
  exact there b o' (neC b o e hx) e1
 ·obtain⟨m1,e1⟩:=I.base.tbls b ps e
  obtain⟨m2,e2⟩:=tbls b _ e1
  exact⟨m1++m2,by rw[e2,Array.append_assoc]⟩
 ·obtain⟨m,hn,hl⟩:=I.loc
  refine⟨m,ns m hn,fun i x v e1 e2 e3=>?_⟩
  obtain⟨u,r,l⟩:=hl i x v e1 e2 e3
  refine⟨u,r,?_⟩
  rcases l with l | ⟨k,c,e,z⟩
  ·exact .inl l
  ·exact .inr ⟨k,c,e,cellK x c e _ z⟩
 ·obtain⟨v,z⟩:=I.cell x c e
  exact⟨v,cellK x c e v z⟩
 ·obtain⟨m,⟨o,_,_,ho,_⟩,_⟩:=I.loc
  exact free _ o (fun z=>(hch _ z).2.1 rfl) ho I.free
 ·obtain⟨v,o,ho,hd⟩:=I.cell x c e
  exact free c o (fun z=>(hch c z).2.2.1 x c e rfl) ho (I.freeC x c e)
 ·obtain⟨e,n,ne,nf,d⟩:=I.pin p hp
  have nch:p.1 ∉ ch:=fun z=>(hch p.1 z).2.2.2 p hp rfl
  exact⟨keep p.1 p.2 ne nf nch e n,free p.1 p.2 nch e n,ne,nf,d⟩
theorem Inv.un {t':Nat} (I:Inv X pins σ H s) (u:Un X.fs [] H H' s.heap h') (hok:HOk X.prog X.w H' h'):Inv X pins σ H' { s with heap:=h',toks:=t' }:=by
 obtain⟨m,⟨o,es,ep,ho,r⟩,_⟩:=id I.loc
 obtain⟨sl,hL⟩:=u.any ho I.free (by simp)
 exact I.step (g':=s.gens) (d':=s.drawn) (ch:=[]) (fun _ z=>nomatch z) (fun b o _ hb _ e n=>u.keep b o e n hb (by simp)) (fun b o _ hb _ e n=>u.slot b o e n hb (by simp)) (fun b o _ e n=>u.free b o e n (by simp)) (fun b o _ e=>u.there b o e (by simp)) u.tups u.frzs u.tbls (fun m' hm=>by
  obtain⟨o',es',ep',ho',r'⟩:=hm
  rw[ho] at ho'; cases ho'
  exact⟨_,es',ep',hL,r'⟩) hok I.bare
theorem Inv.call {g':Array GenState} {t':Nat} {d':Drawn} {ch:List Addr} (I:Inv X pins σ H s) (u:Un (frs X.stack) ch H H' s.heap h') (hok:HOk X.prog X.w H' h') (hg:AllBare g')
  (hch:∀ b∈ch,(b∈X.ex∨X.s₀.heap.objs.size≤b)∧b≠X.env.locals∧(∀ x c,X.env.cells.lookup x=some c→c≠b)∧∀ p∈X.pn++pins,p.1≠b) :
  Inv X pins σ H' { s with heap:=h',gens:=g',drawn:=d',toks:=t' }:=by
 obtain⟨m,⟨o,es,ep,ho,r⟩,_⟩:=id I.loc
 obtain⟨sl,hL⟩:=u.any ho I.free fun z=>(hch _ z).2.1 rfl
 exact I.step (ch:=ch) hch (fun b o hL hb hc e n=>u.keep b o e n (fun z=>(List.mem_cons.mp (I.stkSub b z)).elim hL hb) hc) (fun b o _ _ hc e n=>u.any e n hc) (fun b o hc e n=>u.free b o e n hc) (fun b o hc e=>u.there b o e hc) u.tups u.frzs u.tbls (fun m' hm=>by
  obtain⟨o',es',ep',ho',r'⟩:=hm
  rw[ho] at ho'; cases ho'
  exact⟨_,es',ep',hL,r'⟩) hok hg
theorem Inv.turned {t':Nat} {it:Addr} (I:Inv X pins σ H s) (k:∀ b o,b≠it→s.heap.get? b=some o→h'.get? b=some o) (hn:H it=none) (hL:it≠X.env.locals)
  (h1:it∈X.ex∨X.s₀.heap.objs.size≤it) (h2:∀ x c,X.env.cells.lookup x=some c→c≠it) (h3:∀ p∈X.pn++pins,p.1≠it):Inv X pins σ H { s with heap:=h',toks:=t' }:=by
 have nit:∀ b u,H b=some u→b≠it:=fun b u e z=>by rw[z,hn] at e; cases e
 refine I.step (g':=s.gens) (d':=s.drawn) (ch:=[it]) (fun b hb=>?_) (fun b o _ _ hc e _=>k b o (fun z=>hc (by simp [z])) e) (fun b o _ _ hc e _=>⟨o.slots,k b o (fun z=>hc (by simp [z])) e⟩) (fun _ _ _ _ n=>n)
  (fun b o hc e=>⟨o,k b o (fun z=>hc (by simp [z])) e⟩) (fun _ _ e=>e) (fun _ _ _ e=>e) (fun b ps e=>⟨#[],by rw[e]; simp⟩) (fun m hm=>?_) (fun b u e=>?_) I.bare
 ·have e:b=it:=by simpa using hb
  subst e
  exact⟨h1,hL,h2,h3⟩
 ·obtain⟨o,es,ep,ho,r⟩:=hm
  exact⟨o,es,ep,k _ o (Ne.symm hL) ho,r⟩
 ·refine (I.hok b u e).stay (fun c v hc q=>k c v ?_ q) (fun _ q=>q) fun _ _ q=>q
  rcases hc with z | z
  ·rw[z]; exact nit b u e
  ·exact nit c _ z
theorem Inv.tok (I:Inv X pins σ H s) (t:Nat):Inv X pins σ H { s with toks:=t }:=I.un (h':=s.heap) (t':=t) Un.refl I.hok
theorem Inv.kept {t':Nat} (I:Inv X pins σ H s) (k:∀ b u,s.heap.get? b=some u→h'.get? b=some u):Inv X pins σ H { s with heap:=h',toks:=t' }:=I.un (Un.kept k) (I.hok.kept k)
theorem Inv.laid {a:Addr} {o:HO} {t':Nat} (I:Inv X pins σ H s) (k:∀ b u,s.heap.get? b=some u→h'.get? b=some u) (hp:s.heap.objs.size≤a) (new:ObjOk X.prog X.w (upd H a o) h' a o) :
  Inv X pins σ (upd H a o) { s with heap:=h',toks:=t' }:=I.un (Un.laid k hp (I.hok.fresh hp)) (I.hok.laid k hp new)
theorem Inv.write {x e:Addr} {o:HO} {t':Nat} (I:Inv X pins σ H s) (mu:Mut (H x)) (he:e=x∨H e=some (.own x)) (k:∀ b u,b≠e→s.heap.get? b=some u→h'.get? b=some u) (heo:∃ u,h'.get? e=some u)
  (new:ObjOk X.prog X.w (upd H x o) h' x o):Inv X pins σ (upd H x o) { s with heap:=h',toks:=t' }:=I.un (Un.write mu he k heo) (I.hok.write mu he k heo new)
theorem Inv.pins_of {pins':List (Addr×Obj)} (I:Inv X pins σ H s) (h:∀ p∈pins',s.heap.get? p.1=some p.2∧H p.1=none∧p.1≠X.env.locals∧p.1 ∉ X.fs∧∀ v,p.2.data≠.cell v):Inv X pins' σ H s :=
 ⟨I.ok,I.os,I.bare,I.base,I.loc,I.cell,I.free,I.freeC,fun p hp=>(List.mem_append.mp hp).elim (fun z=>I.pin p (List.mem_append_left _ z)) (h p),I.hok,I.len⟩
theorem zT {N:List Str} (hN:N.Nodup) {i j:Nat} {x:Str} (a:N[i]?=some x) (b:N[j]?=some x):i=j:=by
 obtain⟨h1,e1⟩:=List.getElem?_eq_some_iff.mp a
 obtain⟨h2,e2⟩:=List.getElem?_eq_some_iff.mp b
 exact (List.getElem_inj hN).mp (e1.trans e2.symm)
theorem zu {M:Model} {A:Around} {E:Value→Shared→Prop} {i:Nat} {x:Str} {v:V} {u:Value} {Q:Unit→Shared→Prop} (I:Inv X pins σ H s) (hN:X.N.Nodup) (hi:X.N[i]?=some x) (hx:Loc X.env.scope x) (r:RelV v u)
  (h:∀ s',Inv X pins (σ.set i (some v)) H s'→(∃ a,Heap.SameBut a s.heap s'.heap∧(a=X.env.locals∨X.env.cells.lookup x=some a))→Q () s') (hf:X.fn x=true∨X.env.scope.names.lookup x=some .local:=by first | exact .inl rfl | exact .inr rfl | assumption):wpAny M A (storeName X.env x u) Q E s:=by
 obtain⟨m,hn,hl⟩:=id I.loc
 have hcls:(X.env.scope.kind == .class || (X.env.scope.kind == .module && X.env.locals != X.env.globals))=false:=by rw[I.ok.kind]; rfl
 have hiσ:i<σ.length:=by rw[I.len]; exact (List.getElem?_eq_some_iff.mp hi).1
 have cne:=I.cne
 have tracked:∀ {a:Addr} {h':Heap},(∃ o,s.heap.get? a=some o∧H a=none)→Heap.SameBut a s.heap h'→HOk X.prog X.w H h':=fun {a h'} ha hs b ob e=>by
  obtain⟨_,_,hfree⟩:=ha
  refine (I.hok b ob e).stay (fun c w' hc q=>(hs.2 c ?_).trans q) (fun _ q=>q) fun _ _ q=>q
  rintro rfl
  rcases hc with rfl | hc
  ·rw[hfree] at e; cases e
  ·rw[hfree] at hc; cases hc
 rcases hx with hk | hk
 ·refine wpAny_storeName_local hk hn (fun h' hn' hs=>?_) hcls
  obtain⟨oL,_,_,hoL,_⟩:=id hn
  refine h _ ⟨I.ok,I.os,I.bare,⟨fun b o e n hb hx=>?_,fun b o e n hb hx=>?_,I.base.free,fun b o e hx=>?_,I.base.tups,I.base.frzs,I.base.tbls⟩,⟨_,hn',fun j y v' e1 e2 e3=>?_⟩,fun y c e=>?_,I.free,I.freeC,fun p hp=>?_,tracked ⟨oL,hoL,I.free⟩ hs,by simpa using I.len⟩ ⟨_,hs,.inl rfl⟩
  ·exact (hs.2 b (Nat.ne_of_lt (Nat.lt_of_lt_of_le (Heap.lt_size e) I.ok.above))).trans (I.base.keep b o e n hb hx)
  ·obtain⟨sl,e1⟩:=I.base.slot b o e n hb hx
   exact⟨sl,(hs.2 b (Nat.ne_of_lt (Nat.lt_of_lt_of_le (Heap.lt_size e) I.ok.above))).trans e1⟩
  ·obtain⟨o',e1⟩:=I.base.there b o e hx
   exact⟨o',(hs.2 b (Nat.ne_of_lt (Nat.lt_of_lt_of_le (Heap.lt_size e) I.ok.above))).trans e1⟩
  ·by_cases hj:j=i
   ·subst hj
    rw[hi] at e1; cases e1
    rw[List.getElem?_set_self hiσ] at e2
    cases e2
    exact⟨u,r,.inl ⟨hk,by simp⟩⟩
   ·rw[List.getElem?_set_ne (Ne.symm hj)] at e2
    obtain⟨u',r',q⟩:=hl j y v' e1 e2 e3
    refine⟨u',r',?_⟩
    rcases q with ⟨k,e⟩ | ⟨k,c,e,z⟩
    ·refine .inl ⟨k,?_⟩
     have:y≠x:=fun e=>hj (zT hN e1 (e ▸ hi))
     simp [this,e]
    ·exact .inr ⟨k,c,e,z.sameBut hs (cne y c e)⟩
  ·obtain⟨w',z⟩:=I.cell y c e
   exact⟨w',z.sameBut hs (cne y c e)⟩
  ·obtain⟨e,n,ne,nf,d⟩:=I.pin p hp
   exact⟨(hs.2 p.1 ne).trans e,n,ne,nf,d⟩
 ·have hfn:X.fn x=true:=by
   rcases hf with z | z
   ·exact z
   ·rw[z] at hk; cases hk
  obtain⟨c,hc⟩:=I.ok.has x (.inl hk)
  obtain⟨w',z⟩:=I.cell x c hc
  refine wpAny_storeName_cell I.ok.kind hk hc z (fun h' hc' hs=>?_)
  obtain⟨oc,hoc,hocd⟩:=id z
  refine h { s with heap:=h' } ⟨I.ok,I.os,I.bare,⟨fun b o e n hb hx=>?_,fun b o e n hb hx=>?_,I.base.free,fun b o e hx=>?_,I.base.tups,I.base.frzs,I.base.tbls⟩,⟨m,hn.sameBut hs (Ne.symm (cne x c hc)),fun j y v' e1 e2 e3=>?_⟩,fun y c' e=>?_,I.free,I.freeC,fun p hp=>?_,tracked ⟨oc,hoc,I.freeC x c hc⟩ hs,by simpa using I.len⟩ ⟨c,hs,.inr hc⟩
  ·exact (hs.2 b (Nat.ne_of_lt (Nat.lt_of_lt_of_le (Heap.lt_size e) (I.ok.cab x c hfn hc)))).trans (I.base.keep b o e n hb hx)
  ·obtain⟨sl,e1⟩:=I.base.slot b o e n hb hx
   exact⟨sl,(hs.2 b (Nat.ne_of_lt (Nat.lt_of_lt_of_le (Heap.lt_size e) (I.ok.cab x c hfn hc)))).trans e1⟩
  ·obtain⟨o',e1⟩:=I.base.there b o e hx
   exact⟨o',(hs.2 b (Nat.ne_of_lt (Nat.lt_of_lt_of_le (Heap.lt_size e) (I.ok.cab x c hfn hc)))).trans e1⟩
  ·by_cases hj:j=i
   ·subst hj
    rw[hi] at e1; cases e1
    rw[List.getElem?_set_self hiσ] at e2
    cases e2
    exact⟨u,r,.inr ⟨.inl hk,c,hc,hc'⟩⟩
   ·rw[List.getElem?_set_ne (Ne.symm hj)] at e2
    obtain⟨u',r',q⟩:=hl j y v' e1 e2 e3
    refine⟨u',r',?_⟩
    rcases q with q | ⟨k,c',e,z'⟩
    ·exact .inl q
    ·refine .inr ⟨k,c',e,z'.sameBut hs ?_⟩
     rintro rfl
     exact hj (zT hN e1 (I.ok.inj _ _ _ e hc ▸ hi))
  ·by_cases hcc:c'=c
   ·subst hcc; exact⟨_,hc'⟩
   ·obtain⟨w2,z2⟩:=I.cell y c' e
    exact⟨w2,z2.sameBut hs hcc⟩
  ·obtain⟨e,n,ne,nf,d⟩:=I.pin p hp
   refine⟨(hs.2 p.1 ?_).trans e,n,ne,nf,d⟩
   intro q
   rw[q,hoc] at e
   have q':oc=p.2:=Option.some.inj e
   exact d w' (by rw[← q']; exact hocd)
theorem xP {M:Model} {A:Around} {E:Value→Shared→Prop} {i:Nat} {x:Str} {v:V} {u:Value} {Q:Unit→Shared→Prop} (I:Inv X pins σ H s) (hN:X.N.Nodup) (hi:X.N[i]?=some x) (hx:Loc X.env.scope x) (r:RelV v u)
  (h:∀ s',Inv X pins (σ.set i (some v)) H s'→Q () s') (hf:X.fn x=true∨X.env.scope.names.lookup x=some .local:=by first | exact .inl rfl | exact .inr rfl | assumption):wpAny M A (storeName X.env x u) Q E s :=
 zu I hN hi hx r (fun s' I' _=>h s' I') hf
theorem Inv.call' {s':Shared} {ch:List Addr} (I:Inv X pins σ H s) (ho:s'.os=s.os) (u:Un (frs X.stack) ch H H' s.heap s'.heap) (hok:HOk X.prog X.w H' s'.heap) (hg:AllBare s'.gens)
  (hch:∀ b∈ch,(b∈X.ex∨X.s₀.heap.objs.size≤b)∧b≠X.env.locals∧(∀ x c,X.env.cells.lookup x=some c→c≠b)∧∀ p∈X.pn++pins,p.1≠b):Inv X pins σ H' s':=by
 obtain⟨h',g',d',t',o'⟩:=s'
 have e:o'=s.os:=ho
 subst e
 exact I.call (g':=g') (t':=t') (d':=d') u hok hg hch
end
abbrev XK:=Value→Option Addr→Hp→Prop
abbrev St:=List (Option V)
abbrev VK:=V→Hp→Prop
abbrev TE:=St→Hp→VK→Prop
abbrev TT:=St→Hp→(Bool→Hp→Prop)→Prop
abbrev TA:=St→Hp→(List V→Hp→Prop)→Prop
structure Ends where
 nx:St→Hp→Prop
 rt:VK
 bk:St→Hp→Prop:=fun _ _=>False
 ct:St→Hp→Prop:=fun _ _=>False
abbrev TS:=Ends→St→Hp→Prop
def EP (X:Cx) (pins:List (Addr×Obj)) (σ:St) (Q:VK) (u:Value) (s':Shared):Prop:=∃ v H',Inv X pins σ H' s'∧RelV v u∧Q v H'
def TP (X:Cx) (pins:List (Addr×Obj)) (σ:St) (Q:Bool→Hp→Prop) (b:Bool) (s':Shared):Prop:=∃ H',Inv X pins σ H' s'∧Q b H'
def AP (X:Cx) (pins:List (Addr×Obj)) (σ:St) (Q:List V→Hp→Prop) (us:List Value) (s':Shared):Prop:=∃ vs H',Inv X pins σ H' s'∧Vals vs us∧Q vs H'
def SP (X:Cx) (pins:List (Addr×Obj)) (D:Ends) (f:Flow) (s':Shared):Prop :=
 match f with
 | .next=>∃ σ' H',Inv X pins σ' H' s'∧D.nx σ' H'
 | .brk=>∃ σ' H',Inv X pins σ' H' s'∧D.bk σ' H'
 | .cont=>∃ σ' H',Inv X pins σ' H' s'∧D.ct σ' H'
 | .ret u=>∃ v σ' H',Inv X pins σ' H' s'∧RelV v u∧D.rt v H'
def PE (X:Cx) (e:Expr) (t:TE):Prop :=
 ∀ (pins:List (Addr×Obj)) (s:Shared) (σ:St) (H:Hp) (Q:VK),Inv X pins σ H s→t σ H Q→wpAny (model X.prog X.w) X.A (eval e X.env) (EP X pins σ Q) X.xe s
def PT (X:Cx) (e:Expr) (t:TT):Prop :=
 ∀ (pins:List (Addr×Obj)) (s:Shared) (σ:St) (H:Hp) (Q:Bool→Hp→Prop),Inv X pins σ H s→t σ H Q→wpAny (model X.prog X.w) X.A (isTrue e X.env (eval e X.env)) (TP X pins σ Q) X.xe s
def PW (X:Cx) (e:Expr) (t:TT):Prop :=
 ∀ (whole:Sem Value) (pins:List (Addr×Obj)) (s:Shared) (σ:St) (H:Hp) (Q:Bool→Hp→Prop),Inv X pins σ H s→t σ H Q→wpAny (model X.prog X.w) X.A (isTrue e X.env whole) (TP X pins σ Q) X.xe s
theorem PW.pt {X:Cx} {e:Expr} {t:TT} (h:PW X e t):PT X e t:=h _
def PA (X:Cx) (es:List Expr) (t:TA):Prop :=
 ∀ (pos:Pos) (pins:List (Addr×Obj)) (s:Shared) (σ:St) (H:Hp) (Q:List V→Hp→Prop),Inv X pins σ H s→t σ H Q→wpAny (model X.prog X.w) X.A (spliced (backTo pos (starEach es X.env))) (AP X pins σ Q) X.xe s
def PS (X:Cx) (st:Stmt) (t:TS):Prop :=
 ∀ (pins:List (Addr×Obj)) (s:Shared) (σ:St) (H:Hp) (D:Ends),Inv X pins σ H s→t D σ H→wpAny (model X.prog X.w) X.A (exec st X.env) (SP X pins D) X.xe s
def PSs (X:Cx) (st:List Stmt) (t:TS):Prop :=
 ∀ (pins:List (Addr×Obj)) (s:Shared) (σ:St) (H:Hp) (D:Ends),Inv X pins σ H s→t D σ H→wpAny (model X.prog X.w) X.A (execs st X.env) (SP X pins D) X.xe s
theorem thn {α:Type} {t:Sem α} {Q Q':α→Shared→Prop} {M:Model} {A:Around} {E:Value→Shared→Prop} {s:Shared} (h:wpAny M A t Q E s) (hQ:∀ a s,Q a s→Q' a s):wpAny M A t Q' E s:=wpAny_mono h hQ fun _ _ x=>x
section
variable {X:Cx}
theorem bin {a b:Expr} {ta tb:TE} (ha:PE X a ta) (hb:PE X b tb) {pins:List (Addr×Obj)} {s:Shared} {σ:St} {H:Hp} {R:V→V→Hp→Prop} (I:Inv X pins σ H s) (h:ta σ H fun x H1=>tb σ H1 fun y H2=>R x y H2)
  {α:Type} {Q:α→Shared→Prop} {f:Value→Value→Sem α}
  (hf:∀ v u s2 x y H2,Inv X pins σ H2 s2→RelV x v→RelV y u→R x y H2→wpAny (model X.prog X.w) X.A (f v u) Q X.xe s2) :
  wpAny (model X.prog X.w) X.A (eval a X.env) (fun v s₁=>wpAny (model X.prog X.w) X.A (eval b X.env) (fun u s₂=>wpAny (model X.prog X.w) X.A (f v u) Q X.xe s₂) X.xe s₁) X.xe s:=by
 refine thn (ha pins s σ H _ I h) fun v s1 ⟨x,H1,I1,r1,q1⟩=>?_
 refine thn (hb pins s1 σ H1 _ I1 q1) fun u s2 ⟨y,H2,I2,r2,q2⟩=>?_
 exact hf v u s2 x y H2 I2 r1 r2 q2
def Ew (i:Nat):TE:=fun σ H Q=>∃ v,σ[i]?=some (some v)∧Q v H
def tC (v:V):TE:=fun _ H Q=>Q v H
theorem cg {i:Nat} {x:Str} {pos:Pos} (hN:X.N[i]?=some x) (hv:Vis X.env.scope x) (hd:(x == ("__debug__":Str))=false:=by decide) (hcd:(x == ("__classdict__":Str))=false:=by decide):PE X (.Name x pos) (Ew i):=by
 intro pins s σ H Q I h
 obtain⟨v,e,h⟩:=h
 obtain⟨m,hn,hl⟩:=I.loc
 obtain⟨u,r,l⟩:=hl i x v hN e hv
 have fin:EP X pins σ Q u s:=⟨v,H,I,r,h⟩
 rcases l with ⟨hk,hm⟩ | ⟨hk,c,hc,hcell⟩
 ·exact wpAny_Name (wpAny_loadName_local I.ok.kind hk hn hm fin) hd
 ·rcases hk with hk | hk
  ·exact wpAny_Name (wpAny_loadName_cell I.ok.kind hk hc hcell fin) hd
  ·exact wpAny_Name (wpAny_loadName_free I.ok.kind hk hc hcell fin hcd) hd
theorem dR {i j pos}:PE X (.Constant (.int i) j pos) (tC (.int i)):=fun _ _ _ H _ I h=>wpAny_Constant_int ⟨.int i,H,I.tok _,⟨_,rfl⟩,h⟩
theorem uv {b j pos}:PE X (.Constant (.bool b) j pos) (tC (.bl b)):=fun _ _ _ H _ I h=>Constant_bool ⟨.bl b,H,I,rfl,h⟩
theorem vQ {j pos}:PE X (.Constant .none j pos) (tC .non):=fun _ _ _ H _ I h=>Constant_none ⟨.non,H,I,rfl,h⟩
def Gl (X:Cx) (x:Str):Prop:=X.env.kindOf x=some .globalImplicit
theorem Gn {E:Value→Shared→Prop} {pins:List (Addr×Obj)} {s:Shared} {σ:St} {H:Hp} {x:Str} {u:Value} {pos:Pos} {Q:Value→Shared→Prop} (I:Inv X pins σ H s) (hg:Gl X x) (hm:X.mg x=some u) (h:Q u s)
  (hd:(x == ("__debug__":Str))=false:=by decide):wpAny (model X.prog X.w) X.A (eval (.Name x pos) X.env) Q E s :=
 Calls.Name_function_global I.ok.kind hg (Calls.loadGlobal_global (by rw[I.ok.glob]; exact I.mod.glob.keeps I.bk) hm h) hd
theorem uz {E:Value→Shared→Prop} {pins:List (Addr×Obj)} {s:Shared} {σ:St} {H:Hp} {x:Str} {u:Value} {pos:Pos} {Q:Value→Shared→Prop} (I:Inv X pins σ H s) (hg:Gl X x) (hm:X.mg x=none) (hv:bootBuiltins x=some u) (h:Q u s)
  (hn:x≠"__name__":=by decide) (hd:(x == ("__debug__":Str))=false:=by decide):wpAny (model X.prog X.w) X.A (eval (.Name x pos) X.env) Q E s:=by
 obtain⟨mb,h1,h2⟩:=I.mod.blt
 exact Calls.Name_function_global I.ok.kind hg (Calls.loadGlobal_builtin (by rw[I.ok.glob]; exact I.mod.glob.keeps I.bk) hm (by rw[I.ok.blt]; exact h1.keeps I.bk) ((h2 x hn).trans hv) h) hd
theorem vq {x:Str} {v:V} {u:Value} {pos:Pos} (hg:Gl X x) (hm:X.mg x=none) (hv:bootBuiltins x=some u) (r:RelV v u) (hn:x≠"__name__":=by decide) (hd:(x == ("__debug__":Str))=false:=by decide):PE X (.Name x pos) (tC v) :=
 fun _ _ _ H _ I h=>uz I hg hm hv ⟨v,H,I,r,h⟩ hn hd
variable {a b:Expr} {ta tb:TE} {pos:Pos}
def PC (X:Cx) (op:CmpOp) (a b:Expr) (t:TE):Prop :=
 ∀ (pins:List (Addr×Obj)) (s:Shared) (σ:St) (H:Hp) (Q:VK),Inv X pins σ H s→t σ H Q →
  wpAny (model X.prog X.w) X.A (eval a X.env) (fun v s₁=>wpAny (model X.prog X.w) X.A (eval b X.env) (fun u s₂=>wpAny (model X.prog X.w) X.A (compareOp op v u) (EP X pins σ Q) X.xe s₂) X.xe s₁) X.xe s
theorem EA (b:Expr) {op:CmpOp} (h:op≠.In) (h2:op≠.NotIn):behindInMarks op b=false:=by
 have e1:(op == CmpOp.In)=false:=by cases op <;> first | rfl | exact absurd rfl h
 have e2:(op == CmpOp.NotIn)=false:=by cases op <;> first | rfl | exact absurd rfl h2
 cases b <;> simp [behindInMarks,e1,e2]
def tB (t:TE):TT:=fun σ H Q=>t σ H fun x H1=>∃ c,x=.bl c∧Q c H1
theorem G7 {op:CmpOp} {t:TE} (h:PC X op a b t) (h1:behindInMarks op b=false:=by first | exact EA _ (by decide) (by decide) | rfl):PT X (.Compare a [op] [b] pos) (tB t):=by
 intro pins s σ H Q I hw
 refine wpAny_isTrue_Compare1 (thn (h pins s σ H _ I hw) fun v s1 h1=>thn h1 fun u s2 h2=>thn h2 fun c s3 ⟨x,H1,I1,r1,q1⟩=>?_) h1
 obtain⟨d,rfl,q⟩:=q1
 cases r1
 exact wpAny_truthy_bool ⟨H1,I1,q⟩
theorem sG {e:Expr} {t:TE} (h:PE X e t) (he:∀ whole,isTrue e X.env whole=(do let v ← whole; standAt e.pos; holding [v] (truthy v)):=by intro _; rfl):PT X e (tB t):=by
 intro pins s σ H Q I hw
 refine isTrue_plain (thn (h pins s σ H _ I hw) fun v s1 ⟨x,H1,I1,r1,q1⟩=>?_) (he _)
 obtain⟨d,rfl,q⟩:=q1
 cases r1
 exact wpAny_truthy_bool ⟨H1,I1,q⟩
variable {tA tB':TT} {rest:List Expr}
def Hf (t u:TT):TT:=fun σ H Q=>t σ H fun c H1=>if c=true then u σ H1 Q else Q false H1
def tOr (t u:TT):TT:=fun σ H Q=>t σ H fun c H1=>if c=true then Q true H1 else u σ H1 Q
def GZ (t:TT):TT:=fun σ H Q=>t σ H fun c H1=>Q (!c) H1
theorem vt (ha:PT X a tA):PW X (.BoolOp .And [a] pos) tA:=by
 intro wh pins s σ H Q I h
 refine isTrue_and (thn (ha pins s σ H Q I h) fun c s1 e=>?_)
 cases c with
 | true=>exact isTrue_and_nil e
 | false=>exact e
theorem C0 (ha:PT X a tA):PW X (.BoolOp .Or [a] pos) tA:=by
 intro wh pins s σ H Q I h
 refine isTrue_or (thn (ha pins s σ H Q I h) fun c s1 e=>?_)
 cases c with
 | false=>exact isTrue_or_nil e
 | true=>exact e
theorem vC (ha:PT X a tA) (hb:PW X (.BoolOp .And (b::rest) pos) tB'):PW X (.BoolOp .And (a::b::rest) pos) (Hf tA tB'):=by
 intro wh pins s σ H Q I h
 refine isTrue_and (thn (ha pins s σ H _ I h) fun c s1 ⟨H1,I1,q1⟩=>?_)
 cases c with
 | true=>exact hb wh pins s1 σ H1 Q I1 q1
 | false=>exact⟨H1,I1,q1⟩
theorem FL (ha:PT X a tA) (hb:PW X (.BoolOp .Or (b::rest) pos) tB'):PW X (.BoolOp .Or (a::b::rest) pos) (tOr tA tB'):=by
 intro wh pins s σ H Q I h
 refine isTrue_or (thn (ha pins s σ H _ I h) fun c s1 ⟨H1,I1,q1⟩=>?_)
 cases c with
 | true=>exact⟨H1,I1,q1⟩
 | false=>exact hb wh pins s1 σ H1 Q I1 q1
theorem tO (ha:PT X a tA):PT X (.UnaryOp .Not a pos) (GZ tA):=by
 intro pins s σ H Q I h
 exact isTrue_not (ha pins s σ H (fun c H1=>Q (!c) H1) I h)
def FH (ta tb:TE):TE:=fun σ H Q=>ta σ H fun x H1=>∃ c,x=.bl c∧if c=true then tb σ H1 Q else Q (.bl false) H1
def Hi (ta tb:TE):TE:=fun σ H Q=>ta σ H fun x H1=>∃ c,x=.bl c∧if c=true then Q (.bl true) H1 else tb σ H1 Q
def FS (ta:TE):TE:=fun σ H Q=>ta σ H fun x H1=>∃ c,x=.bl c∧Q (.bl (!c)) H1
theorem vE {op} {t:TE} (h:PE X a t):PE X (.BoolOp op [a] pos) t:=fun pins s σ H Q I hw=>BoolOp_one (h pins s σ H Q I hw)
theorem vf (ha:PE X a ta) (hb:PE X (.BoolOp .And (b::rest) pos) tb):PE X (.BoolOp .And (a::b::rest) pos) (FH ta tb):=by
 intro pins s σ H Q I h
 refine BoolOp_and (thn (ha pins s σ H _ I h) fun v s1 ⟨x,H1,I1,r1,q1⟩=>?_)
 obtain⟨c,rfl,q1⟩:=q1
 cases r1
 refine wpAny_truthy_bool ?_
 cases c with
 | true=>exact hb pins s1 σ H1 Q I1 q1
 | false=>exact⟨.bl false,H1,I1,rfl,q1⟩
theorem IA (ha:PE X a ta) (hb:PE X (.BoolOp .Or (b::rest) pos) tb):PE X (.BoolOp .Or (a::b::rest) pos) (Hi ta tb):=by
 intro pins s σ H Q I h
 refine BoolOp_or (thn (ha pins s σ H _ I h) fun v s1 ⟨x,H1,I1,r1,q1⟩=>?_)
 obtain⟨c,rfl,q1⟩:=q1
 cases r1
 refine wpAny_truthy_bool ?_
 cases c with
 | false=>exact hb pins s1 σ H1 Q I1 q1
 | true=>exact⟨.bl true,H1,I1,rfl,q1⟩
theorem HS (ha:PE X a ta):PE X (.UnaryOp .Not a pos) (FS ta):=by
 intro pins s σ H Q I h
 refine UnaryOp_ (thn (ha pins s σ H _ I h) fun v s1 ⟨x,H1,I1,r1,q1⟩=>?_)
 obtain⟨c,rfl,q1⟩:=q1
 cases r1
 exact not_of (wpAny_truthy_bool ⟨.bl (!c),H1,I1,rfl,q1⟩)
end
def SqL (K:PySem.W.Frag) (H:Hp) (a:Addr) (xs:List V):Prop :=
 Rd H a (.lst xs) ∨
  ∃ (o:Obj) (its:Array Value) (n:Nat),K.lookup a=some o∧o.cls=.type "list"∧o.dict=none∧o.data=.seq its n∧its.size≤sizeLine∧Vals xs its.toList
def SqT (K:PySem.W.Frag) (H:Hp) (a:Addr) (xs:List V):Prop :=
 Rd H a (.tup xs) ∨
  ∃ (o:Obj) (its:Array Value) (n:Nat),K.lookup a=some o∧o.cls=.type "tuple"∧o.data=.seq its n∧its.size≤sizeLine∧Vals xs its.toList
def IG:Value→Option V
 | .none=>some .non
 | .bool b=>some (.bl b)
 | .int i _=>some (.int i)
 | .str x _=>some (.str x)
 | .bytes b _=>some (.byt b)
 | .float b _=>some (.flt b)
 | .ref a=>some (.ref a)
 | .type n=>some (.ty n)
 | _=>none
theorem RelV.abs {x:V} {u:Value} (r:RelV x u):IG u=some x:=by
 cases x with
 | non=>cases r; rfl
 | bl _=>cases r; rfl
 | int _=>obtain⟨t,rfl⟩:=r; rfl
 | str _=>obtain⟨t,rfl⟩:=r; rfl
 | byt _=>obtain⟨t,rfl⟩:=r; rfl
 | flt _=>obtain⟨t,rfl⟩:=r; rfl
 | ref _=>cases r; rfl
 | ty _=>cases r; rfl
theorem RelV.inj {x y:V} {u:Value} (r:RelV x u) (q:RelV y u):x=y:=Option.some.inj (r.abs.symm.trans q.abs)
theorem Vals.inj:∀ {xs ys:List V} {us:List Value},Vals xs us→Vals ys us→xs=ys
 | _,_,_,.nil,.nil=>rfl
 | _,_,_,.cons r t,.cons r' t'=>by rw[r.inj r',Vals.inj t t']
section
variable {X:Cx} {pins:List (Addr×Obj)} {σ:St} {H:Hp} {s:Shared} {a:Addr} {xs ys:List V}
theorem SqL.of {K:PySem.W.Frag} (h:H a=some (.lst xs)):SqL K H a xs:=.inl (.inl h)
theorem SqT.of {K:PySem.W.Frag} (h:H a=some (.tup xs)):SqT K H a xs:=.inl (.inl h)
theorem Inv.list (I:Inv X pins σ H s) (h:SqL X.K H a xs):∃ its:List Value,Vals xs its∧PlainL s.heap a its.toArray∧xs.length≤sizeLine:=by
 rcases h with h | ⟨o,its,n,hk,hc,hd,hs,hz,r⟩
 ·obtain⟨z,its,n,r,e⟩:=h.ok I.hok
  exact⟨its,r,⟨_,n,e,rfl,rfl,rfl⟩,z⟩
 ·refine⟨its.toList,r,⟨o,n,I.kIn a o hk,hc,hd,by simpa using hs⟩,?_⟩
  have e:=r.length
  simp only [Array.length_toList] at e
  omega
theorem Inv.tuple (I:Inv X pins σ H s) (h:SqT X.K H a xs):∃ its:List Value,Vals xs its∧IsTup s.heap a its.toArray∧xs.length≤sizeLine:=by
 rcases h with h | ⟨o,its,n,hk,hc,hs,hz,r⟩
 ·obtain⟨z,its,r,p,_⟩:=h.ok I.hok
  exact⟨its,r,p,z⟩
 ·refine⟨its.toList,r,⟨o,I.kIn a o hk,hc,n,by simpa using hs⟩,?_⟩
  have e:=r.length
  simp only [Array.length_toList] at e
  omega
theorem Inv.list_inj (I:Inv X pins σ H s) (h:SqL X.K H a xs) (h':SqL X.K H a ys):xs=ys:=by
 obtain⟨its,r,⟨o,n,e,_,_,d⟩,_⟩:=I.list h
 obtain⟨its',r',⟨o',n',e',_,_,d'⟩,_⟩:=I.list h'
 rw[e] at e'; cases e'
 rw[d] at d'
 injection d' with d1 _
 have:its=its':=by simpa using congrArg Array.toList d1
 subst this
 exact r.inj r'
theorem Inv.tuple_inj (I:Inv X pins σ H s) (h:SqT X.K H a xs) (h':SqT X.K H a ys):xs=ys:=by
 obtain⟨its,r,⟨o,e,_,n,d⟩,_⟩:=I.tuple h
 obtain⟨its',r',⟨o',e',_,n',d'⟩,_⟩:=I.tuple h'
 rw[e] at e'; cases e'
 rw[d] at d'
 injection d' with d1 _
 have:its=its':=by simpa using congrArg Array.toList d1
 subst this
 exact r.inj r'
end
abbrev Cx.wish (X:Cx) (E:Value→Shared→Prop):Cx:={ X with xe:=E }
abbrev Cx.nox (X:Cx):Cx:=X.wish fun _ _=>False
theorem Cx.Ok.wish {X:Cx} (ok:X.Ok) (E:Value→Shared→Prop):(X.wish E).Ok :=
 ⟨ok.mod,ok.kind,ok.glob,ok.blt,ok.above,ok.inj,ok.has,ok.cab,ok.hd,ok.frames,ok.stk,ok.exf,ok.bs,ok.bsz,ok.noex,ok.exfs,ok.funs,ok.frf⟩
theorem Cx.Ok.unwish {X:Cx} {E:Value→Shared→Prop} (ok:(X.wish E).Ok):X.Ok :=
 ⟨ok.mod,ok.kind,ok.glob,ok.blt,ok.above,ok.inj,ok.has,ok.cab,ok.hd,ok.frames,ok.stk,ok.exf,ok.bs,ok.bsz,ok.noex,ok.exfs,ok.funs,ok.frf⟩
section
variable {X:Cx} {pins:List (Addr×Obj)} {σ:St} {H:Hp} {s:Shared} {E:Value→Shared→Prop}
theorem Inv.wish (I:Inv X pins σ H s) (E:Value→Shared→Prop):Inv (X.wish E) pins σ H s:=⟨I.ok.wish E,I.os,I.bare,I.base,I.loc,I.cell,I.free,I.freeC,I.pin,I.hok,I.len⟩
theorem Inv.unwish (I:Inv (X.wish E) pins σ H s):Inv X pins σ H s:=⟨I.ok.unwish,I.os,I.bare,I.base,I.loc,I.cell,I.free,I.freeC,I.pin,I.hok,I.len⟩
theorem SP.unwish {D:Ends} {f:Flow} {s':Shared} (h:SP (X.wish E) pins D f s'):SP X pins D f s':=by
 cases f with
 | next=>obtain⟨σ',H',I,q⟩:=h; exact⟨σ',H',I.unwish,q⟩
 | brk=>obtain⟨σ',H',I,q⟩:=h; exact⟨σ',H',I.unwish,q⟩
 | cont=>obtain⟨σ',H',I,q⟩:=h; exact⟨σ',H',I.unwish,q⟩
 | ret u=>obtain⟨v,σ',H',I,r,q⟩:=h; exact⟨v,σ',H',I.unwish,r,q⟩
theorem PSs.nox {st:List Stmt} {t:TS} (h:PSs X.nox st t):PSs X st t:=fun pins s σ H D I hw =>
 wpAny_mono (h pins s σ H D (I.wish _) hw) (fun _ _ q=>q.unwish) fun _ _ z=>False.elim z
end
section
variable {X:Cx} {st:Stmt} {rest:List Stmt} {t u:TS} {e:Expr} {te:TE} {pos:Pos}
def Fj:TS:=fun D σ H=>D.nx σ H
def lK (t u:TS):TS:=fun D σ H=>t { D with nx:=u D } σ H
theorem kN:PSs X [] Fj:=fun _ _ σ H _ I h=>wpAny_execs_nil ⟨σ,H,I,h⟩
theorem ff (h1:PS X st t) (h2:PSs X rest u):PSs X (st::rest) (lK t u):=by
 intro pins s σ H D I h
 refine wpAny_execs_cons (thn (h1 pins s σ H { D with nx:=u D } I h) fun f s1 q=>?_)
 cases f with
 | next =>
  obtain⟨σ',H',I',q⟩:=q
  exact h2 pins s1 σ' H' D I' q
 | ret v=>exact q
 | brk=>exact q
 | cont=>exact q
theorem fL (h1:PS X st t):PSs X [st] t:=by
 intro pins s σ H D I h
 refine wpAny_execs_cons (thn (h1 pins s σ H D I h) fun f s1 q=>?_)
 cases f with
 | next=>exact wpAny_execs_nil q
 | ret v=>exact q
 | brk=>exact q
 | cont=>exact q
theorem Inv.quiet {pins:List (Addr×Obj)} {σ:St} {H:Hp} {s:Shared} (I:Inv X pins σ H s):interactive X.env=false:=by simp [interactive,I.ok.kind]
def FO (te:TE):TS:=fun D σ H=>te σ H fun _ H1=>D.nx σ H1
theorem tM (he:PE X e te) (hs:swapsWith e none pos.line X.env=pure false:=by rfl):PS X (.Expr e pos) (FO te):=by
 intro pins s σ H D I h
 exact wpAny_Expr_any (thn (he pins s σ H _ I h) fun v s1 ⟨x,H1,I1,r1,q1⟩=>⟨σ,H1,I1,q1⟩) I.quiet hs
def G0 (te:TE):TS:=fun D σ H=>te σ H D.rt
theorem ic (he:PE X e te):PS X (.Return (some e) pos) (G0 te):=by
 intro pins s σ H D I h
 exact wpAny_Return_some (thn (he pins s σ H _ I h) fun v s1 ⟨x,H1,I1,r1,q1⟩=>⟨x,σ,H1,I1,r1,q1⟩)
def Hs (c:TT) (t u:TS):TS:=fun D σ H=>c σ H fun b H1=>if b=true then t D σ H1 else u D σ H1
theorem nS {c:Expr} {a b:List Stmt} {tc:TT} (hc:PT X c tc) (ha:PSs X a t) (hb:PSs X b u):PS X (.If c a b pos) (Hs tc t u):=by
 intro pins s σ H D I h
 refine wpAny_If (thn (hc pins s σ H _ I h) fun d s1 ⟨H1,I1,q1⟩=>?_)
 cases d with
 | true=>exact ha pins s1 σ H1 D I1 q1
 | false=>exact hb pins s1 σ H1 D I1 q1
end
abbrev TG:=V→St→Hp→(St→Hp→Prop)→Prop
abbrev TGs:=List V→St→Hp→(St→Hp→Prop)→Prop
def PG (X:Cx) (target:Expr) (t:TG):Prop :=
 ∀ (pins:List (Addr×Obj)) (s:Shared) (σ:St) (H:Hp) (v:V) (u:Value) (Q:St→Hp→Prop),Inv X pins σ H s→RelV v u→t v σ H Q →
  wpAny (model X.prog X.w) X.A (assign target X.env u) (fun _ s'=>∃ σ' H',Inv X pins σ' H' s'∧Q σ' H') X.xe s
def PGs (X:Cx) (ts:List Expr) (t:TGs):Prop :=
 ∀ (pins:List (Addr×Obj)) (s:Shared) (σ:St) (H:Hp) (vs:List V) (us:List Value) (Q:St→Hp→Prop),Inv X pins σ H s→Vals vs us→t vs σ H Q →
  wpAny (model X.prog X.w) X.A (assignInOrder ((assignEach ts X.env).map (·.2)) us) (fun _ s'=>∃ σ' H',Inv X pins σ' H' s'∧Q σ' H') X.xe s
abbrev Aa:=V→V→V→Hp→(Hp→Prop)→Prop
def Eo (X:Cx) (t:Aa):Prop :=
 ∀ (pins:List (Addr×Obj)) (s:Shared) (σ:St) (H:Hp) (o i v:V) (ov iv u:Value) (Q:Hp→Prop),Inv X pins σ H s→RelV o ov→RelV i iv→RelV v u→t o i v H Q →
  wpAny (model X.prog X.w) X.A (setItem ov iv u) (fun _ s'=>∃ H',Inv X pins σ H' s'∧Q H') X.xe s
abbrev TIp:=V→V→Hp→VK→Prop
def PIp (X:Cx) (op:Operator) (t:TIp):Prop :=
 ∀ (pins:List (Addr×Obj)) (s:Shared) (σ:St) (H:Hp) (x y:V) (v u:Value) (Q:VK),Inv X pins σ H s→RelV x v→RelV y u→t x y H Q →
  wpAny (model X.prog X.w) X.A (inplaceOp op v u) (EP X pins σ Q) X.xe s
section
variable {X:Cx} {pos:Pos}
def we (i:Nat):TG:=fun v σ H Q=>Q (σ.set i (some v)) H
theorem fT {i:Nat} {x:Str} (hN:X.N.Nodup) (hi:X.N[i]?=some x) (hx:Loc X.env.scope x) (hf:X.fn x=true∨X.env.scope.names.lookup x=some .local:=by first | exact .inl rfl | exact .inr rfl | assumption):PG X (.Name x pos) (we i):=by
 intro pins s σ H v u Q I r h
 exact wpAny_assign_Name (xP I hN hi hx r (fun s' I'=>⟨_,H,I',h⟩) hf)
def HP:TGs:=fun vs σ H Q=>vs=[]∧Q σ H
def Fp (t:TG) (u:TGs):TGs:=fun vs σ H Q=>∃ v r,vs=v::r∧t v σ H fun σ' H'=>u r σ' H' Q
theorem pB:PGs X [] HP:=by
 intro pins s σ H vs us Q I r h
 obtain⟨e,h⟩:=h
 subst e
 cases r
 exact assignInOrder_nil ⟨σ,H,I,h⟩
theorem ia {e:Expr} {es:List Expr} {t:TG} {u:TGs} (h1:PG X e t) (h2:PGs X es u)
  (hs:(assignEach (e::es) X.env).map (·.2)=assign e X.env::(assignEach es X.env).map (·.2):=by rfl):PGs X (e::es) (Fp t u):=by
 intro pins s σ H vs us Q I r h
 obtain⟨v,vr,e1,h⟩:=h
 subst e1
 cases r with
 | cons r rr =>
  rw[hs]
  refine assignInOrder_cons (thn (h1 pins s σ H _ _ _ I r h) fun _ s1 ⟨σ1,H1,I1,q1⟩=>?_)
  exact h2 pins s1 σ1 H1 _ _ Q I1 rr q1
def ET (K:PySem.W.Frag) (n:Nat) (t:TGs):TG:=fun v σ H Q=>∃ a xs,v=.ref a∧SqT K H a xs∧xs.length=n∧t xs σ H Q
theorem ve {es:List Expr} {k:Nat} {t:TGs} {n:Nat} (hc:X.calm=true) (h:PGs X es t)
  (hn:(assignEach es X.env).length=n:=by rfl) (hst:(assignEach es X.env).findIdx? (·.1)=none:=by rfl):PG X (.Tuple es k pos) (ET X.K n t):=by
 intro pins s σ H v u Q I r hw
 obtain⟨a,xs,e1,hq,hl,hw⟩:=hw
 subst e1
 cases r
 obtain⟨its,rv,ht,hz⟩:=I.tuple hq
 refine assign_Tuple_tuple (I.ok.hd hc) ht (by simp [hn,← hl,rv.length]) hst fun h' hx=>?_
 have I1:Inv X pins σ H { s with heap:=h' }:=I.kept (t':=s.toks) fun b o e=>hx b o (Nat.ne_of_lt (Heap.lt_size e)) e
 exact h pins _ σ H xs _ Q I1 (by simpa using rv) hw
def Ht (to ti:TE) (t:Aa):TG:=fun v σ H Q=>to σ H fun o H1=>ti σ H1 fun i H2=>t o i v H2 fun H3=>Q σ H3
theorem vD {o i:Expr} {to ti:TE} {t:Aa} (ho:PE X o to) (hi:PE X i ti) (hs:Eo X t)
  (ha:∀ v,assign (.Subscript o i pos) X.env v=(do
   let ov ← holding [v] (eval o X.env)
   let iv ← holding [v,ov] (eval i X.env)
   standAt pos
   holding [v,ov,iv] (setItem ov iv v)
   release [v,ov,iv] []):=by intro _; rfl):PG X (.Subscript o i pos) (Ht to ti t):=by
 intro pins s σ H v u Q I r h
 rw[ha]
 refine wpAny_bind (wpAny_holding (thn (ho pins s σ H _ I h) fun ov s1 ⟨x,H1,I1,r1,q1⟩=>?_))
 refine wpAny_bind (wpAny_holding (thn (hi pins s1 σ H1 _ I1 q1) fun iv s2 ⟨y,H2,I2,r2,q2⟩=>?_))
 refine wpAny_bind (wpAny_standAt (wpAny_bind (wpAny_holding (thn (hs pins s2 σ H2 x y v ov iv u _ I2 r1 r2 r q2) fun _ s3 ⟨H3,I3,q3⟩=>?_))))
 exact wpAny_release ⟨σ,H3,I3,q3⟩
def Cs (te:TE) (g:TG):TS:=fun D σ H=>te σ H fun x H1=>g x σ H1 D.nx
theorem uB {tg e:Expr} {te:TE} {g:TG} (he:PE X e te) (hg:PG X tg g) (hs:swapsWithSole [tg] e pos.line X.env=pure false:=by rfl) (hw:swappedStores [tg] e X.env=pure none:=by rfl)
  (h1:(assignEach [tg] X.env).map (·.2)=[assign tg X.env]:=by rfl):PS X (.Assign [tg] e pos) (Cs te g):=by
 intro pins s σ H D I h
 refine wpAny_Assign_stores (thn (he pins s σ H _ I h) fun v s1 ⟨x,H1,I1,r1,q1⟩=>?_) hs hw
 rw[h1]
 exact thn (hg pins s1 σ H1 x v _ I1 r1 q1) fun _ s2 q=>q
theorem gI {i:Nat} {x:Str} {e:Expr} {te:TE} {pos':Pos} (hN:X.N.Nodup) (hi:X.N[i]?=some x) (hx:Loc X.env.scope x) (he:PE X e te) (hs:swapsWith e (some (.Name x pos')) pos.line X.env=pure false:=by rfl) (hf:X.fn x=true∨X.env.scope.names.lookup x=some .local:=by first | exact .inl rfl | exact .inr rfl | assumption) :
  PS X (.Assign [.Name x pos'] e pos) (Cs te (we i)):=by
 intro pins s σ H D I h
 refine wpAny_Assign_Name (thn (he pins s σ H _ I h) fun v s1 ⟨y,H1,I1,r1,q1⟩=>?_) hs
 exact xP I1 hN hi hx r1 (fun s2 I2=>⟨_,H1,I2,q1⟩) hf
def HL (i:Nat) (te:TE) (ti:TIp):TS:=fun D σ H=>∃ x,σ[i]?=some (some x)∧te σ H fun y H1=>ti x y H1 fun z H2=>D.nx (σ.set i (some z)) H2
theorem C6 {i:Nat} {x:Str} {e:Expr} {te:TE} {op:Operator} {ti:TIp} {pos':Pos} (hN:X.N.Nodup) (hi:X.N[i]?=some x) (hx:Loc X.env.scope x) (he:PE X e te) (ho:PIp X op ti) (hf:X.fn x=true∨X.env.scope.names.lookup x=some .local:=by first | exact .inl rfl | exact .inr rfl | assumption) :
  PS X (.AugAssign (.Name x pos') op e pos) (HL i te ti):=by
 intro pins s σ H D I h
 obtain⟨v,e1,h⟩:=h
 obtain⟨m,hn,hl⟩:=I.loc
 have vis:Vis X.env.scope x:=by rcases hx with k | k; exact .inl k; exact .inr (.inl k)
 obtain⟨u,r,l⟩:=hl i x v hi e1 vis
 refine wpAny_AugAssign_Name ?_
 have go:wpAny (model X.prog X.w) X.A (eval e X.env) (fun w s₂=>wpAny (model X.prog X.w) X.A (inplaceOp op u w) (fun r s₃=>wpAny (model X.prog X.w) X.A (storeName X.env x r) (fun _=>SP X pins D .next) X.xe s₃) X.xe s₂) X.xe s:=by
  refine thn (he pins s σ H _ I h) fun w s1 ⟨y,H1,I1,r1,q1⟩=>?_
  refine thn (ho pins s1 σ H1 v y u w _ I1 r r1 q1) fun z s2 ⟨zv,H2,I2,r2,q2⟩=>?_
  exact xP I2 hN hi hx r2 (fun s3 I3=>⟨_,H2,I3,q2⟩) hf
 rcases l with ⟨hk,hm⟩ | ⟨hk,c,hc,hcell⟩
 ·exact wpAny_loadName_local I.ok.kind hk hn hm go
 ·rcases hk with hk | hk
  ·exact wpAny_loadName_cell I.ok.kind hk hc hcell go
  ·rcases hx with k | k
   ·have:X.env.scope.names.lookup x=some .free:=hk
    rw[k] at this; cases this
   ·have:X.env.scope.names.lookup x=some .free:=hk
    rw[k] at this; cases this
def Fx (to ti te:TE) (tget:V→V→Hp→VK→Prop) (tip:TIp) (tset:Aa):TS:=fun D σ H=>to σ H fun o H1=>ti σ H1 fun i H2=>tget o i H2 fun x H3=>te σ H3 fun y H4=>tip x y H4 fun z H5=>tset o i z H5 fun H6=>D.nx σ H6
def HC (X:Cx) (t:V→V→Hp→VK→Prop):Prop :=
 ∀ (pins:List (Addr×Obj)) (s:Shared) (σ:St) (H:Hp) (o i:V) (ov iv:Value) (Q:VK),Inv X pins σ H s→RelV o ov→RelV i iv→t o i H Q →
  wpAny (model X.prog X.w) X.A (getItem ov iv) (EP X pins σ Q) X.xe s
theorem yG {o i e:Expr} {to ti te:TE} {tget:V→V→Hp→VK→Prop} {tip:TIp} {tset:Aa} {op:Operator} {tpos:Pos} (ho:PE X o to) (hi:PE X i ti) (hg:HC X tget) (he:PE X e te) (hp:PIp X op tip) (hs:Eo X tset)
  (ha:∀ ov iv new,augStore i ov iv new=(do holding [new,ov,iv] (setItem ov iv new); release [new,ov,iv] []; pure .next):=by intros; rfl):PS X (.AugAssign (.Subscript o i tpos) op e pos) (Fx to ti te tget tip tset):=by
 intro pins s σ H D I h
 refine wpAny_AugAssign_SubscriptAny (thn (ho pins s σ H _ I h) fun ov s1 ⟨x1,H1,I1,r1,q1⟩=>?_) ha
 refine thn (hi pins s1 σ H1 _ I1 q1) fun iv s2 ⟨x2,H2,I2,r2,q2⟩=>?_
 refine thn (hg pins s2 σ H2 x1 x2 ov iv _ I2 r1 r2 q2) fun old s3 ⟨x3,H3,I3,r3,q3⟩=>?_
 refine thn (he pins s3 σ H3 _ I3 q3) fun v s4 ⟨x4,H4,I4,r4,q4⟩=>?_
 refine thn (hp pins s4 σ H4 x3 x4 old v _ I4 r3 r4 q4) fun new s5 ⟨x5,H5,I5,r5,q5⟩=>?_
 exact thn (hs pins s5 σ H5 x1 x2 x5 ov iv new _ I5 r1 r2 r5 q5) fun _ s6 ⟨H6,I6,q6⟩=>⟨σ,H6,I6,q6⟩
def ipI (f:Int→Int→Int):TIp:=fun x y H Q=>∃ i j,x=.int i∧y=.int j∧Q (.int (f i j)) H
theorem Df:PIp X .Add (ipI fun i j=>i+j):=by
 intro pins s σ H x y v u Q I r1 r2 h
 obtain⟨i,j,e1,e2,q⟩:=h
 subst e1; subst e2
 obtain⟨t,rfl⟩:=r1
 obtain⟨t',rfl⟩:=r2
 exact iadd_int ⟨.int _,H,I.tok _,⟨_,rfl⟩,q⟩
theorem Ar:PIp X .Sub (ipI fun i j=>i-j):=by
 intro pins s σ H x y v u Q I r1 r2 h
 obtain⟨i,j,e1,e2,q⟩:=h
 subst e1; subst e2
 obtain⟨t,rfl⟩:=r1
 obtain⟨t',rfl⟩:=r2
 exact isub_int ⟨.int _,H,I.tok _,⟨_,rfl⟩,q⟩
end
section
variable {X:Cx} {pos:Pos}
def HX (c:TT) (tb:TS):TS:=fun D σ H=>∃ W:Nat→St→Hp→Prop,(∃ m,W m σ H)∧∀ m σ H,W m σ H →
 c σ H fun b H1=>if b=true then ∃ N:St→Hp→Prop,(∀ σ' H',N σ' H'→∃ m',m'<m∧W m' σ' H')∧tb { D with nx:=N,ct:=N,bk:=D.nx } σ H1 else D.nx σ H1
theorem yd {c:Expr} {body:List Stmt} {tc:TT} {tb:TS} (hp:PassesOwn (model X.prog X.w) X.A X.env X.xe) (hc:PT X c tc) (hb:PSs X body tb):PS X (.While c body [] pos) (HX tc tb):=by
 intro pins s σ H D I h
 obtain⟨W,⟨m0,w0⟩,turn⟩:=h
 refine wpAny_While (codeAny_whileLoop (fun n s'=>∃ σ' H',Inv X pins σ' H' s'∧W n σ' H') ?_ m0 ⟨σ,H,I,w0⟩)
 rintro n s1 ⟨σ1,H1,I1,w1⟩
 refine wpAny_passesOwn hp (thn (hc pins s1 σ1 H1 _ I1 (turn n σ1 H1 w1)) fun b s2 ⟨H2,I2,q2⟩=>?_)
 cases b with
 | true =>
  obtain⟨N,hN,q2⟩:=q2
  rw[if_pos rfl]
  refine wpAny_passesOwn hp (thn (hb pins s2 σ1 H2 _ I2 q2) fun f s3 q3=>?_)
  cases f with
  | next =>
   obtain⟨σ3,H3,I3,n3⟩:=q3
   obtain⟨m',hm,w3⟩:=hN σ3 H3 n3
   exact⟨m',hm,σ3,H3,I3,w3⟩
  | cont =>
   obtain⟨σ3,H3,I3,n3⟩:=q3
   obtain⟨m',hm,w3⟩:=hN σ3 H3 n3
   exact⟨m',hm,σ3,H3,I3,w3⟩
  | brk=>exact q3
  | ret v=>exact q3
 | false =>
  rw[if_neg Bool.false_ne_true]
  exact wpAny_execs_nil ⟨σ1,H2,I2,q2⟩
end
structure It where
 go:Nat→Hp→Prop
 yld:Nat→Hp→V→Hp→Prop
 stop:Nat→Hp→Prop
def FpOk (X:Cx) (pins:List (Addr×Obj)) (H:Hp) (b:Addr):Prop :=
 H b=none∧b≠X.env.locals∧b ∉ X.fs∧(b∈X.ex∨X.s₀.heap.objs.size≤b)∧(∀ x c,X.env.cells.lookup x=some c→c≠b)∧∀ p∈X.pn++pins,p.1≠b
theorem Inv.fpOk {X:Cx} {pins:List (Addr×Obj)} {σ:St} {H H':Hp} {s:Shared} {b:Addr} (I:Inv X pins σ H s) (hb:s.heap.objs.size≤b) (hn:H' b=none):FpOk X pins H' b:=by
 refine⟨hn,Nat.ne_of_gt (Nat.lt_of_lt_of_le I.lt hb),I.nofs hb,.inr (Nat.le_trans I.sz hb),fun x c e z=>?_,fun p hp z=>?_⟩
 ·obtain⟨v,q⟩:=I.cell x c e
  exact absurd (Nat.lt_of_lt_of_le q.lt (by rw[z]; exact hb)) (Nat.lt_irrefl _)
 ·exact absurd (Nat.lt_of_lt_of_le (Heap.lt_size (I.pin p hp).1) (by rw[z]; exact hb)) (Nat.lt_irrefl _)
structure Turn (P:Program) (w:World) (K:PySem.W.Frag) (tg:Expr) (J:It) (fp:List Addr) (it:Addr) (tn:Nat→Heap→Prop):Prop where
 mem:it∈fp
 obj:∀ i h,tn i h→∀ b∈fp,∃ o,h.get? b=some o∧∀ v,o.data≠.cell v
 keep:∀ i h h',tn i h→(∀ b∈fp,∀ o,h.get? b=some o→h'.get? b=some o)→tn i h'
 item:∀ (X:Cx),X.prog=P→X.w=w→X.K=K→X.calm=true→∀ (i:Nat) (pins:List (Addr×Obj)) (s:Shared) (σ:St) (H:Hp) (E:Value→Shared→Prop),Inv X pins σ H s→(∀ b∈fp,FpOk X pins H b)→tn i s.heap→J.go i H →
  wpAny (model P w) X.A (pyNext (.ref it)) (fun r s1=>∃ u,r=some u ∧
   wpAny (model P w) X.A (letOwnedTupleGo tg (.ref it) u) (fun _ s2=>∃ x H',Inv X pins σ H' s2∧RelV x u∧J.yld i H x H'∧tn (i+1) s2.heap∧∀ b∈fp,H' b=none) E s1) E s
 done:∀ (X:Cx),X.prog=P→X.w=w→X.K=K→X.calm=true→∀ (i:Nat) (pins:List (Addr×Obj)) (s:Shared) (σ:St) (H:Hp) (E:Value→Shared→Prop),Inv X pins σ H s→(∀ b∈fp,FpOk X pins H b)→tn i s.heap→J.stop i H →
  wpAny (model P w) X.A (pyNext (.ref it)) (fun r s1=>r=none∧Inv X pins σ H s1) E s
 self:∀ (A:Around) (i:Nat) (s:Shared) (Q:Value→Shared→Prop) (E:Value→Shared→Prop),tn i s.heap→Q (.ref it) s→wpAny (model P w) A (pyIter (.ref it)) Q E s
abbrev TI:=St→Hp→(It→Hp→Prop)→Prop
def PIE (X:Cx) (pins:List (Addr×Obj)) (σ:St) (tg:Expr) (R:It→Hp→Prop) (itv:Value) (s2:Shared):Prop :=
 ∃ (it:Addr) (fp:List Addr) (tn:Nat→Heap→Prop) (J:It) (H':Hp),itv=.ref it∧Inv X pins σ H' s2∧Turn X.prog X.w X.K tg J fp it tn∧tn 0 s2.heap∧(∀ b∈fp,FpOk X pins H' b)∧R J H'
def PI (X:Cx) (tg iter:Expr) (wi:TI):Prop :=
 ∀ (pins:List (Addr×Obj)) (s:Shared) (σ:St) (H:Hp) (R:It→Hp→Prop),Inv X pins σ H s→wi σ H R →
  wpAny (model X.prog X.w) X.A (eval iter X.env) (fun v s1=>wpAny (model X.prog X.w) X.A (pyIter v) (PIE X pins σ tg R) X.xe s1) X.xe s
theorem zQ {M:Model} {A:Around} {E:Value→Shared→Prop} {s:Shared} {tg:Expr} {it:Addr} {u:Value} {o:Obj} {n:String} {vs:Array Value} {Q:Unit→Shared→Prop} (ho:s.heap.get? it=some o) (hc:o.cls=.type n) (hd:o.data=.fields vs)
    (hn:["enumerate","zip","dict_itemiterator","dict_reverseitemiterator","odict_iterator","itertools.zip_longest","itertools.pairwise"].contains n=false) (hQ:Q () s):wpAny M A (letOwnedTupleGo tg (.ref it) u) Q E s:=by
  unfold letOwnedTupleGo
  cases tg <;> first
    | exact wpAny_pure hQ
    | (cases u <;> first
        | exact wpAny_pure hQ
        | (refine wpAny_bind (wpAny_load ho ?_)
           rw[hc,hd]
           show wpAny M A (if (["enumerate","zip","dict_itemiterator","dict_reverseitemiterator","odict_iterator","itertools.zip_longest","itertools.pairwise"].contains n && vs[0]? == some (rawInt _))=true then _ else _) Q E s
           rw[if_neg (by intro h; rw[hn,Bool.false_and] at h; cases h)]
           exact wpAny_pure hQ))
def Itl (K:PySem.W.Frag) (a:Addr):It :=
 ⟨fun i H=>∃ xs x,SqL K H a xs∧xs[i]?=some x,fun i H x H'=>H'=H∧∀ xs,SqL K H a xs→xs[i]?=some x,fun i H=>∃ xs,SqL K H a xs∧xs.length≤i⟩
def Itt (K:PySem.W.Frag) (a:Addr):It :=
 ⟨fun i H=>∃ xs x,SqT K H a xs∧xs[i]?=some x,fun i H x H'=>H'=H∧∀ xs,SqT K H a xs→xs[i]?=some x,fun i H=>∃ xs,SqT K H a xs∧xs.length≤i⟩
def Itr (lo:Int) (n:Nat):It:=⟨fun i _=>i<n,fun i H x H'=>H'=H∧x=.int (lo+i),fun i _=>n≤i⟩
theorem C4 {P:Program} {w:World} {K:PySem.W.Frag} {tg:Expr} (a it:Addr):Turn P w K tg (Itl K a) [it] it (fun i h=>h.IsListIter it a i) where
 mem:=by simp
 obj:=fun i h st b hb=>by
  have e:b=it:=by simpa using hb
  subst e
  obtain⟨o,e,c,d⟩:=st
  exact⟨o,e,fun v z=>by rw[d] at z; cases z⟩
 keep:=fun i h h' st k=>st.at fun o e=>k it (by simp) o e
 item:=by
  intro X hP hw hK hc i pins s σ H E I hf st hg
  subst hP hw hK
  obtain⟨xs,x,hq,hx⟩:=hg
  obtain⟨its,rv,p,hz⟩:=I.list hq
  obtain⟨u,hu,ru⟩:=rv.get hx
  obtain⟨f0,f1,f2,f3,f4,f5⟩:=hf it (by simp)
  refine wpAny_pyNext_list_item st p.isList (x:=u) (by simpa using hu) fun h' st' sb=>?_
  have I1:Inv X pins σ H { s with heap:=h' }:=I.turned (t':=s.toks) (fun b o hb e=>(sb.2 b hb).trans e) f0 f1 f3 f4 f5
  obtain⟨o,e,c,d⟩:=id st'
  exact⟨u,rfl,zQ (s:={ s with heap:=h' }) e c d (by decide) ⟨x,H,I1,ru,⟨rfl,fun ys hy=>by rw[I.list_inj hy hq]; exact hx⟩,st',fun b hb=>(hf b hb).1⟩⟩
 done:=by
  intro X hP hw hK hc i pins s σ H E I hf st hg
  subst hP hw hK
  obtain⟨xs,hq,hx⟩:=hg
  obtain⟨its,rv,p,hz⟩:=I.list hq
  obtain⟨f0,f1,f2,f3,f4,f5⟩:=hf it (by simp)
  have hl:=rv.length
  exact wpAny_pyNext_list_end (I.ok.hd hc) st p.isList (by simp; omega) fun h' eb=>⟨rfl,I.turned (t':=s.toks) (fun b o hb e=>eb b o hb e) f0 f1 f3 f4 f5⟩
 self:=fun _ _ _ _ _ st h=>wpAny_pyIter_listiter st h
theorem Ci {P:Program} {w:World} {K:PySem.W.Frag} {tg:Expr} (a it:Addr):Turn P w K tg (Itt K a) [it] it (fun i h=>h.IsTupleIter it a i) where
 mem:=by simp
 obj:=fun i h st b hb=>by
  have e:b=it:=by simpa using hb
  subst e
  obtain⟨o,e,c,d⟩:=st
  exact⟨o,e,fun v z=>by rw[d] at z; cases z⟩
 keep:=fun i h h' st k=>st.at fun o e=>k it (by simp) o e
 item:=by
  intro X hP hw hK hc i pins s σ H E I hf st hg
  subst hP hw hK
  obtain⟨xs,x,hq,hx⟩:=hg
  obtain⟨its,rv,p,hz⟩:=I.tuple hq
  obtain⟨u,hu,ru⟩:=rv.get hx
  obtain⟨f0,f1,f2,f3,f4,f5⟩:=hf it (by simp)
  refine wpAny_pyNext_tuple_item st (show s.heap.IsTuple a its.toArray from p) (x:=u) (by simpa using hu) fun h' st' sb=>?_
  have I1:Inv X pins σ H { s with heap:=h' }:=I.turned (t':=s.toks) (fun b o hb e=>(sb.2 b hb).trans e) f0 f1 f3 f4 f5
  obtain⟨o,e,c,d⟩:=id st'
  exact⟨u,rfl,zQ (s:={ s with heap:=h' }) e c d (by decide) ⟨x,H,I1,ru,⟨rfl,fun ys hy=>by rw[I.tuple_inj hy hq]; exact hx⟩,st',fun b hb=>(hf b hb).1⟩⟩
 done:=by
  intro X hP hw hK hc i pins s σ H E I hf st hg
  subst hP hw hK
  obtain⟨xs,hq,hx⟩:=hg
  obtain⟨its,rv,p,hz⟩:=I.tuple hq
  obtain⟨f0,f1,f2,f3,f4,f5⟩:=hf it (by simp)
  have hl:=rv.length
  exact wpAny_pyNext_tuple_end (I.ok.hd hc) st (show s.heap.IsTuple a its.toArray from p) (by simp; omega) fun h' eb=>⟨rfl,I.turned (t':=s.toks) (fun b o hb e=>eb b o hb e) f0 f1 f3 f4 f5⟩
 self:=fun _ _ _ _ _ st h=>wpAny_pyIter_tupleiter st h
theorem B7 {P:Program} {w:World} {K:PySem.W.Frag} {tg:Expr} (it:Addr) (lo:Int) (n:Nat):Turn P w K tg (Itr lo n) [it] it (fun i h=>IsRangeIter h it (lo+(i:Nat) * 1) ((n:Int)-(i:Nat)) 1) where
 mem:=by simp
 obj:=fun i h st b hb=>by
  have e:b=it:=by simpa using hb
  subst e
  exact⟨_,st,fun v z=>by
   have z':Data.fields _=Data.cell v:=z
   cases z'⟩
 keep:=fun i h h' st k=>k it (by simp) _ st
 item:=by
  intro X hP hw hK hc i pins s σ H E I hf st hg
  subst hP hw hK
  obtain⟨f0,f1,f2,f3,f4,f5⟩:=hf it (by simp)
  have W:=Walks.range (prog:=X.prog) (w:=X.w) (I.ok.hd hc) it lo 1 n
  refine W.item i s _ _ hg st fun v h' tk hv st' kk=>?_
  obtain⟨t,rfl⟩:=hv
  have I1:Inv X pins σ H { s with heap:=h',toks:=tk }:=I.turned (fun b o hb e=>kk b o (by simpa using hb) e) f0 f1 f3 f4 f5
  refine⟨_,rfl,zQ (s:={ s with heap:=h',toks:=tk }) (n:="range_iterator") st' rfl rfl (by decide) ⟨.int (lo+i),H,I1,⟨t,?_⟩,⟨rfl,rfl⟩,st',fun b hb=>(hf b hb).1⟩⟩
  rw[Int.mul_one]
 done:=by
  intro X hP hw hK hc i pins s σ H E I hf st hg
  subst hP hw hK
  obtain⟨f0,f1,f2,f3,f4,f5⟩:=hf it (by simp)
  exact wpAny_pyNext_range_end (I.ok.hd hc) st (by have:n≤i:=hg; omega) fun h' eb=>⟨rfl,I.turned (t':=s.toks) (fun b o hb e=>eb b o hb e) f0 f1 f3 f4 f5⟩
 self:=fun _ _ _ _ _ st h=>wpAny_pyIter_rangeiter st h
section
variable {X:Cx} {tg:Expr}
def FJ (K:PySem.W.Frag) (tl:TE):TI:=fun σ H R=>tl σ H fun x H1=>∃ a,x=.ref a∧(∃ xs,SqL K H1 a xs)∧R (Itl K a) H1
def HF (K:PySem.W.Frag) (tl:TE):TI:=fun σ H R=>tl σ H fun x H1=>∃ a,x=.ref a∧(∃ xs,SqT K H1 a xs)∧R (Itt K a) H1
theorem m8 {l:Expr} {tl:TE} (hl:PE X l tl):PI X tg l (FJ X.K tl):=by
 intro pins s σ H R I h
 refine thn (hl pins s σ H _ I h) fun v s1 ⟨x,H1,I1,r1,q1⟩=>?_
 obtain⟨a,e,⟨xs,hq⟩,q⟩:=q1
 subst e
 cases r1
 obtain⟨its,rv,p,hz⟩:=I1.list hq
 refine wpAny_pyIter_list p.isList ?_
 refine⟨s1.heap.objs.size,[s1.heap.objs.size],_,_,H1,rfl,I1.kept (t':=s1.toks) fun b o e=>Heap.get?_push_of_some _ e,C4 a _,⟨_,Heap.get?_push_size _ rfl,rfl,rfl⟩,fun b hb=>?_,q⟩
 have e:b=s1.heap.objs.size:=by simpa using hb
 subst e
 exact I1.fpOk (Nat.le_refl _) (I1.hok.fresh (Nat.le_refl _))
theorem Hw {l:Expr} {tl:TE} (hl:PE X l tl):PI X tg l (HF X.K tl):=by
 intro pins s σ H R I h
 refine thn (hl pins s σ H _ I h) fun v s1 ⟨x,H1,I1,r1,q1⟩=>?_
 obtain⟨a,e,⟨xs,hq⟩,q⟩:=q1
 subst e
 cases r1
 obtain⟨its,rv,p,hz⟩:=I1.tuple hq
 refine wpAny_pyIter_tuple (show s1.heap.IsTuple a its.toArray from p) ?_
 refine⟨s1.heap.objs.size,[s1.heap.objs.size],_,_,H1,rfl,I1.kept (t':=s1.toks) fun b o e=>Heap.get?_push_of_some _ e,Ci a _,⟨_,Heap.get?_push_size _ rfl,rfl,rfl⟩,fun b hb=>?_,q⟩
 have e:b=s1.heap.objs.size:=by simpa using hb
 subst e
 exact I1.fpOk (Nat.le_refl _) (I1.hok.fresh (Nat.le_refl _))
theorem EG {pins:List (Addr×Obj)} {σ:St} {H:Hp} {s:Shared} {R:It→Hp→Prop} {E:Value→Shared→Prop} {lo hi:Int} {t u v:Tok} {tk:Nat} (I:Inv X pins σ H s) (h1:-(2 ^ 62)≤lo) (h2:lo<2 ^ 62) (h3:-(2 ^ 62)≤hi) (h4:hi<2 ^ 62)
  (q:R (Itr lo (hi-lo).toNat) H):wpAny (model X.prog X.w) X.A (pyIter (.ref s.heap.objs.size)) (PIE X pins σ tg R) E { s with heap:=s.heap.push { cls:=.type "range",data:=.fields #[.int lo t,.int hi u,.int 1 v] },toks:=tk }:=by
 refine wpAny_pyIter_range (IsRange.new ..) (small_one h1 h2 h3 h4) ?_
 have I1:Inv X pins σ H { s with heap:=s.heap.push { cls:=.type "range",data:=.fields #[.int lo t,.int hi u,.int 1 v] },toks:=tk }:=I.kept fun b o e=>Heap.get?_push_of_some _ e
 refine⟨(s.heap.push { cls:=.type "range",data:=.fields #[.int lo t,.int hi u,.int 1 v] }).objs.size,[(s.heap.push { cls:=.type "range",data:=.fields #[.int lo t,.int hi u,.int 1 v] }).objs.size],_,_,H,rfl,
  I1.kept (t':=tk) fun b o e=>Heap.get?_push_of_some _ e,B7 _ lo (hi-lo).toNat,?_,fun b hb=>?_,q⟩
 ·have e1:lo+((0:Nat):Int) * 1=lo:=by simp
  have e2:(((hi-lo).toNat:Nat):Int)-((0:Nat):Int)=Builtin.Range.rangeSize lo hi 1:=by rw[rangeSize_one]; split <;> omega
  show IsRangeIter _ _ (lo+((0:Nat):Int) * 1) ((((hi-lo).toNat:Nat):Int)-((0:Nat):Int)) 1
  rw[e1,e2]
  exact Heap.get?_push_size _ rfl
 ·have e:b=(s.heap.push { cls:=.type "range",data:=.fields #[.int lo t,.int hi u,.int 1 v] }).objs.size:=by simpa using hb
  subst e
  exact I1.fpOk (Nat.le_refl _) (I1.hok.fresh (Nat.le_refl _))
def Fe (ta:TA):TI:=fun σ H R=>ta σ H fun vs H1=>∃ j:Int,vs=[.int j]∧-(2 ^ 62)≤j∧j<2 ^ 62∧R (Itr 0 j.toNat) H1
theorem pA {a:Expr} {ta:TA} {p pos:Pos} (hg:Gl X "range") (hm:X.mg "range"=none) (ha:PA X [a] ta) (hs:starEach [a] X.env=[(false,eval a X.env)]:=by rfl):PI X tg (.Call (.Name "range" p) [a] [] pos) (Fe ta):=by
 intro pins s σ H R I h
 refine Call_ (uz I hg hm boot_range (PyProof.Rows.callWith_type1 (thn (ha pos pins s σ H _ I h) fun us s1 ⟨vs,H1,I1,r1,q1⟩=>?_) hs rfl))
 obtain⟨j,e,q1,q2,q⟩:=q1
 subst e
 cases r1 with
 | cons r rr =>
  cases rr
  obtain⟨t,rfl⟩:=r
  exact call_range_1 (EG I1 (by omega) (by omega) q1 q2 (by simpa using q))
def Ib (wi:TI) (g:TG) (tb:TS):TS:=fun D σ H=>wi σ H fun J H1=>∃ W:Nat→Nat→St→Hp→Prop,(∃ m,W 0 m σ H1)∧∀ i m σ H,W i m σ H →
 (J.stop i H∧D.nx σ H)∨(J.go i H∧∃ N:St→Hp→Prop,(∀ σ' H',N σ' H'→∃ m',m'<m∧W (i+1) m' σ' H')∧∀ x H',J.yld i H x H'→g x σ H' fun σ2 H2=>tb { D with nx:=N,ct:=N,bk:=D.nx } σ2 H2)
def wX (fp:List Addr) (h:Heap):List (Addr×Obj):=fp.filterMap fun b=>(h.get? b).map fun o=>(b,o)
theorem vj {fp:List Addr} {h:Heap} {b:Addr} {o:Obj} (hb:b∈fp) (e:h.get? b=some o):(b,o)∈wX fp h:=List.mem_filterMap.mpr ⟨b,hb,by rw[e]; rfl⟩
theorem C7 {fp:List Addr} {h:Heap} {p:Addr×Obj} (hp:p∈wX fp h):p.1∈fp∧h.get? p.1=some p.2:=by
 obtain⟨b,hb,e⟩:=List.mem_filterMap.mp hp
 cases q:h.get? b with
 | none=>rw[q] at e; cases e
 | some o =>
  rw[q] at e
  have e':(b,o)=p:=Option.some.inj e
  subst e'
  exact⟨hb,q⟩
theorem Inv.pinned {pins:List (Addr×Obj)} {σ:St} {H:Hp} {s:Shared} {fp:List Addr} (I:Inv X pins σ H s) (hf:∀ b∈fp,FpOk X pins H b) (ho:∀ b∈fp,∃ o,s.heap.get? b=some o∧∀ v,o.data≠.cell v):Inv X (pins++wX fp s.heap) σ H s :=
 I.pins_of fun p hp=>(List.mem_append.mp hp).elim (fun z=>I.pin p (List.mem_append_right _ z)) fun z=>by
  obtain⟨hb,e⟩:=C7 z
  obtain⟨f0,f1,f2,_⟩:=hf p.1 hb
  obtain⟨o,e',d⟩:=ho p.1 hb
  rw[e] at e'; cases e'
  exact⟨e,f0,f1,f2,d⟩
theorem Inv.unpinned {pins pl:List (Addr×Obj)} {σ:St} {H:Hp} {s:Shared} (I:Inv X (pins++pl) σ H s):Inv X pins σ H s:=I.pins_of fun p hp=>I.pin p (List.mem_append_right _ (List.mem_append_left _ hp))
theorem rB {iter:Expr} {body:List Stmt} {wi:TI} {g:TG} {tb:TS} {pos:Pos} (hp:PassesOwn (model X.prog X.w) X.A X.env X.xe) (hc:X.calm=true) (hi:PI X tg iter wi) (hg:PG X tg g) (hb:PSs X body tb)
  (hs:∀ x,foldedSetIterable iter X.env x=pure x:=by intro _; rfl):PS X (.For tg iter body [] pos) (Ib wi g tb):=by
 intro pins s σ H D I h
 refine wpAny_For (thn (hi pins s σ H _ I h) fun v s1 h1=>thn h1 fun itv s2 h2=>?_) hs
 obtain⟨it,fp,tn,J,H2,e,I2,T,st2,f2,W,⟨m0,w0⟩,turn⟩:=h2
 subst e
 -- what stays true of the iterator's objects through the loop
 have stat:∀ {H':Hp},(∀ b∈fp,H' b=none)→∀ b∈fp,FpOk X pins H' b:=fun hn b hb=>⟨hn b hb,(f2 b hb).2⟩
 refine codeAny_forLoop_any (fun n s'=>∃ i σ' H',Inv X pins σ' H' s'∧tn i s'.heap∧(∀ b∈fp,H' b=none)∧W i n σ' H') ?_ m0 ⟨0,σ,H2,I2,st2,fun b hb=>(f2 b hb).1,w0⟩
 rintro n s3 ⟨i,σ3,H3,I3,st3,fr3,w3⟩
 rcases turn i n σ3 H3 w3 with ⟨stop,qn⟩ | ⟨go,N,hN,step⟩
 ·refine wpAny_passesOwn hp (thn (T.done X rfl rfl rfl hc i pins s3 σ3 H3 X.xe I3 (stat fr3) st3 stop) fun r s4 ⟨hr,I4⟩=>?_)
  subst hr
  exact wpAny_execs_nil ⟨σ3,H3,I4,qn⟩
 ·refine wpAny_passesOwn hp (thn (T.item X rfl rfl rfl hc i pins s3 σ3 H3 X.xe I3 (stat fr3) st3 go) fun r s4 ⟨u,hr,h4⟩=>?_)
  subst hr
  refine wpAny_passesOwn hp (thn h4 fun _ s5 ⟨x,H5,I5,r5,y5,st5,fr5⟩=>?_)
  have I5':=I5.pinned (stat fr5) (T.obj _ _ st5)
  refine wpAny_passesOwn hp (thn (hg _ s5 σ3 H5 x u _ I5' r5 (step x H5 y5)) fun _ s6 ⟨σ6,H6,I6,q6⟩=>?_)
  refine wpAny_passesOwn hp (thn (hb _ s6 σ6 H6 _ I6 q6) fun f s7 q7=>?_)
  have again:∀ {σ7:St} {H7:Hp},Inv X (pins++wX fp s5.heap) σ7 H7 s7→N σ7 H7→∃ m,m<n∧∃ i σ' H',Inv X pins σ' H' s7∧tn i s7.heap∧(∀ b∈fp,H' b=none)∧W i m σ' H':=fun {σ7 H7} I7 n7=>by
   obtain⟨m',hm,w7⟩:=hN σ7 H7 n7
   refine⟨m',hm,i+1,σ7,H7,I7.unpinned,T.keep _ _ _ st5 fun b hb o e=>(I7.pin (b,o) (List.mem_append_right _ (List.mem_append_right _ (vj hb e)))).1,fun b hb=>?_,w7⟩
   obtain⟨o,e,d⟩:=T.obj _ _ st5 b hb
   exact (I7.pin (b,o) (List.mem_append_right _ (List.mem_append_right _ (vj hb e)))).2.1
  cases f with
  | next=>obtain⟨σ7,H7,I7,n7⟩:=q7; exact again I7 n7
  | cont=>obtain⟨σ7,H7,I7,n7⟩:=q7; exact again I7 n7
  | brk=>obtain⟨σ7,H7,I7,q7⟩:=q7; exact⟨σ7,H7,I7.unpinned,q7⟩
  | ret v=>obtain⟨x7,σ7,H7,I7,r7,q7⟩:=q7; exact⟨x7,σ7,H7,I7.unpinned,r7,q7⟩
end
theorem EJ {K:PySem.W.Frag} {a:Addr} {xs:List V} {g:TG} {tb:TS} {D:Ends} {σ:St} {H:Hp} (Pv:Nat→St→Hp→Prop) (h0:Pv 0 σ H) (hl:∀ i σ H,i≤xs.length→Pv i σ H→SqL K H a xs)
  (hs:∀ i x σ H,xs[i]?=some x→Pv i σ H→g x σ H fun σ2 H2=>tb { D with nx:=Pv (i+1),ct:=Pv (i+1),bk:=D.nx } σ2 H2) (hd:∀ σ H,Pv xs.length σ H→D.nx σ H) :
  ∃ W:Nat→Nat→St→Hp→Prop,(∃ m,W 0 m σ H)∧∀ i m σ H,W i m σ H →
   ((Itl K a).stop i H∧D.nx σ H)∨((Itl K a).go i H∧∃ N:St→Hp→Prop,(∀ σ' H',N σ' H'→∃ m',m'<m∧W (i+1) m' σ' H')∧∀ x H',(Itl K a).yld i H x H'→g x σ H' fun σ2 H2=>tb { D with nx:=N,ct:=N,bk:=D.nx } σ2 H2):=by
 refine⟨fun i m σ H=>m=xs.length-i∧i≤xs.length∧Pv i σ H,⟨xs.length,by simp,Nat.zero_le _,h0⟩,?_⟩
 rintro i m σ H ⟨rfl,hi,p⟩
 have q:=hl i σ H hi p
 by_cases hlt:i<xs.length
 ·refine .inr ⟨⟨xs,xs[i],q,by simp [hlt]⟩,Pv (i+1),fun σ' H' p'=>⟨xs.length-(i+1),by omega,rfl,hlt,p'⟩,fun x H' y=>?_⟩
  obtain⟨e,y⟩:=y
  subst e
  exact hs i x σ _ (y xs q) p
 ·have e:i=xs.length:=by omega
  subst e
  exact .inl ⟨⟨xs,q,Nat.le_refl _⟩,hd σ H p⟩
theorem Dr {lo:Int} {n:Nat} {g:TG} {tb:TS} {D:Ends} {σ:St} {H:Hp} (Pv:Nat→St→Hp→Prop) (h0:Pv 0 σ H)
  (hs:∀ i σ H,i<n→Pv i σ H→g (.int (lo+i)) σ H fun σ2 H2=>tb { D with nx:=Pv (i+1),ct:=Pv (i+1),bk:=D.nx } σ2 H2) (hd:∀ σ H,Pv n σ H→D.nx σ H) :
  ∃ W:Nat→Nat→St→Hp→Prop,(∃ m,W 0 m σ H)∧∀ i m σ H,W i m σ H →
   ((Itr lo n).stop i H∧D.nx σ H)∨((Itr lo n).go i H∧∃ N:St→Hp→Prop,(∀ σ' H',N σ' H'→∃ m',m'<m∧W (i+1) m' σ' H')∧∀ x H',(Itr lo n).yld i H x H'→g x σ H' fun σ2 H2=>tb { D with nx:=N,ct:=N,bk:=D.nx } σ2 H2):=by
 refine⟨fun i m σ H=>m=n-i∧i≤n∧Pv i σ H,⟨n,by simp,Nat.zero_le _,h0⟩,?_⟩
 rintro i m σ H ⟨rfl,hi,p⟩
 by_cases hlt:i<n
 ·refine .inr ⟨hlt,Pv (i+1),fun σ' H' p'=>⟨n-(i+1),by omega,rfl,hlt,p'⟩,fun x H' y=>?_⟩
  obtain⟨e,y⟩:=y
  subst e y
  exact hs i σ _ hlt p
 ·have e:i=n:=by omega
  subst e
  exact .inl ⟨Nat.le_refl _,hd σ H p⟩
abbrev R2:=V→V→Hp→VK→Prop
def OpR (X:Cx) (f:Value→Value→Sem Value) (r:R2):Prop :=
 ∀ (pins:List (Addr×Obj)) (s:Shared) (σ:St) (H:Hp) (x y:V) (v u:Value) (Q:VK),Inv X pins σ H s→RelV x v→RelV y u→r x y H Q →
  wpAny (model X.prog X.w) X.A (f v u) (EP X pins σ Q) X.xe s
def UnR (X:Cx) (f:Value→Sem Value) (r:V→Hp→VK→Prop):Prop :=
 ∀ (pins:List (Addr×Obj)) (s:Shared) (σ:St) (H:Hp) (x:V) (v:Value) (Q:VK),Inv X pins σ H s→RelV x v→r x H Q →
  wpAny (model X.prog X.w) X.A (f v) (EP X pins σ Q) X.xe s
def qo (X:Cx) (f:Value) (r:List V→Hp→VK→Prop):Prop :=
 ∀ (pins:List (Addr×Obj)) (s:Shared) (σ:St) (H:Hp) (xs:List V) (us:List Value) (Q:VK),Inv X pins σ H s→Vals xs us→r xs H Q →
  wpAny (model X.prog X.w) X.A (call f us) (EP X pins σ Q) X.xe s
def tOp (r:R2) (ta tb:TE):TE:=fun σ H Q=>ta σ H fun x H1=>tb σ H1 fun y H2=>r x y H2 Q
def tUn (r:V→Hp→VK→Prop) (ta:TE):TE:=fun σ H Q=>ta σ H fun x H1=>r x H1 Q
def rI (C:Int→Int→Prop) (g:Int→Int→V):R2:=fun x y H Q=>∃ i j,x=.int i∧y=.int j∧C i j∧Q (g i j) H
def rI0 (g:Int→Int→V):R2:=fun x y H Q=>∃ i j,x=.int i∧y=.int j∧Q (g i j) H
def rU (g:Int→V):V→Hp→VK→Prop:=fun x H Q=>∃ i,x=.int i∧Q (g i) H
section
variable {X:Cx} {a b c:Expr} {ta tb tc:TE} {pos:Pos}
theorem E5 (ha:PE X a ta) (hb:PE X b tb) {pins:List (Addr×Obj)} {s:Shared} {σ:St} {H:Hp} {R:V→V→Hp→Prop} (I:Inv X pins σ H s)
  (h:ta σ H fun x H1=>tb σ H1 fun y H2=>R x y H2) {Q:Value→Shared→Prop} {f:Value→Value→Sem Value}
  (hf:∀ v u s2 x y H2,Inv X pins σ H2 s2→RelV x v→RelV y u→R x y H2→wpAny (model X.prog X.w) X.A (f v u) Q X.xe s2) :
  wpAny (model X.prog X.w) X.A (eval a X.env) (fun v s₁=>wpAny (model X.prog X.w) X.A (eval b X.env) (fun u s₂=>wpAny (model X.prog X.w) X.A (f v u) Q X.xe s₂) X.xe s₁) X.xe s:=by
 refine thn (ha pins s σ H _ I h) fun v s1 ⟨x,H1,I1,r1,q1⟩=>?_
 refine thn (hb pins s1 σ H1 _ I1 q1) fun u s2 ⟨y,H2,I2,r2,q2⟩=>?_
 exact hf v u s2 x y H2 I2 r1 r2 q2
theorem gj {op:Operator} {r:R2} (ho:OpR X (binaryOp op) r) (ha:PE X a ta) (hb:PE X b tb):PE X (.BinOp a op b pos) (tOp r ta tb):=by
 intro pins s σ H Q I h
 exact wpAny_BinOp (E5 ha hb I h fun v u s2 x y H2 I2 rx ry q=>ho pins s2 σ H2 x y v u Q I2 rx ry q)
theorem vF {op:UnaryOp} {r:V→Hp→VK→Prop} (ho:UnR X (unaryOp op) r) (ha:PE X a ta):PE X (.UnaryOp op a pos) (tUn r ta):=by
 intro pins s σ H Q I h
 exact UnaryOp_ (thn (ha pins s σ H _ I h) fun v s1 ⟨x,H1,I1,r1,q1⟩=>ho pins s1 σ H1 x v Q I1 r1 q1)
theorem opI {f:Value→Value→Sem Value} {C:Int→Int→Prop} {g:Int→Int→Int}
  (rule:∀ (i j:Int) (t u:Tok) (s:Shared) (Q:Value→Shared→Prop) (E:Value→Shared→Prop),C i j→Q (.int (g i j) s.toks) { s with toks:=s.toks+1 }→wpAny (model X.prog X.w) X.A (f (.int i t) (.int j u)) Q E s) :
  OpR X f (rI C fun i j=>.int (g i j)):=by
 intro pins s σ H x y v u Q I rx ry h
 obtain⟨i,j,rfl,rfl,hc,q⟩:=h
 obtain⟨t,rfl⟩:=rx
 obtain⟨t',rfl⟩:=ry
 exact rule i j t t' s _ _ hc ⟨.int (g i j),H,I.tok _,⟨_,rfl⟩,q⟩
theorem El {f:Value→Value→Sem Value} {g:Int→Int→Int}
  (rule:∀ (i j:Int) (t u:Tok) (s:Shared) (Q:Value→Shared→Prop) (E:Value→Shared→Prop),Q (.int (g i j) s.toks) { s with toks:=s.toks+1 }→wpAny (model X.prog X.w) X.A (f (.int i t) (.int j u)) Q E s) :
  OpR X f (rI0 fun i j=>.int (g i j)):=by
 intro pins s σ H x y v u Q I rx ry h
 obtain⟨i,j,rfl,rfl,q⟩:=h
 obtain⟨t,rfl⟩:=rx
 obtain⟨t',rfl⟩:=ry
 exact rule i j t t' s _ _ ⟨.int (g i j),H,I.tok _,⟨_,rfl⟩,q⟩
theorem Cf {f:Value→Value→Sem Value} {g:Int→Int→Bool}
  (rule:∀ (i j:Int) (t u:Tok) (s:Shared) (Q:Value→Shared→Prop) (E:Value→Shared→Prop),Q (.bool (g i j)) s→wpAny (model X.prog X.w) X.A (f (.int i t) (.int j u)) Q E s) :
  OpR X f (rI0 fun i j=>.bl (g i j)):=by
 intro pins s σ H x y v u Q I rx ry h
 obtain⟨i,j,rfl,rfl,q⟩:=h
 obtain⟨t,rfl⟩:=rx
 obtain⟨t',rfl⟩:=ry
 exact rule i j t t' s _ _ ⟨.bl (g i j),H,I,rfl,q⟩
def HK (i j:Int):Prop:=0≤j∧j≤1000000∧i.natAbs<2 ^ 64
def CMul (i j:Int):Prop:=(-(2 ^ 64)<i∧i<2 ^ 64)∨(-(2 ^ 64)<j∧j<2 ^ 64)
theorem CMul.ok {i j:Int} (h:CMul i j):IntMulOk i j:=by
 rcases h with ⟨h1,h2⟩ | ⟨h1,h2⟩
 ·exact .of_left (intBits_le_64 h1 h2)
 ·exact .of_right (intBits_le_64 h1 h2)
theorem two_pow_nn (k:Nat):(0:Int)≤2 ^ k:=by
 rw[two_pow_cast]
 exact Int.natCast_nonneg _
theorem ni:OpR X (binaryOp .Add) (rI0 fun i j=>.int (i+j)):=El fun _ _ _ _ _ _ _ q=>add_int q
theorem yh:OpR X (binaryOp .Sub) (rI0 fun i j=>.int (i-j)):=El fun _ _ _ _ _ _ _ q=>sub_int q
theorem HV:OpR X (binaryOp .Mult) (rI CMul fun i j=>.int (i * j)):=opI fun _ _ _ _ _ _ _ hc q=>mul_int q hc.ok
theorem nk:OpR X (binaryOp .Mod) (rI (fun _ j=>0<j) fun i j=>.int (i % j)):=opI fun i j _ _ _ _ _ hc q=>by
 have h1:(0:Int)<j:=hc
 exact mod_int' (by omega) (by rw[Int.fmod_eq_emod_of_nonneg i (by omega)]; exact q)
theorem DU:OpR X (binaryOp .Pow) (rI HK fun i j=>.int (i ^ j.toNat)):=opI fun _ _ _ _ _ _ _ hc q=>pow_int_small hc.1 hc.2.1 hc.2.2 q
theorem DM:OpR X (binaryOp .RShift) (rI (fun _ j=>0≤j) fun i j=>.int (i / 2 ^ j.toNat)):=opI fun i j _ _ _ _ _ hc q =>
 rshift_int hc (by rw[Int.fdiv_eq_ediv_of_nonneg i (two_pow_nn _)]; exact q)
theorem yi:OpR X (binaryOp .BitAnd) (rI0 fun i j=>.int (Builtin.bitAnd i j)):=El fun _ _ _ _ _ _ _ q=>and_int q
theorem unI {f:Value→Sem Value} {g:Int→Int}
  (rule:∀ (i:Int) (t:Tok) (s:Shared) (Q:Value→Shared→Prop) (E:Value→Shared→Prop),Q (.int (g i) s.toks) { s with toks:=s.toks+1 }→wpAny (model X.prog X.w) X.A (f (.int i t)) Q E s) :
  UnR X f (rU fun i=>.int (g i)):=by
 intro pins s σ H x v Q I rx h
 obtain⟨i,rfl,q⟩:=h
 obtain⟨t,rfl⟩:=rx
 exact rule i t s _ _ ⟨.int (g i),H,I.tok _,⟨_,rfl⟩,q⟩
theorem u7:UnR X (unaryOp .USub) (rU fun i=>.int (-i)):=unI fun _ _ _ _ _ q=>neg_int q
end
def uF:V→V→Bool
 | .non,.non=>true | .non,.int _=>true | .int _,.non=>true | .non,.bl _=>true | .bl _,.non=>true | .non,.str _=>true | .str _,.non=>true
 | .int _,.int _=>true | .bl _,.bl _=>true | .str _,.str _=>true | .byt _,.byt _=>true
 | .int _,.str _=>true | .str _,.int _=>true | .bl _,.str _=>true | .str _,.bl _=>true
 | _,_=>false
def rEq:R2:=fun x y H Q=>uF x y=true∧Q (.bl (decide (x=y))) H
theorem Gz {i j:Int}:decide (V.int i=V.int j)=(i == j):=by
 rw[Bool.eq_iff_iff]
 simp
theorem G3 {i j:Bool}:decide (V.bl i=V.bl j)=(i == j):=by
 rw[Bool.eq_iff_iff]
 simp
theorem FU {i j:Str}:decide (V.str i=V.str j)=(i == j):=by
 rw[Bool.eq_iff_iff]
 simp
theorem GO {i j:Array UInt8}:decide (V.byt i=V.byt j)=(i.toList == j.toList):=by
 rw[Bool.eq_iff_iff]
 cases i
 cases j
 simp
section
variable {X:Cx} {a b c:Expr} {ta tb tc:TE} {pos:Pos}
theorem pY {pins:List (Addr×Obj)} {σ:St} {H:Hp} {s:Shared} {Q:VK} {k k':Bool} (I:Inv X pins σ H s) (q:Q (.bl k) H) (e:k=k'):EP X pins σ Q (.bool k') s:=by
 subst e
 exact⟨.bl k,H,I,rfl,q⟩
theorem t9:OpR X (compareOp .Eq) rEq:=by
 intro pins s σ H x y v u Q I rx ry h
 obtain⟨hs,q⟩:=h
 cases x with
 | non =>
  cases rx
  cases y with
  | non=>cases ry; exact PySem.EqNone.eq_none_none (pY I q (by simp))
  | bl j=>cases ry; exact PySem.EqNone.eq_none_bool (pY I q (by simp))
  | int j=>obtain⟨t',rfl⟩:=ry; exact PySem.EqNone.eq_none_int (pY I q (by simp))
  | str j=>obtain⟨t',rfl⟩:=ry; exact PySem.EqNone.eq_none_str (pY I q (by simp))
  | _=>exact absurd (show false=true from hs) Bool.false_ne_true
 | bl i =>
  cases rx
  cases y with
  | non=>cases ry; exact PySem.EqNone.eq_bool_none (pY I q (by simp))
  | bl j=>cases ry; exact eq_bool (pY I q G3)
  | str j=>obtain⟨t',rfl⟩:=ry; exact PySem.EqMixed.eq_bool_str (pY I q (by simp))
  | _=>exact absurd (show false=true from hs) Bool.false_ne_true
 | int i =>
  obtain⟨t,rfl⟩:=rx
  cases y with
  | non=>cases ry; exact PySem.EqNone.eq_int_none (pY I q (by simp))
  | int j=>obtain⟨t',rfl⟩:=ry; exact eq_int (pY I q Gz)
  | str j=>obtain⟨t',rfl⟩:=ry; exact PySem.EqMixed.eq_int_str (pY I q (by simp))
  | _=>exact absurd (show false=true from hs) Bool.false_ne_true
 | str i =>
  obtain⟨t,rfl⟩:=rx
  cases y with
  | non=>cases ry; exact PySem.EqNone.eq_str_none (pY I q (by simp))
  | bl j=>cases ry; exact PySem.EqMixed.eq_str_bool (pY I q (by simp))
  | int j=>obtain⟨t',rfl⟩:=ry; exact PySem.EqMixed.eq_str_int (pY I q (by simp))
  | str j=>obtain⟨t',rfl⟩:=ry; exact eq_str (pY I q FU)
  | _=>exact absurd (show false=true from hs) Bool.false_ne_true
 | byt i =>
  obtain⟨t,rfl⟩:=rx
  cases y with
  | byt j=>obtain⟨t',rfl⟩:=ry; exact PySem.W.eq_bytes (pY I q GO)
  | _=>exact absurd (show false=true from hs) Bool.false_ne_true
 | _=>cases y <;> exact absurd (show false=true from hs) Bool.false_ne_true
theorem Fq:OpR X (compareOp .Lt) (rI0 fun i j=>.bl (decide (i<j))):=Cf fun _ _ _ _ _ _ _ q=>lt_int q
theorem yw:OpR X (compareOp .LtE) (rI0 fun i j=>.bl (decide (i≤j))):=Cf fun _ _ _ _ _ _ _ q=>le_int q
theorem u0:OpR X (compareOp .Gt) (rI0 fun i j=>.bl (decide (j<i))):=Cf fun _ _ _ _ _ _ _ q=>gt_int q
theorem Ih:OpR X (compareOp .GtE) (rI0 fun i j=>.bl (decide (j≤i))):=Cf fun _ _ _ _ _ _ _ q=>ge_int q
theorem yS:OpR X (compareOp .IsNot) (fun x y H Q=>y=.non∧Q (.bl (!decide (x=.non))) H):=by
 intro pins s σ H x y v u Q I rx ry h
 obtain⟨rfl,q⟩:=h
 cases ry
 refine isnot_none_gen (pY I q ?_)
 cases x <;> first
  | (cases rx; rfl)
  | (obtain⟨t,rfl⟩:=rx; rfl)
theorem iG (b:Expr) {op:CmpOp} (h:op≠.In:=by decide) (h2:op≠.NotIn:=by decide):behindInMarks op b=false:=by
 have e1:(op == CmpOp.In)=false:=by cases op <;> first | rfl | exact absurd rfl h
 have e2:(op == CmpOp.NotIn)=false:=by cases op <;> first | rfl | exact absurd rfl h2
 cases b <;> simp [behindInMarks,e1,e2]
theorem qp {op:CmpOp} {r:R2} (ho:OpR X (compareOp op) r) (ha:PE X a ta) (hb:PE X b tb) (hm:behindInMarks op b=false):PE X (.Compare a [op] [b] pos) (tOp r ta tb):=by
 intro pins s σ H Q I h
 exact wpAny_Compare1 (E5 ha hb I h fun v u s2 x y H2 I2 rx ry q=>ho pins s2 σ H2 x y v u Q I2 rx ry q) hm
def FD (t:TE):TT:=fun σ H Q=>t σ H fun x H'=>∃ k,x=.bl k∧Q k H'
theorem jj {op:CmpOp} {r:R2} (ho:OpR X (compareOp op) r) (ha:PE X a ta) (hb:PE X b tb) (hm:behindInMarks op b=false):PT X (.Compare a [op] [b] pos) (FD (tOp r ta tb)):=by
 intro pins s σ H Q I h
 refine wpAny_isTrue_Compare1 (thn (ha pins s σ H _ I h) fun v s1 ⟨x,H1,I1,r1,q1⟩=>thn (hb pins s1 σ H1 _ I1 q1) fun u s2 ⟨y,H2,I2,r2,q2⟩ =>
  thn (ho pins s2 σ H2 x y v u _ I2 r1 r2 q2) fun c s3 ⟨z,H3,I3,r3,k,e,q3⟩=>?_) hm
 subst e
 cases r3
 exact wpAny_truthy_bool ⟨H3,I3,q3⟩
def DT (r r':R2) (ta tb tc:TE):TE:=fun σ H Q=>ta σ H fun x H1=>tb σ H1 fun y H2=>r x y H2 fun z H3=>∃ k,z=.bl k ∧
 (if k=true then tc σ H3 fun w' H4=>r' y w' H4 Q else Q (.bl false) H3)
theorem Eg {op op':CmpOp} {r r':R2} (ho:OpR X (compareOp op) r) (ho':OpR X (compareOp op') r') (ha:PE X a ta) (hb:PE X b tb) (hc:PE X c tc)
  (hm:lastMarks [op,op'] [b,c]=false:=by with_unfolding_all rfl):PE X (.Compare a [op,op'] [b,c] pos) (DT r r' ta tb tc):=by
 intro pins s σ H Q I h
 refine Compare_chain (thn (ha pins s σ H _ I h) fun v s1 ⟨x,H1,I1,r1,q1⟩=>chain_link (thn (hb pins s1 σ H1 _ I1 q1) fun u s2 ⟨y,H2,I2,r2,q2⟩ =>
  thn (ho pins s2 σ H2 x y v u _ I2 r1 r2 q2) fun d s3 ⟨z,H3,I3,r3,k,e,q3⟩=>?_)) hm
 subst e
 cases r3
 refine wpAny_truthy_bool ?_
 cases k with
 | false=>exact ite_ff ⟨.bl false,H3,I3,rfl,q3⟩
 | true=>exact ite_tt (chain_last (thn (hc pins s3 σ H3 _ I3 q3) fun w' s4 ⟨z',H4,I4,r4,q4⟩=>ho' pins s4 σ H4 y z' u w' Q I4 r2 r4 q4))
theorem vO:(sizeLine:Nat)<2 ^ 63:=by rw[sizeLine_eq]; decide
theorem vals1 {x:V} {us:List Value} (r:Vals [x] us):∃ u,us=[u]∧RelV x u:=by
 cases r with
 | cons r1 r2=>cases r2; exact⟨_,rfl,r1⟩
theorem vals2 {x y:V} {us:List Value} (r:Vals [x,y] us):∃ u w',us=[u,w']∧RelV x u∧RelV y w':=by
 cases r with
 | cons r1 r2 =>
  cases r2 with
  | cons r3 r4=>cases r4; exact⟨_,_,rfl,r1,r3⟩
theorem Dm (hc:X.calm=true):qo X (.builtin "max") (fun xs H Q=>∃ i j,xs=[.int i,.int j]∧Q (.int (if j > i then j else i)) H):=by
 intro pins s σ H xs us Q I r h
 obtain⟨i,j,rfl,q⟩:=h
 obtain⟨u,w',rfl,⟨t,rfl⟩,⟨t',rfl⟩⟩:=vals2 r
 refine max_two_ints (I.ok.hd hc) fun h' tk k=>⟨_,H,I.kept k,?_,q⟩
 by_cases hj:j > i
 ·rw[if_pos hj,if_pos hj]; exact⟨_,rfl⟩
 ·rw[if_neg hj,if_neg hj]; exact⟨_,rfl⟩
theorem D6 (hc:X.calm=true):qo X (.builtin "min") (fun xs H Q=>∃ i j,xs=[.int i,.int j]∧Q (.int (if j<i then j else i)) H):=by
 intro pins s σ H xs us Q I r h
 obtain⟨i,j,rfl,q⟩:=h
 obtain⟨u,w',rfl,⟨t,rfl⟩,⟨t',rfl⟩⟩:=vals2 r
 refine min_two_ints (I.ok.hd hc) fun h' tk k=>⟨_,H,I.kept k,?_,q⟩
 by_cases hj:j<i
 ·rw[if_pos hj,if_pos hj]; exact⟨_,rfl⟩
 ·rw[if_neg hj,if_neg hj]; exact⟨_,rfl⟩
end
structure ObjM (h:Heap) (x dx C:Addr) (mA:Str→Option Value):Prop where
 obj:h.get? x=some (PySem.W.instObj C dx)
 ns:h.Ns1 dx mA
 ne:dx≠x
theorem RelO.some_of {v:V} {o:Option Value} (r:RelO (some v) o):∃ u,o=some u∧RelV v u:=by
 cases o with
 | none=>exact (show False from r).elim
 | some u=>exact⟨u,rfl,r⟩
theorem RelO.none_of {o:Option Value} (r:RelO none o):o=none:=by
 cases o with
 | none=>rfl
 | some u=>exact (show False from r).elim
structure Cls (K:PySem.W.Frag) (C:Addr):Prop where
 pg:PySem.W.plainGet K C Str.empty=true
 hd:PySem.W.hasDictIn K C=true
 po:PySem.W.plainOver K C=true
 sa:PySem.W.findIn K (.ref C) "__setattr__"=some (some (.builtin "object.__setattr__"))
structure Con (K:PySem.W.Frag) (C:Addr) (f:Str) (v:V) (u:Value):Prop where
 at_:PySem.W.findIn K (.ref C) f=some (some u)
 rel:RelV v u
 get:PySem.W.specialIn K u "__get__"=some none
 cp:PySem.W.copiedNames.contains f=false
structure Meth (K:PySem.W.Frag) (C:Addr) (m:Str) (f:Addr):Prop where
 at_:PySem.W.findIn K (.ref C) m=some (some (.ref f))
 fn:PySem.W.isFn K (.ref f)=true
 kp:PySem.W.keepIn K (.ref f)=true
section
variable {X:Cx} {pins:List (Addr×Obj)} {σ:St} {H:Hp} {s:Shared} {A:Around} {E:Value→Shared→Prop} {Q:Value→Shared→Prop} {c:Value} {b:Bool}
inductive TyOf (K:PySem.W.Frag) (H:Hp):V→Value→Prop where
 | non:TyOf K H .non (.type "NoneType")
 | bl (x:Bool):TyOf K H (.bl x) (.type "bool")
 | int (i:Int):TyOf K H (.int i) (.type "int")
 | str (x:Str):TyOf K H (.str x) (.type "str")
 | flt (x:UInt64):TyOf K H (.flt x) (.type "float")
 | lst {a:Addr} {xs:List V} (e:H a=some (.lst xs)):TyOf K H (.ref a) (.type "list")
 | frz {a:Addr} {o:Obj} {xs:List V} (e:H a=some (.frz o (.lst xs))):TyOf K H (.ref a) (.type "list")
 | tup {a:Addr} {xs:List V} (e:H a=some (.tup xs)):TyOf K H (.ref a) (.type "tuple")
 | dK {a:Addr} {kvs:List (Key×V)} (e:H a=some (.dK kvs)):TyOf K H (.ref a) (.type "dict")
 | dT {a:Addr} {kvs:List (List Key×V)} (e:H a=some (.dT kvs)):TyOf K H (.ref a) (.type "dict")
 | ins {a C dx:Addr} {fs:List (Str×V)} (e:H a=some (.ins C dx fs)) (cl:Cls K C) (ha:PySem.W.findIn K (.ref C) "__class__"=some (some (.builtin "object.__class__")))
   (hn:PySem.W.specialIn K (.builtin "object.__class__") "__get__"=some (some (.builtin "getset_descriptor.__get__"))) (htk:PySem.W.takesIn K (.builtin "object.__class__")=some true)
   (hm:PySem.W.mroIn K C (.type "object")=some true):TyOf K H (.ref a) (.ref C)
end
structure Room (k:Nat) (A:Around):Prop where
 hd:A.handled=none
 dp:A.depth+3 * k+5<recursionLimit
 un:A.units+16 * k+200<cLine
theorem Room.mono {j k:Nat} {A:Around} (r:Room k A) (h:j≤k):Room j A:=⟨r.hd,by have:=r.dp; omega,by have:=r.un; omega⟩
theorem Room.deeper {k:Nat} {A:Around} (r:Room (k+1) A) (env:Env):Room k (A.deeper env) :=
 ⟨r.hd,by have:=r.dp; show A.depth+1+3 * k+5<_; omega,by have:=r.un; show A.units+3+16 * k+200<_; omega⟩
theorem Room.depth {k:Nat} {A:Around} (r:Room k A):A.depth<recursionLimit:=by have:=r.dp; omega
theorem Room.units {k:Nat} {A:Around} (r:Room k A):A.units+64<cLine:=by have:=r.un; omega
def Ia:TA:=fun _ H Q=>Q [] H
def Fi (ta:TE) (tr:TA):TA:=fun σ H Q=>ta σ H fun x H1=>tr σ H1 fun xs H2=>Q (x::xs) H2
section
variable {X:Cx} {e:Expr} {es:List Expr} {te:TE} {t:TA} {pos:Pos}
theorem dB:PA X [] Ia:=fun _ _ _ _ H Q I h=>Calls.spliced_nil ⟨[],H,I,.nil,h⟩
theorem cT (ha:PE X e te) (hr:PA X es t) (hs:starEach (e::es) X.env=(false,eval e X.env)::starEach es X.env:=by rfl):PA X (e::es) (Fi te t):=by
 intro pos pins s σ H Q I h
 rw[hs]
 show wpAny _ _ (spliced ((false,eval e X.env)::backTo pos (starEach es X.env))) _ _ s
 refine Calls.spliced_cons (thn (ha pins s σ H _ I h) fun u s1 ⟨x,H1,I1,r1,q1⟩=>?_)
 exact thn (hr pos pins s1 σ H1 _ I1 q1) fun us s2 ⟨xs,H2,I2,r2,q2⟩=>⟨x::xs,H2,I2,.cons r1 r2,q2⟩
def GS (t:TA):TE:=fun σ H Q=>t σ H fun xs H1=>xs.length≤sizeLine∧∀ p,H1 p=none→Q (.ref p) (upd H1 p (.tup xs))
def GX (t:TA):TE:=fun σ H Q=>t σ H fun xs H1=>xs.length≤sizeLine∧∀ p,H1 p=none→Q (.ref p) (upd H1 p (.lst xs))
theorem qt {x1} (h:PA X es t):PE X (.Tuple es x1 pos) (GS t):=by
 intro pins s σ H Q I hq
 refine wpAny_Tuple_spliced (thn (h pos pins s σ H _ I hq) fun us s1 ⟨xs,H1,I1,r,z,q⟩=>⟨by rw[← r.length]; exact z,?_⟩)
 have hf:H1 s1.heap.objs.size=none:=I1.hok.fresh (Nat.le_refl _)
 refine⟨.ref s1.heap.objs.size,upd H1 s1.heap.objs.size (.tup xs),I1.laid (t':=s1.toks) (fun b u e=>Heap.get?_push_of_some _ e) (Nat.le_refl _) ?_,rfl,q _ hf⟩
 exact⟨z,us,r,⟨_,Heap.get?_push_size _ rfl,rfl,_,rfl⟩,_,Heap.get?_push_size _ rfl,rfl⟩
theorem rC (h:PA X es t):PE X (.List es pos) (GX t):=by
 intro pins s σ H Q I hq
 refine wpAny_List_spliced (thn (h pos pins s σ H _ I hq) fun us s1 ⟨xs,H1,I1,r,z,q⟩=>⟨by rw[← r.length]; exact z,?_⟩)
 have hf:H1 s1.heap.objs.size=none:=I1.hok.fresh (Nat.le_refl _)
 refine⟨.ref s1.heap.objs.size,upd H1 s1.heap.objs.size (.lst xs),I1.laid (t':=s1.toks) (fun b u e=>Heap.get?_push_of_some _ e) (Nat.le_refl _) ?_,rfl,q _ hf⟩
 exact⟨z,us,0,r,Heap.get?_push_size _ rfl⟩
end
abbrev Sp:=List V→Hp→VK→XK→Prop
abbrev CXT:=List Env→Hp→Shared→XK→Value→Shared→Prop
structure Env0 (P:Program) (w:World) (K:PySem.W.Frag) (mg:Str→Option Value) (base:Heap) (A:Around) (outer:List Env) (s:Shared) (H:Hp):Prop where
 frames:A.frames=some outer
 mod:Mod K mg base
 bs:∀ b o,base.get? b=some o→s.heap.get? b=some o∧H b=none
 bsz:base.objs.size≤s.heap.objs.size
 funs:s.heap.FunFrames base outer
 frf:∀ b∈frs outer,H b=none
 hok:HOk P w H s.heap
 bare:AllBare s.gens
def CE (outer:List Env) (P:Program) (w:World) (H:Hp) (s:Shared) (Q:VK) (u:Value) (s':Shared):Prop :=
 ∃ v H',s'.os=s.os∧AllBare s'.gens∧Un (frs outer) [] H H' s.heap s'.heap∧HOk P w H' s'.heap∧RelV v u∧Q v H'
def CR (CX:CXT) (outer:List Env) (P:Program) (w:World) (H:Hp) (s:Shared) (Q:VK) (E:XK) (r:Result) (s':Shared):Prop :=
 match r with
 | .ok (.ret u)=>CE outer P w H s Q u s'
 | .ok _=>False
 | .error e=>CX outer H s E e s'
structure FnOk (P:Program) (w:World) (K:PySem.W.Frag) (mg:Str→Option Value) (base:Heap) (CX:CXT) (k:Nat) (f:Addr) (fd:FuncData) (ps:List Str) (sp:Sp):Prop where
 len:∀ vs H Q E,sp vs H Q E→vs.length=ps.length
 run:∀ (A:Around) (outer:List Env) (s:Shared) (H:Hp) (args:Args) (us:List Value) (vs:List V) (Q:VK) (E:XK),Room k A→Env0 P w K mg base A outer s H→BindsTo s fd args (ps.zip us)→Vals vs us→sp vs H Q E →
  codeAny (model P w) A (.call (.ref f) args) (CR CX outer P w H s Q E) s
section
variable {X:Cx} {pins:List (Addr×Obj)} {σ:St} {H:Hp} {s s':Shared}
theorem Inv.env0 (I:Inv X pins σ H s):Env0 X.prog X.w X.K X.mg X.base X.A X.stack s H :=
 ⟨I.ok.frames,I.ok.mod,I.bs,Nat.le_trans I.ok.bsz I.sz,I.stack,I.stkFree,I.hok,I.bare⟩
theorem Inv.after {Q:VK} {u:Value} (I:Inv X pins σ H s) (h:CE X.stack X.prog X.w H s Q u s'):EP X pins σ Q u s':=by
 obtain⟨v,H',os,bare,un,hok,r,q⟩:=h
 obtain⟨hh,g,d,t,os'⟩:=s'
 obtain rfl:os'=s.os:=os
 exact⟨v,H',I.call (h':=hh) (g':=g) (d':=d) (t':=t) (ch:=[]) un hok bare (fun b z=>absurd z (by simp)),r,q⟩
end
def zP (sp:Sp) (dvs:List V) (E:XK) (t:TA):TE:=fun σ H Q=>t σ H fun vs H1=>sp (vs++dvs) H1 Q E
def Binds (K:PySem.W.Frag) (fd:FuncData) (ps:List Str) (ds:List Value):Prop :=
 ∀ (s:Shared) (us:List Value),K.In s.heap→(us++ds).length=ps.length→BindsTo s fd ⟨us,[]⟩ (ps.zip (us++ds))
theorem Binds.all {K:PySem.W.Frag} {fd:FuncData} {ps:List Str} (h:∀ us:List Value,us.length=ps.length→bindArgs fd ⟨us,[]⟩=pure (ps.zip us)):Binds K fd ps []:=fun s us _ hl=>by
 rw[List.append_nil] at hl ⊢
 exact .of_eq (h us hl)
def yv (CX:CXT) (X:Cx) (E:XK):Prop:=∀ (pins:List (Addr×Obj)) (σ:St) (H:Hp) (s:Shared) (e:Value) (s':Shared),Inv X pins σ H s→CX X.stack H s E e s'→X.xe e s'
section
variable {X:Cx} {CX:CXT} {k:Nat} {f C:Addr} {fd:FuncData} {ps:List Str} {sp:Sp} {dvs:List V} {ds:List Value} {E:XK} {x m:Str} {p pos apos:Pos} {e o:Expr} {es:List Expr} {ta:TE} {t:TA}
theorem HB {pins:List (Addr×Obj)} {σ:St} {H:Hp} {s:Shared} {Q:VK} {us:List Value} {vs:List V} (F:FnOk X.prog X.w X.K X.mg X.base CX k f fd ps sp) (hr:Room k X.A) (hb:Binds X.K fd ps ds) (hd:Vals dvs ds) (hx:yv CX X E)
  (I:Inv X pins σ H s) (r:Vals vs us) (h:sp (vs++dvs) H Q E):wpAny (model X.prog X.w) X.A (call (.ref f) us) (EP X pins σ Q) X.xe s:=by
 have r2:Vals (vs++dvs) (us++ds):=r.append hd
 have hl:(us++ds).length=ps.length:=by rw[← r2.length]; exact F.len _ _ _ _ h
 refine wpAny_call (codeAny_mono (F.run X.A X.stack s H ⟨us,[]⟩ (us++ds) (vs++dvs) Q E hr I.env0 (hb s us I.kIn hl) r2 h) fun r s' hq=>?_)
 cases r with
 | error e=>exact hx pins σ H s e s' I hq
 | ok fl =>
  cases fl with
  | ret u=>exact I.after hq
  | next=>exact False.elim hq
  | brk=>exact False.elim hq
  | cont=>exact False.elim hq
theorem GL (F:FnOk X.prog X.w X.K X.mg X.base CX k f fd ps sp) (hr:Room k X.A) (hg:Gl X x) (hm:X.mg x=some (.ref f)) (hk:PySem.W.keepIn X.K (.ref f)=true) (hb:Binds X.K fd ps ds) (hd:Vals dvs ds) (hx:yv CX X E)
  (ha:PA X (e::es) t) (hdb:(x == ("__debug__":Str))=false:=by decide) (he:starEach (e::es) X.env=(false,eval e X.env)::starEach es X.env:=by rfl) (hpl:(backTo pos (starEach es X.env)).any (·.1)=false:=by rfl) :
  PE X (.Call (.Name x p) (e::es) [] pos) (zP sp dvs E t):=by
 intro pins s σ H Q I h
 refine wpAny_Call_Name_kw (Gn I hg hm ?_ hdb)
 refine PySem.W.callWith_K (h₀:=X.base) I.ok.mod.kin hk (thn (ha pos pins s σ H _ I h) fun us s1 ⟨vs,H1,I1,r,q⟩=>⟨I1.kIn,?_⟩) he hpl
 exact HB F hr hb hd hx I1 r q
structure Mk (K:PySem.W.Frag) (C f:Addr):Prop where
 makes:PySem.W.makesIn K C=true
 init:PySem.W.findIn K (.ref C) "__init__"=some (some (.ref f))
 fn:PySem.W.isFn K (.ref f)=true
 kp:PySem.W.keepIn K (.ref C)=true
end
section
variable {X:Cx} {CX:CXT} {k:Nat} {f C:Addr} {fd:FuncData} {ps ks:List Str} {sp:Sp} {E:XK} {x m:Str} {p pos apos kpos:Pos} {e o:Expr} {es:List Expr} {kws:List Keyword} {te ta:TE} {t tk:TA} {nm:Option Str}
structure KBinds (K:PySem.W.Frag) (fd:FuncData) (ps ks:List Str) (g:List Value→List Value→List Value) (gV:List V→List V→List V):Prop where
 to:∀ (s:Shared) (us ws:List Value),K.In s.heap→(g us ws).length=ps.length→BindsTo s fd ⟨us,ks.zip ws⟩ (ps.zip (g us ws))
 rel:∀ {vs:List V} {us:List Value} {zs:List V} {ws:List Value},Vals vs us→Vals zs ws→Vals (gV vs zs) (g us ws)
variable {g:List Value→List Value→List Value} {gV:List V→List V→List V}
end
structure FnScope (N P:List Str) (sc:Scope):Prop where
 kind:sc.kind=.function
 co:sc.isCoroutine=false
 gen:sc.isGenerator=false
 nd:N.Nodup
 pre:N.take P.length=P
 par:∀ x∈P,sc.names.lookup x=some .local∨sc.names.lookup x=some .cell
 nofree:∀ y∈sc.names,y.2≠.free
theorem zy {kindOf:Str→Option NameKind} {x:Str}:∀ {binds:List (Str×Value)} {m:Str→Option Value},(∀ v,(x,v) ∉ binds)→bindL kindOf binds m x=m x
 | [],_,_=>rfl
 | (n,v)::r,m,h=>by
  unfold bindL
  rw[zy fun w hw=>h w (List.mem_cons_of_mem _ hw)]
  split
  ·have:x≠n:=by rintro rfl; exact h v List.mem_cons_self
   simp [this]
  ·rfl
theorem zA {kindOf:Str→Option NameKind} {x:Str}:∀ {binds:List (Str×Value)} {m:Str→Option Value},(∀ v,(x,v) ∉ binds)→bindC kindOf binds m x=m x
 | [],_,_=>rfl
 | (n,v)::r,m,h=>by
  unfold bindC
  rw[zA fun w hw=>h w (List.mem_cons_of_mem _ hw)]
  split
  ·rfl
  ·have:x≠n:=by rintro rfl; exact h v List.mem_cons_self
   simp [this]
theorem zo {kindOf:Str→Option NameKind} {x:Str} {v:Value}:∀ {P:List Str} {vs:List Value} {i:Nat} {m:Str→Option Value},P.Nodup→P[i]?=some x→vs[i]?=some v→kindOf x=some .local →
  bindL kindOf (P.zip vs) m x=some v
 | [],_,_,_,_,h,_,_=>by simp at h
 | _::_,[],_,_,_,_,h,_=>by simp at h
 | p::P,w::vs,0,m,nd,h1,h2,hk=>by
  simp at h1 h2; subst h1; subst h2
  show bindL kindOf ((p,w)::P.zip vs) m p=_
  unfold bindL
  rw[zy fun v hv=>(List.nodup_cons.mp nd).1 (List.of_mem_zip hv).1,if_pos hk]
  simp
 | p::P,w::vs,i+1,m,nd,h1,h2,hk=>by
  show bindL kindOf ((p,w)::P.zip vs) m x=_
  unfold bindL
  exact zo (i:=i) (List.nodup_cons.mp nd).2 (by simpa using h1) (by simpa using h2) hk
theorem zj {kindOf:Str→Option NameKind} {x:Str} {v:Value}:∀ {P:List Str} {vs:List Value} {i:Nat} {m:Str→Option Value},P.Nodup→P[i]?=some x→vs[i]?=some v→kindOf x≠some .local →
  bindC kindOf (P.zip vs) m x=some v
 | [],_,_,_,_,h,_,_=>by simp at h
 | _::_,[],_,_,_,_,h,_=>by simp at h
 | p::P,w::vs,0,m,nd,h1,h2,hk=>by
  simp at h1 h2; subst h1; subst h2
  show bindC kindOf ((p,w)::P.zip vs) m p=_
  unfold bindC
  rw[zA fun v hv=>(List.nodup_cons.mp nd).1 (List.of_mem_zip hv).1,if_neg hk]
  simp
 | p::P,w::vs,i+1,m,nd,h1,h2,hk=>by
  show bindC kindOf ((p,w)::P.zip vs) m x=_
  unfold bindC
  exact zj (i:=i) (List.nodup_cons.mp nd).2 (by simpa using h1) (by simpa using h2) hk
def start (N:List Str) (vs:List V):St:=vs.map some++List.replicate (N.length-vs.length) none
def xT (CX:CXT) (P:Program) (w:World) (K:PySem.W.Frag) (mg:Str→Option Value) (base:Heap) (N:List Str) (qual:Str) (scope:Scope) (f:Addr) (cd:Value) (A:Around) (outer:List Env) (s:Shared) (H:Hp) (E:XK):Cx where
 prog:=P
 w:=w
 K:=K
 mg:=mg
 base:=base
 A:=A.deeper (envOfC qual scope s.heap.objs.size f cd)
 N:=N
 s₀:=s
 H₀:=H
 env:=envOfC qual scope s.heap.objs.size f cd
 outer:=outer
 stack:=envOfC qual scope s.heap.objs.size f cd::outer
 ex:=[]
 calm:=true
 fn:=fun _=>true
 pn:=[]
 xe:=fun e s'=>wpAny (model P w) (A.deeper (envOfC qual scope s.heap.objs.size f cd)) (leaving (envOfC qual scope s.heap.objs.size f cd) e) (fun _ s''=>CX outer H s E e s'') (fun e' s''=>CX outer H s E e' s'') s'
theorem zW {sc:Scope} {n:Nat} {x:Str} (h:sc.names.lookup x=some .cell):∃ c,(cellsFrom n sc.names []).lookup x=some c:=by
 have q:=PySem.W.cellsFrom_some sc.names n [] (.inl h)
 exact Option.isSome_iff_exists.mp q
theorem DW {CX:CXT} {P:Program} {w:World} {K:PySem.W.Frag} {mg:Str→Option Value} {base:Heap} {N ps:List Str} {qual:Str} {scope:Scope} {f:Addr} {cd:Value} {A:Around} {outer:List Env} {s s1:Shared} {H:Hp} {E:XK} {us:List Value} {vs:List V}
  (S:FnScope N ps scope) (hd:A.handled=none) (e0:Env0 P w K mg base A outer s H) (hl:vs.length=ps.length) (r:Vals vs us)
  (x:InCallC s s.heap.objs.size (bindL (envOfC qual scope s.heap.objs.size f cd).kindOf (ps.zip us) fun _=>none) (cellsFrom (s.heap.objs.size+1) scope.names []) (bindC (envOfC qual scope s.heap.objs.size f cd).kindOf (ps.zip us) fun _=>none) s1) :
  Inv (xT CX P w K mg base N qual scope f cd A outer s H E) [] (start N vs) H s1:=by
 have hpl:ps.length≤N.length:=by have:=congrArg List.length S.pre; rw[List.length_take] at this; omega
 obtain⟨h1,tk,rfl,hk⟩:=x.done
 have noA:∀ b:Addr,b ∉ (xT CX P w K mg base N qual scope f cd A outer s H E).ex:=fun b z=>absurd (show b∈([]:List Addr) from z) (by simp)
 refine⟨⟨e0.mod,S.kind,rfl,rfl,Nat.le_refl _,fun y z c h1 h2=>?_,fun y hy=>?_,fun y c _ h=>?_,fun _=>hd,Around.frames_deeper e0.frames,.inr ⟨rfl,rfl⟩,fun b z=>absurd z (noA b),e0.bs,e0.bsz,fun b _ _=>noA b,fun b z=>absurd z (noA b),e0.funs,e0.frf⟩,
  rfl,e0.bare,Un.kept hk,⟨_,x.toInCall.ns,fun i y v h1 h2 h3=>?_⟩,fun y c h=>⟨_,x.cell y c h⟩,e0.hok.fresh (Nat.le_refl _),fun y c h=>?_,fun p hp=>absurd (show p∈([]:List (Addr×Obj)) from hp) (by simp),e0.hok.kept hk,?_⟩
 ·exact name_of_addr x.apart (PySem.mem_of_lookup h1) (PySem.mem_of_lookup h2)
 ·have hy:scope.names.lookup y=some .cell∨scope.names.lookup y=some .free:=hy
  rcases hy with hy | hy
  ·exact zW hy
  ·exact absurd rfl (S.nofree _ (PySem.mem_of_lookup hy))
 ·exact Nat.le_of_lt (x.above y c (PySem.mem_of_lookup h))
 ·have hi:i<vs.length:=by
   unfold start at h2
   by_cases hi:i<vs.length
   ·exact hi
   ·rw[List.getElem?_append_right (by simpa using hi)] at h2
    rw[List.getElem?_replicate] at h2
    split at h2 <;> cases h2
  have ha:vs[i]?=some v:=by
   unfold start at h2
   rw[List.getElem?_append_left (by simpa using hi),List.getElem?_map] at h2
   cases e:vs[i]? with
   | none=>rw[e] at h2; cases h2
   | some a=>rw[e] at h2; cases h2; rfl
  obtain⟨u,hu,rv⟩:=r.get ha
  have hp:ps[i]?=some y:=by
   rw[← S.pre,List.getElem?_take_of_lt (by omega)]; exact h1
  have ndP:ps.Nodup:=by rw[← S.pre]; exact S.nd.sublist (List.take_sublist _ _)
  refine⟨u,rv,?_⟩
  rcases S.par y (List.mem_of_getElem? hp) with k | k
  ·exact .inl ⟨k,zo ndP hp hu k⟩
  ·obtain⟨c,e⟩:=zW (n:=s.heap.objs.size+1) k
   refine .inr ⟨.inl k,c,e,?_⟩
   have q:=x.cell y c e
   rw[zj ndP hp hu (by show scope.names.lookup y≠_; rw[k]; decide)] at q
   exact q
 ·exact e0.hok.fresh (Nat.le_of_lt (x.above y c (PySem.mem_of_lookup h)))
 ·unfold start
  show _=N.length
  rw[List.length_append,List.length_map,List.length_replicate]
  omega
theorem Io {CX:CXT} {P:Program} {w:World} {K:PySem.W.Frag} {mg:Str→Option Value} {base:Heap} {k:Nat} {f:Addr} {name qual:Str} {params:Arguments} {body:List Stmt} {scope:Scope} {dV kV doc pm cdv ct oc:Value} {an od:Option Addr}
  {osl:Array (Option Value)} {N ps:List Str} {sp:Sp} (lk:K.lookup f=some ⟨oc,od,.func (PySem.W.fnOf name qual params body scope dV kV doc pm an cdv ct),osl⟩) (hcd:PySem.W.codeIn K cdv qual=true) (S:FnScope N ps scope)
  (len:∀ vs H Q E,sp vs H Q E→vs.length=ps.length)
  (hbody:∀ (A:Around) (outer:List Env) (s:Shared) (H:Hp) (vs:List V) (Q:VK) (E:XK),Room k (A.deeper (envOfC qual scope s.heap.objs.size f cdv))→sp vs H Q E →
   ∃ t,PSs (xT CX P w K mg base N qual scope f cdv A outer s H E) body t∧t { nx:=fun _ H'=>Q .non H',rt:=Q } (start N vs) H) :
  FnOk P w K mg base CX (k+1) f (PySem.W.fnOf name qual params body scope dV kV doc pm an cdv ct) ps sp:=by
 refine⟨len,fun A outer s H args us vs Q E hr e0 hb r hsp=>?_⟩
 have hl:=len _ _ _ _ hsp
 have KX:K.In s.heap:=e0.mod.kin.keeps fun b o e=>(e0.bs b o e).1
 have lim:s.heap.NoLimit:=e0.mod.nolimit.keeps fun b o e=>(e0.bs b o e).1
 have hkind:∀ y∈ps.zip us,scope.names.lookup y.1=some .local∨(scope.names.lookup y.1=some .cell∧((cellsFrom (s.heap.objs.size+1) scope.names []).lookup y.1).isSome=true):=fun ⟨n,v⟩ hy=>by
  rcases S.par n (List.of_mem_zip hy).1 with q | q
  ·exact .inl q
  ·exact .inr ⟨q,PySem.W.cellsFrom_some _ _ _ (.inl q)⟩
 refine codeAny_call_function hr.depth (KX _ _ lk) rfl S.co S.gen rfl (PySem.W.codeRec_of KX hcd) (hb _ _ _ _ ?_)
 refine wpAny_newFunctionEnv_cells S.kind hkind fun env he s1 x=>?_
 subst he
 refine⟨lim.keeps x.toInCall.keep,codeAny_func ?_⟩
 obtain⟨t,ht,hq⟩:=hbody A outer s H vs Q E (hr.deeper _) hsp
 have I:Inv (xT CX P w K mg base N qual scope f cdv A outer s H E) [] (start N vs) H s1:=DW S hr.hd e0 hl r x
 refine wpAny_mono (ht [] s1 (start N vs) H _ I hq) (fun fl s' hs=>?_) fun e s' hs=>hs
 have fin:∀ {σ':St} {H':Hp} {v:V} {u:Value},Inv (xT CX P w K mg base N qual scope f cdv A outer s H E) [] σ' H' s'→RelV v u→Q v H'→CE outer P w H s Q u s' :=
  fun {σ' H' v u} J rv q=>⟨v,H',J.os,J.bare,J.base,J.hok,rv,q⟩
 cases fl with
 | ret u =>
  obtain⟨v,σ',H',J,rv,q⟩:=hs
  exact fin J rv q
 | next =>
  obtain⟨σ',H',J,q⟩:=hs
  exact fin (v:=V.non) (u:=Value.none) J rfl q
 | brk =>
  obtain⟨_,_,_,q⟩:=hs
  exact False.elim q
 | cont =>
  obtain⟨_,_,_,q⟩:=hs
  exact False.elim q
section
variable {X:Cx} {x:Str} {p pos:Pos} {e:Expr} {es:List Expr} {t:TA} {id T:String} {r:List V→Hp→VK→Prop}
def tCB (r:List V→Hp→VK→Prop) (t:TA):TE:=fun σ H Q=>t σ H fun vs H1=>r vs H1 Q
theorem fZ (hc:qo X (.builtin id) r) (hg:Gl X x) (hm:X.mg x=none) (hv:bootBuiltins x=some (.builtin id)) (ha:PA X (e::es) t) (hn:x≠"__name__":=by decide) (hdb:(x == ("__debug__":Str))=false:=by decide)
  (he:starEach (e::es) X.env=(false,eval e X.env)::starEach es X.env:=by rfl) (hpl:(backTo pos (starEach es X.env)).any (·.1)=false:=by rfl):PE X (.Call (.Name x p) (e::es) [] pos) (tCB r t):=by
 intro pins s σ H Q I h
 refine wpAny_Call_Name_kw (uz I hg hm hv ?_ hn hdb)
 exact PyProof.Rows.callWith_builtin1 (thn (ha pos pins s σ H _ I h) fun us s1 ⟨vs,H1,I1,r1,q1⟩=>hc pins s1 σ H1 vs us Q I1 r1 q1) he hpl
theorem nt (hc:qo X (.type T) r) (hg:Gl X x) (hm:X.mg x=none) (hv:bootBuiltins x=some (.type T)) (ha:PA X (e::es) t) (hn:x≠"__name__":=by decide) (hdb:(x == ("__debug__":Str))=false:=by decide)
  (he:starEach (e::es) X.env=(false,eval e X.env)::starEach es X.env:=by rfl) (hpl:(backTo pos (starEach es X.env)).any (·.1)=false:=by rfl):PE X (.Call (.Name x p) (e::es) [] pos) (tCB r t):=by
 intro pins s σ H Q I h
 refine wpAny_Call_Name_kw (uz I hg hm hv ?_ hn hdb)
 exact PyProof.Rows.callWith_type1 (thn (ha pos pins s σ H _ I h) fun us s1 ⟨vs,H1,I1,r1,q1⟩=>hc pins s1 σ H1 vs us Q I1 r1 q1) he hpl
end
end L2
namespace HT
open PySem PyProof.Rows
section
variable {prog:Program} {w:World} {A:Around} {E:Value→Shared→Prop} {s:Shared}
def sIx (n d:Nat):Option Int→Nat
 | none=>d
 | some v=>if v<0 then (v+(n:Int)).toNat else min v.toNat n
theorem sIx_none (n d:Nat):sIx n d none=d:=rfl
theorem sIx_nat (n d k:Nat):sIx n d (some (k:Int))=min k n:=by
 show (if (k:Int)<0 then ((k:Int)+(n:Int)).toNat else min (k:Int).toNat n)=min k n
 rw[if_neg (by omega),Int.toNat_natCast]
end
end HT
namespace L2
open PySem PySem.Spec PyProof.Rows
abbrev TO:=St→Hp→(Option Int→Hp→Prop)→Prop
def PO (X:Cx) (e:Option Expr) (t:TO):Prop :=
 ∀ (pins:List (Addr×Obj)) (s:Shared) (σ:St) (H:Hp) (Q:Option Int→Hp→Prop),Inv X pins σ H s→t σ H Q →
  wpAny (model X.prog X.w) X.A (evalPart e X.env) (fun u s'=>∃ o H',Inv X pins σ H' s'∧IsPart u o∧Q o H') X.xe s
def BB:TO:=fun _ H Q=>Q none H
def Fw (t:TE):TO:=fun σ H Q=>t σ H fun x H1=>∃ i,x=.int i∧Q (some i) H1
theorem intsAre_of {ns:List Int}:∀ {us:List Value},Vals (ns.map V.int) us→IntsAre us ns:=by
 induction ns with
 | nil=>intro us r; rw[List.map_nil] at r; cases r; exact .nil
 | cons n ns ih =>
  intro us r
  rw[List.map_cons] at r
  cases r with
  | cons r1 r2 =>
   obtain⟨t,e⟩:=r1
   subst e
   exact .cons n t (ih r2)
section
variable {X:Cx} {e:Expr} {te:TE} {lo hi:Option Expr} {tl th:TO} {pos p2:Pos}
theorem BW:PO X none BB:=by
 intro pins s σ H Q I h
 rw[evalPart_none]
 exact wpAny_pure ⟨none,H,I,.none,h⟩
theorem uX (h:PE X e te):PO X (some e) (Fw te):=by
 intro pins s σ H Q I hw
 rw[evalPart_some]
 refine thn (h pins s σ H _ I hw) fun u s1 ⟨x,H1,I1,r1,q1⟩=>?_
 obtain⟨i,rfl,q⟩:=q1
 obtain⟨t,rfl⟩:=r1
 exact⟨some i,H1,I1,.int i t,q⟩
def SlR (X:Cx) (r:V→Option Int→Option Int→Hp→VK→Prop):Prop :=
 ∀ (pins:List (Addr×Obj)) (s:Shared) (σ:St) (H:Hp) (x:V) (v vl vu:Value) (lo hi:Option Int) (sl:Addr) (Q:VK),Inv X pins σ H s→RelV x v→s.heap.IsSliceOf sl vl vu .none→IsPart vl lo→IsPart vu hi→r x lo hi H Q →
  ∃ T id,typeLookup (.type T) "__getitem__"=pure (some (.builtin id))∧s.TypeIs v T∧wpAny (model X.prog X.w) X.A (getItem v (.ref sl)) (EP X pins σ Q) X.xe s
def tSl (r:V→Option Int→Option Int→Hp→VK→Prop) (te:TE) (tl th:TO):TE:=fun σ H Q=>te σ H fun x H1=>tl σ H1 fun l H2=>th σ H2 fun u H3=>r x l u H3 Q
theorem AF {r:V→Option Int→Option Int→Hp→VK→Prop} (hr:SlR X r) (he:PE X e te) (hl:PO X lo tl) (hu:PO X hi th):PE X (.Subscript e (.Slice lo hi none p2) pos) (tSl r te tl th):=by
 intro pins s σ H Q I h
 refine Subscript_ (thn (he pins s σ H _ I h) fun v s1 ⟨x,H1,I1,r1,q1⟩=>?_)
 refine wpAny_Slice (thn (hl pins s1 σ H1 _ I1 q1) fun vl s2 ⟨l,H2,I2,pl,q2⟩=>thn (hu pins s2 σ H2 _ I2 q2) fun vu s3 ⟨u,H3,I3,pu,q3⟩=>?_)
 rw[evalPart_none]
 refine wpAny_pure ?_
 have I4:Inv X pins σ H3 { s3 with heap:=s3.heap.push { cls:=.type "slice",data:=.fields #[vl,vu,.none] } }:=I3.kept (t':=s3.toks) fun b ob q=>Heap.get?_push_of_some _ q
 obtain⟨T,id,hT,ht,hg⟩:=hr pins { s3 with heap:=s3.heap.push { cls:=.type "slice",data:=.fields #[vl,vu,.none] } } σ H3 x v vl vu l u s3.heap.objs.size Q I4 r1 (Heap.IsSliceOf.new ..) pl pu q3
 show wpAny (model X.prog X.w) X.A (subscriptTail e (.Slice lo hi none p2) v (.ref s3.heap.objs.size)) (EP X pins σ Q) X.xe { s3 with heap:=s3.heap.push { cls:=.type "slice",data:=.fields #[vl,vu,.none] } }
 exact tail_any (ops:=[.ref s3.heap.objs.size,v]) ht hT hg (by with_unfolding_all rfl)
def x8 (xs:List V) (lo hi:Option Int):List V:=(xs.drop (HT.sIx xs.length 0 lo)).take (HT.sIx xs.length xs.length hi-HT.sIx xs.length 0 lo)
theorem A1 (xs:List V) (lo hi:Option Int):(x8 xs lo hi).length≤xs.length:=by
 unfold x8
 rw[List.length_take,List.length_drop]
 omega
end
def ixN (n:Nat) (i:Int):Option Nat:=if 0≤i then (if i<n then some i.toNat else none) else if -(n:Int)≤i then some (i+n).toNat else none
def atI {α:Type} (xs:List α) (i:Int):Option α:=(ixN xs.length i).bind fun j=>xs[j]?
theorem BN {n:Nat} {i:Int} {j:Nat} (h:ixN n i=some j):seqIndex? i n=some j∧j<n∧-(n:Int)≤i∧i<n:=by
 unfold ixN at h
 by_cases h0:0≤i
 ·rw[if_pos h0] at h
  by_cases h1:i<n
  ·rw[if_pos h1] at h
   have e:i.toNat=j:=Option.some.inj h
   exact⟨by rw[seqIndex_of h0 h1,e],by omega,by omega,h1⟩
  ·rw[if_neg h1] at h; cases h
 ·rw[if_neg h0] at h
  by_cases h1:-(n:Int)≤i
  ·rw[if_pos h1] at h
   have e:(i+n).toNat=j:=Option.some.inj h
   exact⟨by rw[seqIndex_neg (by omega) h1,e],by omega,h1,by omega⟩
  ·rw[if_neg h1] at h; cases h
theorem BA {α:Type} {xs:List α} {i:Int} {v:α} (h:atI xs i=some v):∃ j,seqIndex? i xs.length=some j∧xs[j]?=some v∧j<xs.length∧-(xs.length:Int)≤i∧i<xs.length:=by
 unfold atI at h
 cases e:ixN xs.length i with
 | none=>rw[e] at h; cases h
 | some j =>
  rw[e] at h
  obtain⟨h1,h2,h3,h4⟩:=BN e
  exact⟨j,h1,h,h2,h3,h4⟩
theorem nM {α:Type} {xs:List α} {j:Nat} {v:α} (h:xs[j]?=some v):atI xs (j:Int)=some v:=by
 have hj:j<xs.length:=(List.getElem?_eq_some_iff.mp h).1
 have e:ixN xs.length (j:Int)=some j:=by
  unfold ixN
  rw[if_pos (by omega),if_pos (by omega)]; simp
 unfold atI; rw[e]; exact h
theorem vU {α:Type} (xs:List α) (v:α):atI (xs++[v]) (-1)=some v:=by
 have hl:(xs++[v]).length=xs.length+1:=by simp
 have e:ixN (xs++[v]).length (-1)=some xs.length:=by
  unfold ixN
  rw[hl,if_neg (by decide),if_pos (by omega)]
  congr 1
  omega
 unfold atI
 rw[e]
 show (xs++[v])[xs.length]?=some v
 simp
def B0 (b:Expr):Prop:=∀ o i,subscripted b false o i=operate [o,i] (getItem o i)
def IxR (X:Cx) (r:R2):Prop :=
 ∀ (value slice:Expr) (pins:List (Addr×Obj)) (s:Shared) (σ:St) (H:Hp) (x y:V) (v u:Value) (Q:VK),Inv X pins σ H s→RelV x v→RelV y u→r x y H Q →
  subscripted slice false v u=operate [v,u] (getItem v u)→wpAny (model X.prog X.w) X.A (subscriptTail value slice v u) (EP X pins σ Q) X.xe s
def MtR (X:Cx) (id:String) (r:V→List V→Hp→VK→Prop):Prop :=
 ∀ (pins:List (Addr×Obj)) (s:Shared) (σ:St) (H:Hp) (x:V) (xs:List V) (v:Value) (us:List Value) (Q:VK),Inv X pins σ H s→RelV x v→Vals xs us→r x xs H Q →
  wpAny (model X.prog X.w) X.A (call (.builtin id) (v::us)) (EP X pins σ Q) X.xe s
section
variable {X:Cx} {a b:Expr} {ta tb:TE} {pos:Pos}
theorem gf {r:R2} (hr:IxR X r) (ha:PE X a ta) (hb:PE X b tb) (hs:B0 b):PE X (.Subscript a b pos) (tOp r ta tb):=by
 intro pins s σ H Q I h
 exact Subscript_ (E5 ha hb I h fun v u s2 x y H2 I2 rx ry q=>hr a b pins s2 σ H2 x y v u Q I2 rx ry q (hs _ _))
def EB (K:PySem.W.Frag):R2:=fun x y H Q=>∃ p xs i v,x=.ref p∧y=.int i∧SqL K H p xs∧atI xs i=some v∧Q v H
def EC (K:PySem.W.Frag):R2:=fun x y H Q=>∃ p xs i v,x=.ref p∧y=.int i∧SqT K H p xs∧atI xs i=some v∧Q v H
theorem gK:IxR X (EB X.K):=by
 intro value slice pins s σ H x y v u Q I rx ry h hs
 obtain⟨p,xs,i,z,rfl,rfl,hq,he,q⟩:=h
 cases rx
 obtain⟨t,rfl⟩:=ry
 obtain⟨its,r,pl,hz⟩:=I.list hq
 obtain⟨j,h1,h2,h3,h4,h5⟩:=BA he
 obtain⟨w,ew,rw'⟩:=r.get h2
 have hl:=r.length
 have hn:=vO
 have fin:EP X pins σ Q w s:=⟨z,H,I,rw',q⟩
 by_cases h0:0≤i
 ·have hj:i.toNat=j:=by
   rw[seqIndex_of h0 h5] at h1
   exact Option.some.inj h1
  exact item_listR pl.isList h0 (by omega) (by rw[hj]; simpa using ew) fin hs
 ·have hj:(i+(its.toArray.size:Int)).toNat=j:=by
   rw[seqIndex_neg (by omega) h4] at h1
   rw[List.size_toArray,← hl]
   exact Option.some.inj h1
  exact subscriptTail_builtinR (x:=w) pl.isList.typeIs slot_list_getitem.lookup
   (wpAny_getItem_list_neg (Q:=fun r s'=>r=w∧EP X pins σ Q r s') pl.isList (by omega) (by rw[List.size_toArray] <;> omega) (by omega) (by rw[hj]; simpa using ew) ⟨rfl,fin⟩) hs
theorem jl:IxR X (EC X.K):=by
 intro value slice pins s σ H x y v u Q I rx ry h hs
 obtain⟨p,xs,i,z,rfl,rfl,hq,he,q⟩:=h
 cases rx
 obtain⟨t,rfl⟩:=ry
 obtain⟨its,r,pl,hz⟩:=I.tuple hq
 obtain⟨j,h1,h2,h3,h4,h5⟩:=BA he
 obtain⟨w,ew,rw'⟩:=r.get h2
 have hl:=r.length
 have hn:=vO
 have fin:EP X pins σ Q w s:=⟨z,H,I,rw',q⟩
 exact subscriptTail_builtinR (x:=w) pl.typeIs slot_tuple_getitem.lookup
  (getItem_tuple (j:=j) (Q:=fun r s'=>r=w∧EP X pins σ Q r s') pl (by omega) (by omega) (by rw[List.size_toArray,← hl]; exact h1) (by simpa using ew) ⟨rfl,fin⟩) hs
theorem Cz (its:List Value) (n j:Nat) (u:Value):Obj.mapSeq (·.setIfInBounds j u) { cls:=.type "list",data:=.seq its.toArray n }={ cls:=.type "list",data:=.seq (its.set j u).toArray n }:=by
 simp [Obj.mapSeq]
theorem Inv.lst {pins:List (Addr×Obj)} {σ:St} {H:Hp} {s:Shared} {p:Addr} {xs:List V} (I:Inv X pins σ H s) (h:H p=some (.lst xs)) :
  ∃ (its:List Value) (n:Nat),Vals xs its∧s.heap.get? p=some { cls:=.type "list",data:=.seq its.toArray n }∧xs.length≤sizeLine:=by
 obtain⟨z,its,n,r,e⟩:=I.hok p _ h
 exact⟨its,n,r,e,z⟩
theorem Inv.lstUpd {pins:List (Addr×Obj)} {σ:St} {H:Hp} {s:Shared} {p:Addr} {xs ys:List V} {its its':List Value} {n n':Nat} {f:Obj→Obj} (I:Inv X pins σ H s) (h:H p=some (.lst xs))
  (ho:s.heap.get? p=some { cls:=.type "list",data:=.seq its.toArray n }) (hf:f { cls:=.type "list",data:=.seq its.toArray n }={ cls:=.type "list",data:=.seq its'.toArray n' }) (r:Vals ys its') (hz:ys.length≤sizeLine) (t:Nat) :
  Inv X pins σ (upd H p (.lst ys)) { s with heap:=s.heap.update p f,toks:=t }:=by
 have e:(s.heap.update p f).get? p=some { cls:=.type "list",data:=.seq its'.toArray n' }:=by
  rw[Heap.get?_update_self f ho (by rw[hf] <;> rfl),hf]
 refine I.write (x:=p) (e:=p) (by rw[h]; trivial) (.inl rfl) (fun b u hb q=>(Heap.get?_update_other _ _ (Ne.symm hb)).trans q) ⟨_,e⟩ ?_
 exact⟨hz,its',n',r,e⟩
def Fv:V→V→V→Hp→(Hp→Prop)→Prop:=fun o i v H Q=>∃ p xs k j,o=.ref p∧i=.int k∧H p=some (.lst xs)∧ixN xs.length k=some j∧Q (upd H p (.lst (xs.set j v)))
theorem set_list:Eo X Fv:=by
 intro pins s σ H o i v ov iv u Q I ro ri rv h
 obtain⟨p,xs,k,j,rfl,rfl,hp,hj,q⟩:=h
 cases ro
 obtain⟨t,rfl⟩:=ri
 obtain⟨its,n,r,ho,hz⟩:=I.lst hp
 obtain⟨h1,h2,h3,h4⟩:=BN hj
 have hl:=r.length
 have hn:=vO
 have I':Inv X pins σ (upd H p (.lst (xs.set j v))) { s with heap:=s.heap.update p (Obj.mapSeq (·.setIfInBounds j u)) } :=
  I.lstUpd hp ho (Cz its n j u) (r.set rv j) (by rw[List.length_set]; exact hz) s.toks
 by_cases h0:0≤k
 ·have hk:k.toNat=j:=by
   rw[seqIndex_of h0 h4] at h1
   exact Option.some.inj h1
  exact PySem.W.ki_setAt ho h0 (by omega) (by rw[List.size_toArray,← hl]; exact h4) (by rw[hk]; exact⟨_,I',q⟩)
 ·have hk:(k+(its.toArray.size:Int)).toNat=j:=by
   rw[seqIndex_neg (by omega) h3] at h1
   rw[List.size_toArray,← hl]
   exact Option.some.inj h1
  exact PySem.W.ki_setBack ho (by omega) (by rw[List.size_toArray,← hl]; exact h3) (by omega) (by rw[hk]; exact⟨_,I',q⟩)
theorem Ao (lo hi:Option Int) (n:Nat):(sliceBounds lo hi none n).1=((HT.sIx n 0 lo:Nat):Int)∧(sliceBounds lo hi none n).2.1=((HT.sIx n n hi:Nat):Int)∧(sliceBounds lo hi none n).2.2=1:=by
 refine⟨?_,?_,rfl⟩
 ·cases lo with
  | none=>simp [sliceBounds,HT.sIx]
  | some i =>
   simp only [sliceBounds,HT.sIx,Option.getD_none,show (1:Int) > 0 by decide,if_true]
   by_cases h:i<0
   ·simp only [h,if_true] <;> omega
   ·simp only [h,if_false] <;> omega
 ·cases hi with
  | none=>simp [sliceBounds,HT.sIx]
  | some i =>
   simp only [sliceBounds,HT.sIx,Option.getD_none,show (1:Int) > 0 by decide,if_true]
   by_cases h:i<0
   ·simp only [h,if_true] <;> omega
   ·simp only [h,if_false] <;> omega
theorem zO (its:List Value) (lo hi:Option Int):slicePick its.toArray lo hi none=((its.drop (HT.sIx its.length 0 lo)).take (HT.sIx its.length its.length hi-HT.sIx its.length 0 lo)).toArray:=by
 obtain⟨h1,h2,h3⟩:=Ao lo hi its.toArray.size
 unfold slicePick
 rw[h1,h2,h3]
 simp only [sliceRange_one,pick_run,List.size_toArray] <;> rfl
def EV (K:PySem.W.Frag):V→Option Int→Option Int→Hp→VK→Prop:=fun x lo hi H Q=>∃ a xs,x=.ref a∧SqL K H a xs∧∀ p,H p=none→Q (.ref p) (upd H p (.lst (x8 xs lo hi)))
theorem Gj:SlR X (EV X.K):=by
 intro pins s σ H x v vl vu lo hi sl Q I rx hs pl pu h
 obtain⟨a,xs,rfl,hx,q⟩:=h
 cases rx
 obtain⟨its,r,ht,hz⟩:=I.list hx
 have hlen:=r.length
 refine⟨"list",_,slot_list_getitem.lookup,ht.isList.typeIs,?_⟩
 refine wpAny_getItem_list_slice ht.isList hs pl pu .none (by simp) ?_ (by rw[List.size_toArray] <;> omega)
 rw[zO,← hlen]
 refine⟨.ref s.heap.objs.size,_,I.laid (t':=s.toks) (o:=.lst (x8 xs lo hi)) (fun b ob q=>Heap.get?_push_of_some _ q) (Nat.le_refl _) ?_,rfl,q _ (I.hok.fresh (Nat.le_refl _))⟩
 exact⟨Nat.le_trans (A1 xs lo hi) hz,_,0,(r.drop (HT.sIx xs.length 0 lo)).take (HT.sIx xs.length xs.length hi-HT.sIx xs.length 0 lo),Heap.get?_push_size _ rfl⟩
def uT:V→Bool
 | .non=>true
 | .bl _=>true
 | .int _=>true
 | .str _=>true
 | _=>false
def eqV:V→V→Bool
 | .non,.non=>true
 | .bl a,.bl b=>a == b
 | .bl a,.int b=>(if a then 1 else 0) == b
 | .int a,.bl b=>a == (if b then 1 else 0)
 | .int a,.int b=>a == b
 | .str a,.str b=>a == b
 | _,_=>false
theorem vP {A:Around} {s:Shared} {y x:V} {u v:Value} (ry:RelV y u) (rx:RelV x v) (fy:uT y=true) (fx:uT x=true):SeqAt.EqAt A s u v (eqV y x):=by
 cases y with
 | non =>
  cases ry
  cases x with
  | non=>cases rx; exact SeqAt.EqAt.same _
  | bl b=>cases rx; exact SeqAt.EqAt.none_bool b
  | int b=>obtain⟨t,rfl⟩:=rx; exact SeqAt.EqAt.none_int b t
  | str b=>obtain⟨t,rfl⟩:=rx; exact SeqAt.EqAt.none_str b t
  | _=>exact absurd (show false=true from fx) Bool.false_ne_true
 | bl a =>
  cases ry
  cases x with
  | non=>cases rx; exact SeqAt.EqAt.bool_none a
  | bl b=>cases rx; exact SeqAt.EqAt.bool_bool a b
  | int b=>obtain⟨t,rfl⟩:=rx; exact SeqAt.EqAt.bool_int a b t
  | str b=>obtain⟨t,rfl⟩:=rx; exact SeqAt.EqAt.bool_str a b t
  | _=>exact absurd (show false=true from fx) Bool.false_ne_true
 | int a =>
  obtain⟨t',rfl⟩:=ry
  cases x with
  | non=>cases rx; exact SeqAt.EqAt.int_none a t'
  | bl b=>cases rx; exact SeqAt.EqAt.int_bool a t' b
  | int b=>obtain⟨t,rfl⟩:=rx; exact SeqAt.EqAt.int_int a t' b t
  | str b=>obtain⟨t,rfl⟩:=rx; exact SeqAt.EqAt.int_str a t' b t
  | _=>exact absurd (show false=true from fx) Bool.false_ne_true
 | str a =>
  obtain⟨t',rfl⟩:=ry
  cases x with
  | non=>cases rx; exact SeqAt.EqAt.str_none a t'
  | bl b=>cases rx; exact SeqAt.EqAt.str_bool a t' b
  | int b=>obtain⟨t,rfl⟩:=rx; exact SeqAt.EqAt.str_int a t' b t
  | str b=>obtain⟨t,rfl⟩:=rx; exact SeqAt.EqAt.str_str a t' b t
  | _=>exact absurd (show false=true from fx) Bool.false_ne_true
 | _=>exact absurd (show false=true from fy) Bool.false_ne_true
def eqU (x:V) (u:Value):Bool:=match u with
 | .none=>eqV .non x
 | .bool b=>eqV (.bl b) x
 | .int i _=>eqV (.int i) x
 | .str z _=>eqV (.str z) x
 | _=>false
theorem DP {x y:V} {u:Value} (r:RelV y u) (f:uT y=true):eqU x u=eqV y x:=by
 cases y with
 | non=>cases r; rfl
 | bl b=>cases r; rfl
 | int i=>obtain⟨t,rfl⟩:=r; rfl
 | str z=>obtain⟨t,rfl⟩:=r; rfl
 | _=>exact absurd (show false=true from f) Bool.false_ne_true
theorem yx {x:V}:∀ {xs:List V} {us:List Value},Vals xs us→xs.all uT=true→us.any (eqU x)=xs.any fun y=>eqV y x
 | _,_,.nil,_=>rfl
 | y::xs,u::us,.cons r t,f=>by
  rw[List.all_cons,Bool.and_eq_true] at f
  rw[List.any_cons,List.any_cons,DP r f.1,yx t f.2]
theorem xN {A:Around} {s:Shared} {x:V} {v:Value} (rx:RelV x v) (fx:uT x=true):∀ {xs:List V} {us:List Value},Vals xs us→xs.all uT=true→∀ u∈us,SeqAt.EqAt A s u v (eqU x u)
 | _,_,.nil,_=>fun u hu=>by cases hu
 | y::xs,u::us,.cons r t,f=>fun u' hu=>by
  rw[List.all_cons,Bool.and_eq_true] at f
  rcases List.mem_cons.mp hu with rfl | hu
  ·rw[DP r f.1]; exact vP r rx f.1 fx
  ·exact xN rx fx t f.2 u' hu
def inV (x:V) (xs:List V):Bool:=xs.any fun y=>eqV y x
def rIn (K:PySem.W.Frag) (neg:Bool):R2:=fun x y H Q=>∃ p xs,y=.ref p∧(SqL K H p xs∨SqT K H p xs)∧uT x=true∧xs.all uT=true∧Q (.bl (if neg then !inV x xs else inV x xs)) H
theorem Eb:OpR X (compareOp .In) (rIn X.K false):=by
 intro pins s σ H x y v u Q I rx ry h
 obtain⟨p,xs,rfl,hq,fx,fs,q⟩:=h
 cases ry
 rcases hq with hq | hq
 ·obtain⟨its,r,pl,hz⟩:=I.list hq
  refine SeqAt.in_listAt (eqU x) pl.isList (fun w hw=>xN rx fx r fs w (by simpa using hw)) ⟨.bl _,H,I,rfl,?_⟩
  rw[show its.toArray.any (eqU x)=its.any (eqU x) by simp,yx r fs]
  exact q
 ·obtain⟨its,r,pl,hz⟩:=I.tuple hq
  refine SeqAt.in_tupleAt (eqU x) pl (fun w hw=>xN rx fx r fs w (by simpa using hw)) ⟨.bl _,H,I,rfl,?_⟩
  rw[show its.toArray.any (eqU x)=its.any (eqU x) by simp,yx r fs]
  exact q
theorem gJ:qo X (.builtin "len") (fun xs H Q=>∃ p ys,xs=[.ref p]∧(SqL X.K H p ys∨SqT X.K H p ys)∧Q (.int ys.length) H):=by
 intro pins s σ H xs us Q I r h
 obtain⟨p,ys,rfl,hq,q⟩:=h
 obtain⟨u,rfl,rx⟩:=vals1 r
 cases rx
 have hn:=vO
 rcases hq with hq | hq
 ·obtain⟨its,r',pl,hz⟩:=I.list hq
  have hlen:=r'.length
  exact Calls.call_len_list pl.isList (by simp only [List.size_toArray] <;> omega) ⟨.int ys.length,H,I.tok _,⟨s.toks+1,by rw[List.size_toArray,hlen]⟩,q⟩
 ·obtain⟨its,r',pl,hz⟩:=I.tuple hq
  have hlen:=r'.length
  exact len_tuple pl (by simp only [List.size_toArray] <;> omega) ⟨.int ys.length,H,I.tok _,⟨s.toks+1,by rw[List.size_toArray,hlen]⟩,q⟩
theorem AB:qo X (.type "list") (fun xs H Q=>∃ p ys,xs=[.ref p]∧(SqL X.K H p ys∨SqT X.K H p ys)∧∀ l,H l=none→Q (.ref l) (upd H l (.lst ys))):=by
 intro pins s σ H xs us Q I r h
 obtain⟨p,ys,rfl,hq,q⟩:=h
 obtain⟨u,rfl,rx⟩:=vals1 r
 cases rx
 have fin:∀ (its:List Value),Vals ys its→ys.length≤sizeLine→∀ (h':Heap) (c':Nat),(∀ b o',s.heap.get? b=some o'→h'.get? b=some o') →
   h'.get? s.heap.objs.size=some { cls:=.type "list",dict:=none,data:=.seq its.toArray c',slots:=#[] }→EP X pins σ Q (.ref s.heap.objs.size) { s with heap:=h' }:=fun its r' hz h' c' kp e =>
  ⟨.ref s.heap.objs.size,_,I.laid (t':=s.toks) kp (Nat.le_refl _) (show ObjOk X.prog X.w _ h' _ (.lst ys) from ⟨hz,its,c',r',e⟩),rfl,q _ (I.hok.fresh (Nat.le_refl _))⟩
 rcases hq with hq | hq
 ·obtain⟨its,r',pl,hz⟩:=I.list hq
  have hlen:=r'.length
  obtain⟨o,ho,hc,n,hd⟩:=pl.isList
  exact call_list_seq p (.inl rfl) ho hc hd (fun h' c' kp e=>fin its r' hz h' c' kp e) (by simp only [List.size_toArray] <;> omega)
 ·obtain⟨its,r',pl,hz⟩:=I.tuple hq
  have hlen:=r'.length
  obtain⟨o,ho,hc,n,hd⟩:=pl
  exact call_list_seq p (.inr rfl) ho hc hd (fun h' c' kp e=>fin its r' hz h' c' kp e) (by simp only [List.size_toArray] <;> omega)
def tyV (K:PySem.W.Frag) (T:String) (x:V) (H:Hp):Prop:=match x with
 | .str _=>T = "str"
 | .int _=>T = "int"
 | .ref p=>(T = "list"∧∃ xs,SqL K H p xs)∨(T = "tuple"∧∃ o,K.lookup p=some o∧o.cls=.type "tuple"∧o.dict=none) ∨
   (T = "dict"∧((∃ kvs,H p=some (.dK kvs))∨∃ kvs,H p=some (.dT kvs)))∨(T = "set"∧∃ S n,H p=some (.set S n))
 | _=>False
theorem Hq {pins:List (Addr×Obj)} {σ:St} {H:Hp} {s:Shared} {T:String} {x:V} {v:Value} (I:Inv X pins σ H s) (r:RelV x v) (ty:tyV X.K T x H) :
  s.TypeIs v T∧∀ a,v=.ref a→∃ ob,s.heap.get? a=some ob∧ob.dict=none:=by
 cases x with
 | str z =>
  obtain⟨t,rfl⟩:=r
  cases (show T = "str" from ty)
  exact⟨typeIs_str s z t,fun _ e=>nomatch e⟩
 | int i =>
  obtain⟨t,rfl⟩:=r
  cases (show T = "int" from ty)
  exact⟨typeIs_int s i t,fun _ e=>nomatch e⟩
 | ref p =>
  cases r
  rcases ty with ⟨rfl,xs,hq⟩ | ⟨rfl,o,hk,hc,hd⟩ | ⟨rfl,hk⟩ | ⟨rfl,S,n,hk⟩
  ·obtain⟨its,_,pl,_⟩:=I.list hq
   refine⟨pl.isList.typeIs,fun a e=>?_⟩
   cases e
   obtain⟨o,n,e,c,hd,_⟩:=pl
   exact⟨o,e,hd⟩
  ·refine⟨⟨o,I.kIn p o hk,hc⟩,fun a e=>?_⟩
   cases e
   exact⟨o,I.kIn _ o hk,hd⟩
  ·have z:∃ o,s.heap.get? p=some o∧o.ExactDict:=by
    rcases hk with ⟨kvs,hk⟩ | ⟨kvs,hk⟩
    ·obtain⟨_,_,_,_,o,_,_,e,ex,_⟩:=I.hok p _ hk
     exact⟨o,e,ex⟩
    ·obtain⟨_,_,_,_,o,_,_,e,ex,_⟩:=I.hok p _ hk
     exact⟨o,e,ex⟩
   obtain⟨o,e,ex⟩:=z
   refine⟨⟨o,e,ex.1⟩,fun a e2=>?_⟩
   cases e2
   exact⟨o,e,ex.2.1⟩
  ·obtain⟨o,_,_,_,e,ex,_⟩:=I.hok p _ hk
   refine⟨⟨o,e,ex.1⟩,fun a e2=>?_⟩
   cases e2
   exact⟨o,e,ex.2.1⟩
 | _=>exact False.elim ty
def tBM (K:PySem.W.Frag) (T:String) (r:V→List V→Hp→VK→Prop) (to:TE) (t:TA):TE:=fun σ H Q=>to σ H fun x H1=>tyV K T x H1∧t σ H1 fun xs H2=>r x xs H2 Q
variable {o e:Expr} {es:List Expr} {to:TE} {t:TA} {name:Str} {apos cpos:Pos} {T id:String} {r:V→List V→Hp→VK→Prop}
theorem uS (pa:PlainAttrs T) (slot:Slot T name id) (hty:typeOf (.builtin id)=pure (.type "method_descriptor")) (hm:MtR X id r) (ho:PE X o to) (ha:PA X (e::es) t)
  (hbase:attributeBase o name X.env (eval o X.env)=eval o X.env:=by rfl)
  (hfew:((backTo cpos (starEach (e::es) X.env)).all (fun x=>!x.1) && (backToKw cpos (keywordEach [] X.env)).all (fun x=>x.1.isSome)
   && decide ((e::es).length+([]:List Keyword).length+(if ([]:List Keyword).isEmpty then 0 else 1)<30))=true:=by rfl)
  (hline:(apos.endLine == cpos.line)=true:=by rfl) (hs:starEach (e::es) X.env=(false,eval e X.env)::starEach es X.env:=by rfl) (hplain:(backTo cpos (starEach es X.env)).any (·.1)=false:=by rfl) :
  PE X (.Call (.Attribute o name apos) (e::es) [] cpos) (tBM X.K T r to t):=by
 intro pins s σ H Q I h
 refine wpAny_Call_method_late hbase hfew hline rfl (thn (ho pins s σ H _ I h) fun v s1 ⟨x,H1,I1,r1,ty,q1⟩=>?_)
 obtain⟨h1,h2⟩:=Hq I1 r1 ty
 refine⟨T,id,pa,slot,hty,h1,h2,?_⟩
 have hA:=ha cpos pins s1 σ H1 _ I1 q1
 rw[hs] at hA ⊢
 refine Calls.callWith_builtin (by show (false || (backTo cpos (starEach es X.env)).any (·.1))=false; rw[hplain] <;> rfl) (Calls.evalArgs_plain ?_)
 exact thn hA fun us s2 ⟨vs,H2,I2,r2,q2⟩=>hm pins s2 σ H2 x vs v us Q I2 r1 r2 q2
end
def MtM (X:Cx) (id:String) (r:V→List V→Hp→VK→Prop):Prop :=
 ∀ (pins:List (Addr×Obj)) (s:Shared) (σ:St) (H:Hp) (x:V) (xs:List V) (v:Value) (us:List Value) (Q:VK),Inv X pins σ H s→RelV x v→Vals xs us→r x xs H Q →
  wpAny (model X.prog X.w) X.A (call (.builtin id) (v::us)) (EP X pins σ Q) X.xe s
theorem Vals.one:∀ {x:V} {us:List Value},Vals [x] us→∃ u,us=[u]∧RelV x u
 | _,_,.cons r .nil=>⟨_,rfl,r⟩
theorem Vals.zero:∀ {us:List Value},Vals [] us→us=[]
 | _,.nil=>rfl
theorem Vals.eraseIdx:∀ {xs:List V} {us:List Value} (i:Nat),Vals xs us→Vals (xs.eraseIdx i) (us.eraseIdx i)
 | _,_,_,.nil=>.nil
 | _,_,0,.cons _ t=>t
 | _,_,i+1,.cons r t=>.cons r (Vals.eraseIdx i t)
theorem Vals.reverse {xs:List V} {us:List Value} (h:Vals xs us):Vals xs.reverse us.reverse:=by
 induction h with
 | nil=>exact .nil
 | cons r t ih=>rw[List.reverse_cons,List.reverse_cons]; exact Vals.append ih (.cons r .nil)
theorem Vals.rep {xs:List V} {us:List Value} (h:Vals xs us):∀ k:Nat,Vals (List.replicate k xs).flatten (List.replicate k us).flatten
 | 0=>.nil
 | k+1=>by
  rw[List.replicate_succ,List.replicate_succ,List.flatten_cons,List.flatten_cons]
  exact Vals.append h (Vals.rep h k)
theorem zw {α:Type}:∀ (l:List α) (i:Nat),(l.eraseIdx i).length≤l.length
 | [],_=>Nat.le_refl _
 | _::_,0=>Nat.le_succ _
 | _::r,i+1=>Nat.succ_le_succ (zw r i)
theorem foldl_rep (its:List Value):∀ (k:Nat) (acc:List Value),
  List.foldl (fun x1 x2=>x1++x2) acc.toArray (List.replicate k its.toArray)=(acc++(List.replicate k its).flatten).toArray
 | 0,acc=>by simp
 | k+1,acc=>by
  have e:acc.toArray++its.toArray=(acc++its).toArray:=by simp
  have e2:(acc++its)++(List.replicate k its).flatten=acc++(List.replicate (k+1) its).flatten:=by
   rw[List.replicate_succ,List.flatten_cons,List.append_assoc]
  rw[← e2,← foldl_rep its k (acc++its),← e,List.replicate_succ,List.foldl_cons]
section
variable {X:Cx} {pins:List (Addr×Obj)} {σ:St} {H:Hp} {s:Shared} {l b:Addr} {xs ys zs:List V}
theorem Inv.lset {its its':List Value} {n:Nat} {f:Array Value→Array Value} {t':Nat} (I:Inv X pins σ H s) (hH:H l=some (.lst xs))
  (e:s.heap.get? l=some { cls:=.type "list",data:=.seq its.toArray n }) (hf:f its.toArray=its'.toArray) (hv:Vals ys its') (hz:ys.length≤sizeLine) :
  Inv X pins σ (upd H l (.lst ys)) { s with heap:=s.heap.update l (Obj.mapSeq f),toks:=t' }:=by
 have q:=PySem.IsL.update e f
 rw[hf] at q
 refine I.write (x:=l) (e:=l) (by rw[hH]; exact trivial) (.inl rfl) (fun b' u hb hu=>(Heap.get?_update_other s.heap (Obj.mapSeq f) (Ne.symm hb)).trans hu) ⟨_,q⟩ ?_
 exact⟨hz,its',_,hv,q⟩
theorem Inv.lnew {its:List Value} {t':Nat} (I:Inv X pins σ H s) (hv:Vals ys its) (hz:ys.length≤sizeLine) :
  Inv X pins σ (upd H s.heap.objs.size (.lst ys)) { s with heap:=s.heap.push { cls:=.type "list",data:=.seq its.toArray },toks:=t' } :=
 I.laid (fun _ _ q=>Heap.get?_push_of_some _ q) (Nat.le_refl _) ⟨hz,its,0,hv,Heap.get?_push_size _ rfl⟩
theorem Inv.fresh (I:Inv X pins σ H s):H s.heap.objs.size=none:=I.hok.fresh (Nat.le_refl _)
theorem Inv.lstM (I:Inv X pins σ H s) (hH:H l=some (.lst xs)):xs.length≤sizeLine∧∃ (its:List Value) (n:Nat),Vals xs its∧xs.length=its.length∧s.heap.get? l=some { cls:=.type "list",data:=.seq its.toArray n }:=by
 obtain⟨z,its,n,r,e⟩:=I.hok l _ hH
 exact⟨z,its,n,r,r.length,e⟩
theorem zY {n:Nat} (h:n≤sizeLine):Builtin.List.listTooLong n=false:=by
 unfold Builtin.List.listTooLong
 exact decide_eq_false (by omega)
end
section
variable {X:Cx}
def BY:V→List V→Hp→VK→Prop:=fun x vs H Q=>∃ l xs y,x=.ref l∧vs=[y]∧H l=some (.lst xs)∧xs.length<sizeLine∧Q .non (upd H l (.lst (xs++[y])))
theorem pD:MtM X "list.append" BY:=by
 intro pins s σ H x vs v us Q I rx rv h
 obtain⟨l,xs,y,rfl,rfl,hH,hz,q⟩:=h
 cases rx
 obtain⟨u,rfl,ru⟩:=rv.one
 obtain⟨z,its,n,r,hl,e⟩:=I.lstM hH
 refine call_meets F.slot_list_append ⟨_,e,rfl⟩ F.entry_list_append (F.args_list_append_2 _ _) (PySem.list_append l its.toArray n u (by rw[List.size_toArray]; omega)) ⟨e,?_⟩
 refine⟨.non,_,I.lset (its':=its++[u]) hH e (by simp) (r.append (.cons ru .nil)) ?_,rfl,q⟩
 rw[List.length_append,List.length_singleton]
 omega
def Gg:V→List V→Hp→VK→Prop:=fun x vs H Q=>∃ l b xs zs,x=.ref l∧vs=[.ref b]∧H l=some (.lst xs)∧H b=some (.lst zs)∧xs.length+zs.length≤sizeLine∧Q .non (upd H l (.lst (xs++zs)))
theorem ID:MtM X "list.extend" Gg:=by
 intro pins s σ H x vs v us Q I rx rv h
 obtain⟨l,b,xs,zs,rfl,rfl,hH,hB,hz,q⟩:=h
 cases rx
 obtain⟨u,rfl,ru⟩:=rv.one
 cases ru
 obtain⟨z,its,n,r,hl,e⟩:=I.lstM hH
 obtain⟨z2,its2,n2,r2,hl2,e2⟩:=I.lstM hB
 have hsz:its.toArray.size+its2.toArray.size≤sizeLine:=by rw[List.size_toArray,List.size_toArray]; omega
 have hlong:¬ (!its.toArray.isEmpty && Builtin.List.listTooLong (its.toArray.size+its2.toArray.size))=true:=by
  rw[zY hsz,Bool.and_false]
  exact Bool.false_ne_true
 refine call_meets F.slot_list_extend ⟨_,e,rfl⟩ F.entry_list_extend (F.args_list_extend_2 _ _)
  (AutoSeq1.list_extend_list_list_0 l its.toArray n b its2.toArray n2 hlong (by rw[List.size_toArray]; omega) (by omega)) ⟨e,e2,?_⟩
 refine⟨.non,_,I.lset (its':=its++its2) hH e (by simp) (r.append r2) ?_,rfl,q⟩
 rw[List.length_append]
 omega
def C8:V→List V→Hp→VK→Prop:=fun x vs H Q=>∃ l xs i k y,x=.ref l∧vs=[.int i]∧H l=some (.lst xs)∧-(2 ^ 63)≤i∧i<2 ^ 63∧seqIndex? i xs.length=some k∧xs[k]?=some y∧Q y (upd H l (.lst (xs.eraseIdx k)))
theorem E2:MtM X "list.pop" C8:=by
 intro pins s σ H x vs v us Q I rx rv h
 obtain⟨l,xs,i,k,y,rfl,rfl,hH,h1,h2,hk,hy,q⟩:=h
 cases rx
 obtain⟨u,rfl,ru⟩:=rv.one
 obtain⟨t,rfl⟩:=ru
 obtain⟨z,its,n,r,hl,e⟩:=I.lstM hH
 obtain⟨w,hw,rw'⟩:=r.get hy
 refine call_meets F.slot_list_pop ⟨_,e,rfl⟩ F.entry_list_pop (F.args_list_pop_2 _ _)
  (MeetsSeq.list_pop_at l its.toArray n i t k w (fitsIndex_both h1 h2) (by rw[List.size_toArray,← hl]; exact hk) (by rw[← Array.getElem?_toList]; exact hw) (by rw[List.size_toArray]; omega)) ⟨e,?_⟩
 refine⟨y,_,I.lset (its':=its.eraseIdx k) hH e ?_ (r.eraseIdx k) ?_,rw',q⟩
 ·show its.toArray.eraseIdxIfInBounds k=(its.eraseIdx k).toArray
  rw[List.eraseIdxIfInBounds_toArray]
 ·have:=zw xs k
  omega
def HN:R2:=fun x y H Q=>∃ l b xs zs,x=.ref l∧y=.ref b∧H l=some (.lst xs)∧H b=some (.lst zs)∧xs.length+zs.length≤sizeLine∧∀ p,H p=none→Q (.ref p) (upd H p (.lst (xs++zs)))
theorem DE:OpR X (binaryOp .Add) HN:=by
 intro pins s σ H x y v u Q I rx ry h
 obtain⟨l,b,xs,zs,rfl,rfl,hH,hB,hz,q⟩:=h
 cases rx
 cases ry
 obtain⟨z,its,n,r,hl,e⟩:=I.lstM hH
 obtain⟨z2,its2,n2,r2,hl2,e2⟩:=I.lstM hB
 refine PySem.P.add_list e e2 ?_ (by rw[List.size_toArray,List.size_toArray]; omega)
 have ea:its.toArray++its2.toArray=(its++its2).toArray:=by simp
 rw[ea]
 exact⟨.ref _,_,I.lnew (t':=s.toks) (r.append r2) (by rw[List.length_append]; omega),rfl,q _ I.fresh⟩
def HH:R2:=fun x y H Q=>∃ l k xs,x=.ref l∧y=.int k∧H l=some (.lst xs)∧-(2 ^ 63)≤k∧k<2 ^ 63∧xs.length * k.toNat≤sizeLine ∧
 ∀ p,H p=none→Q (.ref p) (upd H p (.lst (List.replicate k.toNat xs).flatten))
theorem len_rep {α:Type} (xs:List α) (k:Nat):(List.replicate k xs).flatten.length=k * xs.length:=by
 induction k with
 | zero=>simp
 | succ k ih=>rw[List.replicate_succ,List.flatten_cons,List.length_append,ih,Nat.succ_mul,Nat.add_comm]
theorem HQ:OpR X (binaryOp .Mult) HH:=by
 intro pins s σ H x y v u Q I rx ry h
 obtain⟨l,k,xs,rfl,rfl,hH,h1,h2,hz,q⟩:=h
 cases rx
 obtain⟨t,rfl⟩:=ry
 obtain⟨z,its,n,r,hl,e⟩:=I.lstM hH
 have hlen:its.toArray.size * k.toNat≤sizeLine:=by rw[List.size_toArray,← hl]; exact hz
 have hcap:¬ its.toArray.size * k.toNat > (2 ^ 63-1) / 8:=by
  have:(sizeLine:Nat)≤(2 ^ 63-1) / 8:=by decide
  omega
 have hfit:¬ (!Builtin.List.listFitsIndex k)=true:=by
  rw[fitsIndex_both h1 h2]
  exact Bool.false_ne_true
 have hlong:¬ Builtin.List.listTooLong (its.toArray.size * k.toNat)=true:=by
  rw[zY hlen]
  exact Bool.false_ne_true
 have hnew:List.foldl (fun x1 x2=>x1++x2) #[] (List.replicate (if its.toArray.isEmpty=true then 0 else k.toNat) its.toArray)=(List.replicate k.toNat its).flatten.toArray:=by
  have f0:∀ m:Nat,List.foldl (fun x1 x2=>x1++x2) #[] (List.replicate m its.toArray)=(List.replicate m its).flatten.toArray:=fun m=>by
   have:=foldl_rep its m []
   rw[List.nil_append] at this
   exact this
  rw[f0]
  cases its with
  | nil=>simp
  | cons a r'=>rw[if_neg (by simp)]
 refine wpAny_binaryOp_repeat_ref (T:="list") (U:="int") (by decide) ⟨_,e,rfl⟩ (fun s'=>typeIs_int s' k t) noFill_list_mul F.fills_int_mul F.slot_int_rmul repeat_list F.slot_int_index.lookup
  (call_meets F.slot_int_rmul (typeIs_int s k t) F.entry_int_rmul (F.args_int_rmul_2 _ _) (int___rmul___int_list k t l its.toArray n)
   ⟨e,rfl,⟨_,e,rfl⟩,call_meets F.slot_list_mul ⟨_,e,rfl⟩ F.entry_list_mul (F.args_list_mul_2 _ _) (AutoListH.list___mul___list_int_3 l its.toArray n k t hfit hcap hlong) ⟨e,?_⟩⟩)
 rw[hnew]
 exact⟨.ref _,_,I.lnew (t':=s.toks) (r.rep k.toNat) (by rw[len_rep,Nat.mul_comm]; exact hz),rfl,q _ I.fresh⟩
end
end L2
namespace Att
open PySem PySem.W PySem.Calls PyProof.Rows
theorem yl {P:Params} {h:Heap}:∀ (ns:List Int) (vs:List Value),WellAll P h vs (ns.map WData.int)→IntsAre vs ns:=by
 intro ns
 induction ns with
 | nil =>
  intro vs w
  rw[List.map_nil] at w
  cases w
  exact .nil
 | cons n ns ih =>
  intro vs w
  rw[List.map_cons] at w
  cases w with
  | cons a b =>
   cases a
   exact .cons _ _ (ih _ b)
theorem D5 {l:OpenLaw} {n:Nat} (hn:l.most=some n) {P:Params} {h:Heap} {args:List WData} {vals:List Value}
  (hpre:l.row.toRowW.claim.pre args=true) (hwl:WellAll P h vals args) :
  ∃ a vs ns,vals=[Value.ref a]∧args=[WData.list (ns.map WData.int)]∧h.get? a=some { cls:=.type "list",data:=.seq vs.toArray }∧IntsAre vs ns∧ns.length≤n:=by
 have hsh:WShape.hasAll [] args [.list .int]=true:=(pre_splitW hpre).1
 have hc:l.pre.holds [] { args:=args }=true:=(pre_splitW hpre).2
 obtain⟨d,r,rfl,h1,h2⟩:=hasAllW_cons hsh
 obtain rfl:=hasAllW_nil h2
 obtain⟨xs,rfl,h3⟩:=hasW_list h1
 obtain⟨ns,rfl⟩:=items_int h3
 have hlen:ns.length≤n:=by
  unfold OpenLaw.pre at hc
  have h4:(WTm.not (.lt (.lit (.int (n:Int))) (.len (.arg 0)))).holds [] { args:=[.list (ns.map .int)] }=true:=by
   have h4:=(holds_andW hc).1
   rw[hn] at h4
   exact h4
  have h5:=condW_of h4 (w_not (w_lt w_lit (w_len_list (w_arg rfl))))
  rw[List.length_map] at h5
  refine Nat.le_of_not_lt fun q=>?_
  have q':(n:Int)<((ns.length:Nat):Int):=by omega
  first
   | (rw[decide_eq_true q'] at h5; exact absurd h5 (by decide))
   | (simp at h5; omega)
 cases hwl with
 | cons w1 w2 =>
  cases w2
  cases w1 with
  | list ho hall=>exact⟨_,_,ns,rfl,rfl,ho,yl ns _ hall,hlen⟩
theorem Dz (l:OpenLaw) (args:List WData):l.row.toRowW.claim.post args (.bool true) args=true :=
 postW_of (r:=l.row.toRowW) (X:=(true == true))
  (show WShape.has [] (.bool true) .bool=true by first | rfl | decide | simp [WShape.has,WShape.arms,WShape.armsAll])
  (show (WTm.eq .res (.lit (.bool true))).value [] { args:=args,res:=some (.bool true),after:=args }=some (.bool (true == true)) from w_eq_bool (w_res rfl) w_lit) rfl
theorem attach_call {l:OpenLaw} {n:Nat} {q:Program} {loose:List Str} {XP:(Str→Option Value)→Heap→Prop} {YP:World→Heap→Prop} {d:DefRec}
  (hn:l.most=some n) (hdf:d.params.defaults=[])
  (call:∀ (w:World) (s₀ s₁:Shared) (mg mb:Str→Option Value) (fa:Addr) (o:Obj) (pm cd doc:Value) (a:Addr) (vs:List Value) (ns:List Int),
   Ground q loose [] XP w s₀ mg mb s₁.heap→YP w s₁.heap →
   s₁.heap.get? fa=some o→o.data=.func (docDef d.name d.params d.body d.scope pm cd doc)→s₁.heap.CodeRec cd d.name→mg d.name=some (.ref fa) →
   s₁.heap.get? a=some { cls:=.type "list",data:=.seq vs.toArray }→IntsAre vs ns→ns.length≤n→s₁.gens = #[] →
   codeAny (model l.prog w) callerA (.call (.ref fa) ⟨[.ref a],[]⟩) (fun r s'=>r=.ok (.ret (.bool true))∧OldK s₁.heap s'.heap∧s'.os=s₁.os∧AllBare s'.gens) s₁) :
  WalkO q loose XP YP l.row.toRowW d [] (fun f vs=>PySem.call f vs):=by
 intro w s₀ s₁ mg mb G Y fa o pm cd doc dV kV ho hd hcd hD hmg hg args vals as hpre hlay hrd hwl hlo
 obtain rfl:dV=.none:=Dflts.none hD hdf
 obtain rfl:kV=.none:=Dflts.noKw hD
 obtain⟨a,vs,ns,rfl,rfl,hobj,hints,hlen⟩:=D5 hn hpre hwl
 refine enter_call (codeAny_mono (call w s₀ s₁ mg mb fa o pm cd doc a vs ns G Y ho (fd_plain hd) hcd hmg hobj hints hlen hg) fun r s' hq=>?_)
 obtain⟨rfl,h2,h3,h4⟩:=hq
 exact⟨.inl ⟨.bool true,.bool true,[],rfl,fun _=>rfl,.bool true,Dz l _,fun _=>⟨List.Pairwise.nil,fun _ hm=>(nomatch hm)⟩⟩,h2,h3,h4⟩
end Att
namespace L2
open PySem PySem.Spec PyProof.Rows
theorem wF:∀ {vs:List Value} {ns:List Int},IntsAre vs ns→Vals (ns.map V.int) vs
 | _,_,.nil=>.nil
 | _,_,.cons n t h=>.cons ⟨t,rfl⟩ (wF h)
def Eu (H:Hp):Prop:=∀ b,H b=none∨∃ o xs,H b=some (.frz o (.lst xs))
theorem EF {P:Program} {w:World} {K:PySem.W.Frag} {mg mb:Str→Option Value} {CX:CXT} {k:Nat} {fa a:Addr} {fd:FuncData} {x:Str} {sp:Sp} {s₁:Shared} {vs:List Value} {ns:List Int}
  (KX:K.In s₁.heap) (hns:s₁.heap.Ns mainGlobals mg) (hb:s₁.heap.Ns builtinsNs mb) (hbb:∀ x:Str,x≠"__name__"→mb x=bootBuiltins x) (hlim:s₁.heap.NoLimit) (hg:s₁.gens = #[])
  (ha:s₁.heap.get? a=some { cls:=.type "list",data:=.seq vs.toArray }) (hi:IntsAre vs ns) (hl:ns.length≤sizeLine) (hr:Room k callerA)
  (F:∀ base:Heap,K.In base→base.Ns mainGlobals mg→FnOk P w K mg base CX k fa fd [x] sp) (hbind:∀ (s:Shared) (u:Value),BindsTo s fd ⟨[u],[]⟩ [(x,u)])
  (hsp:∀ H:Hp,Eu H→SqL K H a (ns.map V.int)→sp [.ref a] H (fun v _=>v=.bl true) fun _ _ _=>False)
  (hCX:∀ H e s',CX [] H s₁ (fun _ _ _=>False) e s'→False) :
  codeAny (model P w) callerA (.call (.ref fa) ⟨[.ref a],[]⟩) (fun r s'=>r=.ok (.ret (.bool true))∧OldK s₁.heap s'.heap∧s'.os=s₁.os∧AllBare s'.gens) s₁:=by
 have rv:=wF hi
 have lenV:=hi.length
 -- from an abstract heap in which nothing but the script may be tracked
 have core:∀ H:Hp,Eu H→SqL K H a (ns.map V.int)→HOk P w H s₁.heap→(∀ b,H b≠none→b=a)→(H a≠none→K.lookup a=none) →
   codeAny (model P w) callerA (.call (.ref fa) ⟨[.ref a],[]⟩) (fun r s'=>r=.ok (.ret (.bool true))∧OldK s₁.heap s'.heap∧s'.os=s₁.os∧AllBare s'.gens) s₁:=by
  intro H hO hS hok hA hK
  have base_of:∀ {b:Addr} {o:Obj},s₁.heap.get? b=some o→H b=none→(v9 s₁.heap H).get? b=some o:=fun e n=>EE e n
  have noA:∀ {b:Addr} {o:Obj} {es:Array DictEntry} {ep:Nat},s₁.heap.get? b=some o→o.data=.dict es ep→H b=none:=fun {b o es ep} e d=>by
   cases q:H b with
   | none=>rfl
   | some u =>
    have e':b=a:=hA b (by rw[q]; simp)
    subst e'
    rw[ha] at e; cases e
    have d':Data.seq vs.toArray _=Data.dict es ep:=d
    cases d'
  have nsK:∀ {b:Addr} {m:Str→Option Value},s₁.heap.Ns b m→(v9 s₁.heap H).Ns b m:=fun {b m} ⟨o,es,ep,e,d,r⟩=>⟨o,es,ep,base_of e (noA e d),d,r⟩
  have hKb:K.In (v9 s₁.heap H):=fun b o e=>base_of (KX b o e) (by
   cases q:H b with
   | none=>rfl
   | some u =>
    have e':b=a:=hA b (by rw[q]; simp)
    subst e'
    rw[hK (by rw[q]; simp)] at e; cases e)
  have hM:Mod K mg (v9 s₁.heap H):=⟨hKb,nsK hns,⟨mb,nsK hb,hbb⟩,let ⟨mc,h1,h2⟩:=hlim; ⟨mc,nsK h1,h2⟩⟩
  have e0:Env0 P w K mg (v9 s₁.heap H) callerA [] s₁ H:=⟨rfl,hM,fun b o e=>Gc e,Nat.le_of_eq (DR _ _),trivial,fun b hb=>absurd (show b∈([]:List Addr) from hb) (by simp),hok,.of_eq hg⟩
  refine codeAny_mono ((F _ hKb (nsK hns)).run callerA [] s₁ H ⟨[.ref a],[]⟩ [.ref a] [.ref a] _ _ hr e0 (hbind s₁ (.ref a)) (.cons rfl .nil) (hsp H hO hS)) fun r s' h=>?_
  cases r with
  | error e=>exact (hCX H e s' h).elim
  | ok fl =>
   cases fl with
   | next=>exact False.elim h
   | brk=>exact False.elim h
   | cont=>exact False.elim h
   | ret u =>
    obtain⟨v,H',os,bare,un,hok',r',q⟩:=h
    have q':v=.bl true:=q
    subst q'
    obtain rfl:u=Value.bool true:=r'
    refine⟨rfl,OldK.of_keep fun b o e=>?_,os,bare⟩
    cases q:H b with
    | none=>exact un.keep b o e q (by intro z; exact absurd (show b∈([]:List Addr) from z) (by simp)) (by simp)
    | some u =>
     rcases hO b with z | ⟨ob,xs,z⟩
     ·rw[q] at z; cases z
     ·have z2:=un.frzs b ob _ z
      obtain⟨e1,_⟩:=hok b _ z
      obtain⟨e2,_⟩:=hok' b _ z2
      rw[e] at e1; cases e1
      exact e2
 cases hk:K.lookup a with
 | some o =>
  -- the script is one of the module's own objects
  have e:=KX a o hk
  rw[ha] at e
  cases e
  refine core (fun _=>none) (fun _=>.inl rfl) (.inr ⟨_,vs.toArray,_,hk,rfl,rfl,rfl,by rw[List.size_toArray,lenV]; exact hl,by simpa using rv⟩) (fun b u z=>by have z':(none:Option HO)=some u:=z; cases z') (fun b z=>absurd rfl z) fun z=>absurd rfl z
 | none =>
  refine core (fun b=>if b=a then some (.frz { cls:=.type "list",data:=.seq vs.toArray } (.lst (ns.map V.int))) else none) (fun b=>?_) (.inl (.inr ⟨{ cls:=.type "list",data:=.seq vs.toArray },if_pos rfl⟩)) (fun b u z=>?_) (fun b z=>?_) fun _=>hk
  ·by_cases hb:b=a
   ·exact .inr ⟨_,_,if_pos hb⟩
   ·exact .inl (if_neg hb)
  ·by_cases hb:b=a
   ·have z':=(if_pos hb).symm.trans z
    cases z'
    subst hb
    exact⟨ha,by rw[List.length_map]; exact hl,vs,_,rv,ha⟩
   ·have z':=(if_neg hb).symm.trans z
    cases z'
  ·by_cases hb:b=a
   ·exact hb
   ·exact absurd (if_neg hb) z
theorem walk_of {l:PySem.W.OpenLaw} {n k:Nat} {q:Program} {loose:List Str} {XP:(Str→Option Value)→Heap→Prop} {YP:World→Heap→Prop} {d:DefRec} {K:Params→PySem.W.Frag} {CX:World→CXT} {sp:World→Sp} {x:Str}
  (hn:l.most=some n) (hn2:n≤sizeLine) (hdf:d.params.defaults=[]) (hr:Room k callerA)
  (hY:∀ (w:World) (h:Heap),YP w h→(K w.params).In h)
  (F:∀ (w:World) (mg:Str→Option Value) (fa:Addr) (h:Heap),(K w.params).In h→h.Ns mainGlobals mg→mg d.name=some (.ref fa) →
   ∃ fd:FuncData,(∀ (s:Shared) (u:Value),BindsTo s fd ⟨[u],[]⟩ [(x,u)]) ∧
    ∀ base:Heap,(K w.params).In base→base.Ns mainGlobals mg→FnOk l.prog w (K w.params) mg base (CX w) k fa fd [x] (sp w))
  (hsp:∀ (w:World) (H:Hp) (a:Addr) (ns:List Int),ns.length≤n→Eu H→SqL (K w.params) H a (ns.map V.int)→sp w [.ref a] H (fun v _=>v=.bl true) fun _ _ _=>False)
  (hCX:∀ (w:World) (H:Hp) (s:Shared) (e:Value) (s':Shared),CX w [] H s (fun _ _ _=>False) e s'→False) :
  PySem.W.WalkO q loose XP YP l.row.toRowW d [] (fun f vs=>PySem.call f vs):=by
 refine Att.attach_call hn hdf fun w s₀ s₁ mg mb fa o pm cd doc a vs ns G Y ho hd hcd hmg hobj hints hlen hg=>?_
 have KX:=hY w _ Y
 obtain⟨fd,hb,hF⟩:=F w mg fa _ KX G.T.g hmg
 exact EF KX G.T.g G.T.b G.T.builtins G.T.nolimit hg hobj hints (Nat.le_trans hlen hn2) hr hF hb (fun H hO hS=>hsp w H a ns hlen hO hS) fun H e s'=>hCX w H s₁ e s'
def defArgs (s:Stmt):Arguments:=match s with
 | .FunctionDef _ a _ _ _ _ _ _ _ _=>a
 | _=>{ posonlyargs:=[],args:=[],vararg:=none,kwonlyargs:=[],kw_defaults:=[],kwarg:=none,defaults:=[] }
def defBody (s:Stmt):List Stmt:=match s with
 | .FunctionDef _ _ b _ _ _ _ _ _ _=>b
 | _=>[]
def defScope (s:Stmt):Scope:=match s with
 | .FunctionDef _ _ _ _ _ _ sc _ _ _=>sc
 | _=>{ kind:=.function,names:=[],isGenerator:=false,isCoroutine:=false }
abbrev CX0:CXT:=fun _ _ _ _ _ _=>False
abbrev E0:XK:=fun _ _ _=>False
theorem IB {X:Cx}:yv CX0 X E0:=fun _ _ _ _ _ _ _ h=>h.elim
structure Fun (K:PySem.W.Frag) (x qual:Str) (st:Stmt) (f:Addr) (fd:FuncData):Prop where
 ex:∃ (oc:Value) (od:Option Addr) (kV doc pm:Value) (an:Option Addr) (cdv ct:Value) (osl:Array (Option Value)),
  fd=PySem.W.fnOf x qual (defArgs st) (defBody st) (defScope st) .none kV doc pm an cdv ct∧K.lookup f=some ⟨oc,od,.func fd,osl⟩∧PySem.W.codeIn K cdv qual=true
 kp:PySem.W.keepIn K (.ref f)=true
section
variable {P:Program} {w:World} {K:PySem.W.Frag} {mg:Str→Option Value} {base:Heap}
theorem Fun.ok {x qual:Str} {st:Stmt} {f:Addr} {fd:FuncData} {N ps:List Str} {k:Nat} {sp:Sp} (F:Fun K x qual st f fd) (S:FnScope N ps (defScope st)) (len:∀ vs H Q E,sp vs H Q E→vs.length=ps.length)
  (hbody:∀ (cdv:Value) (A:Around) (outer:List Env) (s:Shared) (H:Hp) (vs:List V) (Q:VK) (E:XK),Room k (A.deeper (envOfC qual (defScope st) s.heap.objs.size f cdv))→sp vs H Q E →
   ∃ t,PSs (xT CX0 P w K mg base N qual (defScope st) f cdv A outer s H E).nox (defBody st) t∧t { nx:=fun _ H'=>Q .non H',rt:=Q } (start N vs) H):FnOk P w K mg base CX0 (k+1) f fd ps sp:=by
 obtain⟨oc,od,kV,doc,pm,an,cdv,ct,osl,rfl,lk,hcd⟩:=F.ex
 refine Io lk hcd S len fun A outer s H vs Q E hr hsp=>?_
 obtain⟨t,h,q⟩:=hbody cdv A outer s H vs Q E hr hsp
 exact⟨t,h.nox,q⟩
theorem Fun.binds {x qual:Str} {st:Stmt} {f:Addr} {fd:FuncData} {ps:List Str} (F:Fun K x qual st f fd)
  (h:∀ (kV doc pm:Value) (an:Option Addr) (cdv ct:Value) (us:List Value),us.length=ps.length→bindArgs (PySem.W.fnOf x qual (defArgs st) (defBody st) (defScope st) .none kV doc pm an cdv ct) ⟨us,[]⟩=pure (ps.zip us)):Binds K fd ps []:=by
 obtain⟨oc,od,kV,doc,pm,an,cdv,ct,osl,rfl,lk,hcd⟩:=F.ex
 exact .all (h kV doc pm an cdv ct)
theorem ki {x qual:Str} {st:Stmt} {f:Addr} {oc:Value} {od an:Option Addr} {osl:Array (Option Value)} {kV doc pm cdv ct:Value} (l:K.lookup f=some ⟨oc,od,.func (PySem.W.fnOf x qual (defArgs st) (defBody st) (defScope st) .none kV doc pm an cdv ct),osl⟩)
  (c:PySem.W.codeIn K cdv qual=true) (k:PySem.W.keepIn K (.ref f)=true):Fun K x qual st f (PySem.W.fnOf x qual (defArgs st) (defBody st) (defScope st) .none kV doc pm an cdv ct):=⟨⟨oc,od,kV,doc,pm,an,cdv,ct,osl,rfl,l,c⟩,k⟩
end
theorem u6 {A:Around} {k:Nat} (hr:Room k A):A.units+1<cLine:=Nat.lt_of_le_of_lt (Nat.add_le_add_left (by decide:1≤64) _) hr.units
section
variable {X:Cx}
theorem pv (i:Nat) {x:Str} {pos:Pos} (hN:X.N[i]?=some x:=by rfl) (hv:Vis X.env.scope x:=by first | exact Or.inl rfl | exact Or.inr (Or.inl rfl) | exact Or.inr (Or.inr rfl)) (hd:(x == ("__debug__":Str))=false:=by decide)
  (hcd:(x == ("__classdict__":Str))=false:=by decide):PE X (.Name x pos) (Ew i):=cg hN hv hd hcd
end
def Same (H H':Hp):Prop:=∀ b o,H b=some o→H' b=some o
theorem Same.trans {H H1 H2:Hp} (a:Same H H1) (b:Same H1 H2):Same H H2:=fun c o h=>b c o (a c o h)
theorem Same.free {H H':Hp} (e:Same H H') {l:Addr} (h:H' l=Option.none):H l=Option.none:=by
 cases q:H l with
 | none=>rfl
 | some o =>
  rw[e l o q] at h
  cases h
theorem Same.seq {K:PySem.W.Frag} {H H':Hp} {a:Addr} {xs:List V} (e:Same H H') (h:SqL K H a xs):SqL K H' a xs:=by
 rcases h with (h | ⟨o,h⟩) | h
 ·exact .inl (.inl (e _ _ h))
 ·exact .inl (.inr ⟨o,e _ _ h⟩)
 ·exact .inr h
structure Cal (P:Program) (w:World) (K:PySem.W.Frag) (mg:Str→Option Value) (base:Heap) (CX:CXT) (x:Str) (k:Nat) (ps:List Str) (sp:Sp):Prop where
 ex:∃ f fd,FnOk P w K mg base CX k f fd ps sp∧Binds K fd ps []∧PySem.W.keepIn K (.ref f)=true∧mg x=some (.ref f)
section
variable {X:Cx} {CX:CXT} {x:Str} {j k:Nat} {ps:List Str} {sp:Sp} {E:XK} {p pos:Pos} {e:Expr} {es:List Expr} {t:TA}
theorem Ex (C:Cal X.prog X.w X.K X.mg X.base CX x j ps sp) (hr:Room k X.A) (hg:Gl X x) (hx:yv CX X E) (ha:PA X (e::es) t) (hj:j≤k:=by decide) (hdb:(x == ("__debug__":Str))=false:=by decide)
  (he:starEach (e::es) X.env=(false,eval e X.env)::starEach es X.env:=by rfl) (hpl:(backTo pos (starEach es X.env)).any (·.1)=false:=by rfl) :
  PE X (.Call (.Name x p) (e::es) [] pos) (zP sp [] E t):=by
 obtain⟨f,fd,F,b,kp,m⟩:=C.ex
 exact GL F (hr.mono hj) hg m kp b .nil hx ha hdb he hpl
theorem gv (C:Cal X.prog X.w X.K X.mg X.base CX0 x j ps sp) (hr:Room k X.A) (hg:Gl X x) (ha:PA X (e::es) t) (hj:j≤k:=by decide) (hdb:(x == ("__debug__":Str))=false:=by decide)
  (he:starEach (e::es) X.env=(false,eval e X.env)::starEach es X.env:=by rfl) (hpl:(backTo pos (starEach es X.env)).any (·.1)=false:=by rfl) :
  PE X (.Call (.Name x p) (e::es) [] pos) (zP sp [] E0 t):=Ex C hr hg IB ha hj hdb he hpl
end
inductive Kn where
 | non | bl | int | str | lst | tup | dct
def tyK (T:String):Option Kn :=
 if T = "int" then some .int else if T = "bool" then some .bl else if T = "str" then some .str else if T = "list" then some .lst else if T = "tuple" then some .tup else none
theorem Gf:tyK "int"=some .int:=rfl
theorem EL:tyK "bool"=some .bl:=rfl
theorem Gy:tyK "str"=some .str:=rfl
theorem EX:tyK "list"=some .lst:=rfl
theorem DF:tyK "tuple"=some .tup:=rfl
def mj:Kn→Kn→Bool
 | .int,.int=>true
 | .bl,.int=>true
 | .bl,.bl=>true
 | .str,.str=>true
 | .lst,.lst=>true
 | .tup,.tup=>true
 | _,_=>false
def dctO (a:Addr):HO:=.ext fun h=>∃ o,h.get? a=some o∧o.cls=.type "dict"
def Kd (K:PySem.W.Frag) (H:Hp):V→Kn→Prop
 | .non,k=>k=.non
 | .bl _,k=>k=.bl
 | .int _,k=>k=.int
 | .str _,k=>k=.str
 | .ref a,k=>(k=.lst∧∃ xs,SqL K H a xs)∨(k=.tup∧∃ xs,SqT K H a xs)∨(k=.dct∧H a=some (dctO a))
 | _,_=>False
def Hg (K:PySem.W.Frag):List V→Hp→VK→Prop:=fun xs H Q=>∃ x T kt k,xs=[x,.ty T]∧tyK T=some kt∧Kd K H x k∧Q (.bl (mj k kt)) H
theorem EZ {T:String} {kt:Kn} (h:tyK T=some kt):(T = "int"∧kt=.int)∨(T = "bool"∧kt=.bl)∨(T = "str"∧kt=.str)∨(T = "list"∧kt=.lst)∨(T = "tuple"∧kt=.tup):=by
 unfold tyK at h
 split at h
 ·next e=>exact .inl ⟨e,(Option.some.inj h).symm⟩
 split at h
 ·next e=>exact .inr (.inl ⟨e,(Option.some.inj h).symm⟩)
 split at h
 ·next e=>exact .inr (.inr (.inl ⟨e,(Option.some.inj h).symm⟩))
 split at h
 ·next e=>exact .inr (.inr (.inr (.inl ⟨e,(Option.some.inj h).symm⟩)))
 split at h
 ·next e=>exact .inr (.inr (.inr (.inr ⟨e,(Option.some.inj h).symm⟩)))
 ·cases h
section
variable {X:Cx}
theorem uY:qo X (.builtin "isinstance") (Hg X.K):=by
 intro pins s σ H xs us Q I r h
 obtain⟨x,T,kt,k,rfl,ht,hk,q⟩:=h
 obtain⟨u,w',rfl,rx,rt⟩:=vals2 r
 obtain rfl:w'=Value.type T:=rt
 have f1:EP X pins σ Q (.bool (mj k kt)) s:=⟨.bl _,H,I,rfl,q⟩
 have f2:EP X pins σ Q (.bool (mj k kt)) { s with toks:=s.toks+1 }:=⟨.bl _,H,I.tok _,rfl,q⟩
 have hT:=EZ ht
 clear ht q
 cases x with
 | non =>
  obtain rfl:u=Value.none:=rx
  obtain rfl:k=.non:=hk
  rcases hT with ⟨rfl,rfl⟩ | ⟨rfl,rfl⟩ | ⟨rfl,rfl⟩ | ⟨rfl,rfl⟩ | ⟨rfl,rfl⟩
  ·exact IsiPair.NoneType_int f2
  ·exact IsiPair.NoneType_bool f2
  ·exact IsiPair.NoneType_str f2
  ·exact IsiPair.NoneType_list f2
  ·exact IsiPair.NoneType_tuple f2
 | bl b =>
  obtain rfl:u=Value.bool b:=rx
  obtain rfl:k=.bl:=hk
  rcases hT with ⟨rfl,rfl⟩ | ⟨rfl,rfl⟩ | ⟨rfl,rfl⟩ | ⟨rfl,rfl⟩ | ⟨rfl,rfl⟩
  ·first | exact IsiPair.bool_int f1 | exact IsiPair.bool_int f2
  ·exact IsiPair.bool_bool f1
  ·exact IsiPair.bool_str f2
  ·exact IsiPair.bool_list f2
  ·exact IsiPair.bool_tuple f2
 | int i =>
  obtain⟨t,rfl⟩:=rx
  obtain rfl:k=.int:=hk
  rcases hT with ⟨rfl,rfl⟩ | ⟨rfl,rfl⟩ | ⟨rfl,rfl⟩ | ⟨rfl,rfl⟩ | ⟨rfl,rfl⟩
  ·exact IsiPair.int_int f1
  ·exact IsiPair.int_bool f2
  ·exact IsiPair.int_str f2
  ·exact IsiPair.int_list f2
  ·exact IsiPair.int_tuple f2
 | str z =>
  obtain⟨t,rfl⟩:=rx
  obtain rfl:k=.str:=hk
  rcases hT with ⟨rfl,rfl⟩ | ⟨rfl,rfl⟩ | ⟨rfl,rfl⟩ | ⟨rfl,rfl⟩ | ⟨rfl,rfl⟩
  ·exact IsiPair.str_int f2
  ·exact IsiPair.str_bool f2
  ·exact IsiPair.str_str f1
  ·exact IsiPair.str_list f2
  ·exact IsiPair.str_tuple f2
 | ref a =>
  obtain rfl:u=Value.ref a:=rx
  rcases hk with ⟨rfl,xs,hq⟩ | ⟨rfl,xs,hq⟩ | ⟨rfl,hq⟩
  ·obtain⟨its,_,⟨o,n,e,c,_,_⟩,_⟩:=I.list hq
   rcases hT with ⟨rfl,rfl⟩ | ⟨rfl,rfl⟩ | ⟨rfl,rfl⟩ | ⟨rfl,rfl⟩ | ⟨rfl,rfl⟩
   ·exact IsiPair.list_int e c f2
   ·exact IsiPair.list_bool e c f2
   ·exact IsiPair.list_str e c f2
   ·exact IsiPair.list_list e c f1
   ·exact IsiPair.list_tuple e c f2
  ·obtain⟨its,_,⟨o,e,c,_⟩,_⟩:=I.tuple hq
   rcases hT with ⟨rfl,rfl⟩ | ⟨rfl,rfl⟩ | ⟨rfl,rfl⟩ | ⟨rfl,rfl⟩ | ⟨rfl,rfl⟩
   ·exact IsiPair.tuple_int e c f2
   ·exact IsiPair.tuple_bool e c f2
   ·exact IsiPair.tuple_str e c f2
   ·exact IsiPair.tuple_list e c f2
   ·exact IsiPair.tuple_tuple e c f1
  ·obtain⟨⟨o,e,c⟩,_⟩:=I.hok a _ hq
   rcases hT with ⟨rfl,rfl⟩ | ⟨rfl,rfl⟩ | ⟨rfl,rfl⟩ | ⟨rfl,rfl⟩ | ⟨rfl,rfl⟩
   ·exact IsiPair.dict_int e c f2
   ·exact IsiPair.dict_bool e c f2
   ·exact IsiPair.dict_str e c f2
   ·exact IsiPair.dict_list e c f2
   ·exact IsiPair.dict_tuple e c f2
 | _=>exact False.elim hk
end
def Aw (J:It) (g:TG) (tb:TS) (D:Ends) (σ:St) (H:Hp):Prop:=∃ W:Nat→Nat→St→Hp→Prop,(∃ m,W 0 m σ H)∧∀ i m σ H,W i m σ H →
 (J.stop i H∧D.nx σ H)∨(J.go i H∧∃ N:St→Hp→Prop,(∀ σ' H',N σ' H'→∃ m',m'<m∧W (i+1) m' σ' H')∧∀ x H',J.yld i H x H'→g x σ H' fun σ2 H2=>tb { D with nx:=N,ct:=N,bk:=D.nx } σ2 H2)
theorem GG {wi:TI} {g:TG} {tb:TS} {D:Ends} {σ:St} {H:Hp}:Ib wi g tb D σ H=wi σ H fun J H1=>Aw J g tb D σ H1:=rfl
section
variable {K:PySem.W.Frag} {a:Addr} {xs:List V} {g:TG} {tb:TS} {D:Ends} {σ:St} {H:Hp} {lo:Int} {n:Nat}
theorem uH (xs:List V) (Pv:Nat→St→Hp→Prop) (h0:Pv 0 σ H) (hl:∀ i σ H,i≤xs.length→Pv i σ H→SqL K H a xs)
  (hs:∀ i x σ H,xs[i]?=some x→Pv i σ H→g x σ H fun σ2 H2=>tb { D with nx:=Pv (i+1),ct:=Pv (i+1),bk:=D.nx } σ2 H2) (hd:∀ σ H,Pv xs.length σ H→D.nx σ H):Aw (Itl K a) g tb D σ H:=EJ Pv h0 hl hs hd
theorem ua (Pv:Nat→St→Hp→Prop) (h0:Pv 0 σ H)
  (hs:∀ i σ H,i<n→Pv i σ H→g (.int (lo+i)) σ H fun σ2 H2=>tb { D with nx:=Pv (i+1),ct:=Pv (i+1),bk:=D.nx } σ2 H2) (hd:∀ σ H,Pv n σ H→D.nx σ H):Aw (Itr lo n) g tb D σ H:=Dr Pv h0 hs hd
end
structure Bits (n:Nat) (i:Int):Prop where
 lt:i.natAbs<2 ^ n
theorem Bits.mono {m n:Nat} {i:Int} (h:Bits m i) (le:m≤n):Bits n i:=⟨Nat.lt_of_lt_of_le h.lt (Nat.pow_le_pow_right (by decide) le)⟩
theorem Bits.of {n:Nat} {i b:Int} (lo:-b≤i) (hi:i≤b) (hb:b<((2 ^ n:Nat):Int)):Bits n i:=⟨by omega⟩
theorem Bits.bits {n:Nat} {i:Int} (h:Bits n i):Builtin.Int.intBits i≤n:=by
 unfold Builtin.Int.intBits
 split
 ·exact Nat.zero_le _
 ·have q:=h.lt
  rcases Nat.eq_zero_or_pos i.natAbs with h0 | hp
  ·rw[h0] at q ⊢
   have:(0:Nat).log2=0:=by decide
   rename_i hz
   exact absurd (by simp; omega) hz
  ·have:=(Nat.log2_lt (Nat.ne_of_gt hp)).mpr q
   omega
def CMulB (i j:Int):Prop:=Bits 100000 i∧Bits 100000 j
theorem CMulB.ok {i j:Int} (h:CMulB i j):IntMulOk i j:=IntMulOk.of_bits (Nat.le_trans h.1.bits (by decide)) (Nat.le_trans h.2.bits (by decide))
def CDivB (_ j:Int):Prop:=0<j∧Bits 8999 j
theorem CDivB.ok {i j:Int} (h:CDivB i j):Builtin.divisionGoesByPylong i j=false:=by
 refine PyProof.noPylong_of_log2 ?_
 have q:=h.2.lt
 have:=(Nat.log2_lt (n:=j.natAbs) (k:=8999) (by have:=h.1; omega)).mpr q
 omega
section
variable {X:Cx}
theorem vo:OpR X (binaryOp .Mult) (rI CMulB fun i j=>.int (i * j)):=opI fun _ _ _ _ _ _ _ hc q=>mul_int q hc.ok
theorem rT:OpR X (binaryOp .FloorDiv) (rI CDivB fun i j=>.int (i / j)):=opI fun i j _ _ _ _ _ hc q=>by
 have h1:(0:Int)<j:=hc.1
 exact floordiv_int (by omega) (by rw[Int.fdiv_eq_ediv_of_nonneg i (by omega)]; exact q) (.inl hc.ok)
theorem DG:OpR X (compareOp .Is) (fun x y H Q=>∃ b c,x=.bl b∧y=.bl c∧Q (.bl (b == c)) H):=by
 intro pins s σ H x y v u Q I rx ry h
 obtain⟨b,c,rfl,rfl,q⟩:=h
 cases rx
 cases ry
 exact is_bool ⟨.bl _,H,I,rfl,q⟩
def FF (t:TA) (ti:TE):TE:=fun σ H Q=>t σ H fun xs H1=>xs.length≤sizeLine∧ti σ H1 fun y H2=>∃ i v,y=.int i∧0≤i∧xs[i.toNat]?=some v∧Q v H2
end
section
variable {X:Cx} {es:List Expr} {b:Expr} {t:TA} {ti:TE} {pos p2:Pos}
theorem vn (h:PA X es t) (hb:PE X b ti) (hs:B0 b):PE X (.Subscript (.List es p2) b pos) (FF t ti):=by
 intro pins s σ H Q I hq
 refine Subscript_ (wpAny_List_spliced (thn (h p2 pins s σ H _ I hq) fun us s1 ⟨xs,H1,I1,r,z,q⟩=>⟨by rw[← r.length]; exact z,?_⟩))
 have hf:H1 s1.heap.objs.size=none:=I1.hok.fresh (Nat.le_refl _)
 have I2:Inv X (pins++[(s1.heap.objs.size,{ cls:=.type "list",data:=.seq us.toArray })]) σ H1 { s1 with heap:=s1.heap.push { cls:=.type "list",data:=.seq us.toArray } }:=by
  have J:Inv X pins σ H1 { s1 with heap:=s1.heap.push { cls:=.type "list",data:=.seq us.toArray } }:=I1.kept (t':=s1.toks) fun b u e=>Heap.get?_push_of_some _ e
  refine J.pins_of fun p hp=>?_
  rcases List.mem_append.mp hp with hp | hp
  ·exact J.pin p (List.mem_append_right _ hp)
  ·have e:=List.mem_singleton.mp hp
   subst e
   exact⟨Heap.get?_push_size _ rfl,hf,Nat.ne_of_gt I1.lt,I1.nofs (Nat.le_refl _),fun v z=>by cases z⟩
 refine thn (hb _ _ σ H1 _ I2 q) fun u s2 ⟨y,H2,I3,ry,i,v,e,h0,ha,q2⟩=>?_
 subst e
 obtain⟨t',rfl⟩:=ry
 obtain⟨hp,_⟩:=I3.pin (s1.heap.objs.size,{ cls:=.type "list",data:=.seq us.toArray }) (List.mem_append_right _ (List.mem_append_right _ (List.mem_singleton.mpr rfl)))
 obtain⟨w,ew,rw'⟩:=r.get ha
 have I4:Inv X pins σ H2 s2:=I3.pins_of fun p hp=>I3.pin p (List.mem_append_right _ (List.mem_append_left _ hp))
 have hl:=r.length
 have hn:=vO
 have hi:i.toNat<us.length:=(List.getElem?_eq_some_iff.mp ew).1
 have fin:EP X pins σ Q w s2:=⟨v,H2,I4,rw',q2⟩
 exact item_listR (l:=s1.heap.objs.size) ⟨_,hp,rfl,_,rfl⟩ h0 (by omega) (by simpa using ew) fin (hs _ _)
end
theorem CV:mj .non .bl=false:=rfl
theorem AS:mj .non .int=false:=rfl
theorem Bj:mj .non .str=false:=rfl
theorem Bq:mj .non .lst=false:=rfl
theorem Bv:mj .non .tup=false:=rfl
theorem Di:mj .bl .bl=true:=rfl
theorem B5:mj .bl .int=true:=rfl
theorem Cb:mj .bl .str=false:=rfl
theorem CH:mj .bl .lst=false:=rfl
theorem Cv:mj .bl .tup=false:=rfl
theorem Cr:mj .int .bl=false:=rfl
theorem AL:mj .int .int=true:=rfl
theorem Bh:mj .int .str=false:=rfl
theorem A9:mj .int .lst=false:=rfl
theorem A0:mj .int .tup=false:=rfl
theorem CJ:mj .str .bl=false:=rfl
theorem AR:mj .str .int=false:=rfl
theorem A6:mj .str .str=true:=rfl
theorem A2:mj .str .lst=false:=rfl
theorem Bf:mj .str .tup=false:=rfl
theorem CC:mj .lst .bl=false:=rfl
theorem AO:mj .lst .int=false:=rfl
theorem AU:mj .lst .str=false:=rfl
theorem AN:mj .lst .lst=true:=rfl
theorem Br:mj .lst .tup=false:=rfl
theorem Cq:mj .tup .bl=false:=rfl
theorem Bt:mj .tup .int=false:=rfl
theorem AY:mj .tup .str=false:=rfl
theorem A3:mj .tup .lst=false:=rfl
theorem AV:mj .tup .tup=true:=rfl
theorem CW:mj .dct .bl=false:=rfl
theorem Bm:mj .dct .int=false:=rfl
theorem Bu:mj .dct .str=false:=rfl
theorem Bk:mj .dct .lst=false:=rfl
theorem Bg:mj .dct .tup=false:=rfl
theorem GV {K:PySem.W.Frag} {H:Hp} {k:Kn}:Kd K H .non k=(k=.non):=rfl
theorem IC {K:PySem.W.Frag} {H:Hp} {k:Kn} {b:Bool}:Kd K H (.bl b) k=(k=.bl):=rfl
theorem GT {K:PySem.W.Frag} {H:Hp} {k:Kn} {i:Int}:Kd K H (.int i) k=(k=.int):=rfl
theorem HW {K:PySem.W.Frag} {H:Hp} {k:Kn} {z:Str}:Kd K H (.str z) k=(k=.str):=rfl
theorem Kd.tup {K:PySem.W.Frag} {H:Hp} {a:Addr} {xs:List V} (h:SqT K H a xs):Kd K H (.ref a) .tup:=.inr (.inl ⟨rfl,xs,h⟩)
theorem Kd.lst {K:PySem.W.Frag} {H:Hp} {a:Addr} {xs:List V} (h:SqL K H a xs):Kd K H (.ref a) .lst:=.inl ⟨rfl,xs,h⟩
theorem Kd.dct {K:PySem.W.Frag} {H:Hp} {a:Addr} (h:H a=some (dctO a)):Kd K H (.ref a) .dct:=.inr (.inr ⟨rfl,h⟩)
theorem Kd.ref {K:PySem.W.Frag} {H:Hp} {a:Addr} {k:Kn} (h:Kd K H (.ref a) k):k≠.int∧k≠.bl∧k≠.str∧k≠.non:=by
 rcases h with ⟨rfl,_⟩ | ⟨rfl,_⟩ | ⟨rfl,_⟩ <;> exact⟨(by intro z; cases z),(by intro z; cases z),(by intro z; cases z),(by intro z; cases z)⟩
theorem CG:uF .non .non=true:=rfl
theorem CD {x2:Int}:uF .non (.int x2)=true:=rfl
theorem Cw {x1:Int}:uF (.int x1) .non=true:=rfl
theorem Ec {x2:Bool}:uF .non (.bl x2)=true:=rfl
theorem Dq {x1:Bool}:uF (.bl x1) .non=true:=rfl
theorem CP {x2:Str}:uF .non (.str x2)=true:=rfl
theorem CO {x1:Str}:uF (.str x1) .non=true:=rfl
theorem Ca {x1:Int} {x2:Int}:uF (.int x1) (.int x2)=true:=rfl
theorem Fc {x1:Bool} {x2:Bool}:uF (.bl x1) (.bl x2)=true:=rfl
theorem B6 {x1:Str} {x2:Str}:uF (.str x1) (.str x2)=true:=rfl
theorem CA {x1:Int} {x2:Str}:uF (.int x1) (.str x2)=true:=rfl
theorem B8 {x1:Str} {x2:Int}:uF (.str x1) (.int x2)=true:=rfl
theorem Dk {x1:Bool} {x2:Str}:uF (.bl x1) (.str x2)=true:=rfl
theorem DJ {x1:Str} {x2:Bool}:uF (.str x1) (.bl x2)=true:=rfl
theorem cxK {CX:CXT} {P:Program} {w:World} {K:PySem.W.Frag} {mg:Str→Option Value} {base:Heap} {N:List Str} {qual:Str} {scope:Scope} {f:Addr} {cd:Value} {A:Around} {outer:List Env} {s:Shared} {H:Hp} {E:XK} :
  (xT CX P w K mg base N qual scope f cd A outer s H E).K=K:=rfl
theorem nj:bootBuiltins "len"=some (.builtin "len"):=by decide +kernel
theorem Ij:bootBuiltins "max"=some (.builtin "max"):=by decide +kernel
theorem FI:bootBuiltins "min"=some (.builtin "min"):=by decide +kernel
theorem sX:bootBuiltins "isinstance"=some (.builtin "isinstance"):=by decide +kernel
theorem Ic:bootBuiltins "int"=some (.type "int"):=by decide +kernel
theorem Hu:bootBuiltins "bool"=some (.type "bool"):=by decide +kernel
theorem r8:bootBuiltins "list"=some (.type "list"):=by decide +kernel
theorem FY:bootBuiltins "tuple"=some (.type "tuple"):=by decide +kernel
theorem xx:bootBuiltins "sum"=some (.builtin "sum"):=by decide +kernel
theorem vJ:bootBuiltins "all"=some (.builtin "all"):=by decide +kernel
theorem FP:bootBuiltins "zip"=some (.type "zip"):=by decide +kernel
theorem Im:bootBuiltins "set"=some (.type "set"):=by decide +kernel
theorem Ez:bootBuiltins "sorted"=some (.builtin "sorted"):=by decide +kernel
structure Mg (mg:Str→Option Value):Prop where
 m_len:mg "len"=none
 m_range:mg "range"=none
 m_abs:mg "abs"=none
 m_max:mg "max"=none
 m_min:mg "min"=none
 m_isinstance:mg "isinstance"=none
 m_int:mg "int"=none
 m_bool:mg "bool"=none
 m_str:mg "str"=none
 m_list:mg "list"=none
 m_tuple:mg "tuple"=none
 m_sum:mg "sum"=none
 m_all:mg "all"=none
 m_enumerate:mg "enumerate"=none
 m_zip:mg "zip"=none
 m_ValueError:mg "ValueError"=none
 m_any:mg "any"=none
 m_set:mg "set"=none
 m_sorted:mg "sorted"=none
end L2
set_option maxHeartbeats 1000000
namespace L2
open PySem PySem.Spec PyProof.Rows
section
variable {prog:Program} {w:World} {A:Around} {R:Result→Shared→Prop} {s:Shared}
theorem Bc {elt target iter:Expr} {ifs:List Expr} {scope:Scope} {pos:Pos} {it acc:Value} {env:Env} (I:Nat→Shared→Prop)
  (turn:∀ n s,I n s→wpAny (model prog w) A (pyNext it) (fun r s₁=>match r with
   | none=>R (.ok .next) s₁
   | some v=>wpAny (model prog w) A (letOwnedTupleGo target it v) (fun _ s₁'=>wpAny (model prog w) A (assign target env v) (fun _ s₂ =>
     wpAny (model prog w) A (forIn ifs true fun c r=>if r=true then do let ok ← isTrue c env (eval c env); pure (ForInStep.yield ok) else pure (ForInStep.yield r)) (fun ok s₃ =>
      if ok=true then wpAny (model prog w) A (eval elt env) (fun x s₄ =>
       wpAny (model prog w) A (call (.builtin "list.append") [acc,x]) (fun _ s₅=>∃ m,m<n∧I m s₅) (fun _ _=>False) s₄) (fun _ _=>False) s₃
      else ∃ m,m<n∧I m s₃) (fun _ _=>False) s₂) (fun _ _=>False) s₁') (fun _ _=>False) s₁) (fun _ _=>False) s)
  (n:Nat) (h:I n s) :
  codeAny (model prog w) A (.compLoop (.ListComp elt [⟨target,iter,ifs,0⟩] scope pos) 0 it acc env) R s:=by
 refine codeAny_loop rfl I (fun n s hI=>?_) n h
 show wpAny _ A ((compTurn (.ListComp elt [⟨target,iter,ifs,0⟩] scope pos) 0 it acc env).onRaise (fun x=>do noteFrame x env; theTreesLotGoes x)) _ _ s
 refine wpAny_noted ?_
 rw[compTurn_list]
 refine wpAny_bind (wpAny_standAt (wpAny_bind (wpAny_mono (turn n s hI) (fun r s₁ h₁=>?_) fun _ _ h'=>h'.elim)))
 cases r with
 | none=>exact wpAny_pure h₁
 | some v =>
  refine wpAny_bind (wpAny_mono h₁ (fun _ s₁' h₁'=>wpAny_bind (wpAny_mono h₁' (fun _ s₂ h₂=>wpAny_bind (wpAny_mono h₂ (fun ok s₃ h₃=>?_) fun _ _ h'=>h'.elim)) fun _ _ h'=>h'.elim)) fun _ _ h'=>h'.elim)
  cases ok with
  | false=>exact wpAny_pure ⟨rfl,h₃⟩
  | true =>
   exact wpAny_bind (wpAny_bind (wpAny_mono h₃ (fun x s₄ h₄=>wpAny_bind (wpAny_mono h₄ (fun _ s₅ h₅=>wpAny_pure (wpAny_pure ⟨rfl,h₅⟩)) fun _ _ h'=>h'.elim)) fun _ _ h'=>h'.elim))
end
def blk (X:Cx) (scope:Scope) (cl:List (Str×Addr)) (N':List Str) (s₀:Shared) (H₀:Hp) (C:Addr) (pn:List (Addr×Obj)) (ex:List Addr):Cx where
 prog:=X.prog
 w:=X.w
 K:=X.K
 mg:=X.mg
 base:=X.base
 A:=X.A
 N:=N'
 s₀:=s₀
 H₀:=H₀
 env:=compEnvC scope cl C X.env
 outer:=X.stack
 stack:=X.stack
 ex:=ex
 fn:=fun _=>false
 calm:=X.calm
 pn:=pn
 xe:=fun _ _=>False
def yU (X:Cx) (ifs:List Expr) (t:TT):Prop :=
 ∀ (pins:List (Addr×Obj)) (s:Shared) (σ:St) (H:Hp) (Q:Bool→Hp→Prop),Inv X pins σ H s→t σ H Q →
  wpAny (model X.prog X.w) X.A (forIn ifs true fun c r=>if r=true then do let ok ← isTrue c X.env (eval c X.env); pure (ForInStep.yield ok) else pure (ForInStep.yield r)) (TP X pins σ Q) X.xe s
def HM:TT:=fun _ H Q=>Q true H
theorem mH {X:Cx}:yU X [] HM:=fun _ _ _ H _ I h=>wpAny_tests_nil ⟨H,I,h⟩
theorem uZ {X:Cx} {c:Expr} {t:TT} (h:PT X c t):yU X [c] t:=fun pins s σ H Q I q=>wpAny_tests_one (h pins s σ H Q I q)
def slots (ix:List Nat) (σ:St):St:=ix.map fun j=>(σ[j]?).getD none
def zS (D:Addr) (J:It) (g:TG) (tt:TT) (te:TE) (Q:VK) (W:Nat→Nat→St→Hp→Prop):Prop :=
 ∀ i m τ H2,W i m τ H2→(J.stop i H2∧Q (.ref D) H2)∨(J.go i H2∧∀ x H3,J.yld i H2 x H3→g x τ H3 fun τ' H3'=>tt τ' H3' fun b H4 =>
  if b=true then te τ' H4 fun v H5=>∃ ys,H5 D=some (.lst ys)∧ys.length<sizeLine∧∃ m',m'<m∧W (i+1) m' τ' (upd H5 D (.lst (ys++[v]))) else ∃ m',m'<m∧W (i+1) m' τ' H4)
def CF (ix:List Nat) (nl:Nat) (wi:TI) (g:TG) (tt:TT) (te:TE):TE:=fun σ H Q=>wi σ H fun J H1=>∀ D,H1 D=none →
 ∃ W:Nat→Nat→St→Hp→Prop,(∃ m,W 0 m (slots ix σ++List.replicate nl none) (upd H1 D (.lst [])))∧zS D J g tt te Q W
structure CompOk (X:Cx) (scope:Scope) (cl:List (Str×Addr)) (N':List Str) (ix:List Nat) (nl:Nat):Prop where
 clos:closureFor scope X.env=pure cl
 sub:∀ y c,cl.lookup y=some c→X.env.cells.lookup y=some c
 has:∀ p∈(relabel scope X.env).names,(p.2=.cell∨p.2=.free)→(cl.lookup p.1).isSome=true
 cell:∀ y∈scope.names,y.2≠.cell
 kind:scope.kind=.function
 names:∀ y∈scope.names,y.2=.local→scope.names.lookup y.1=some .local
 len:N'.length=ix.length+nl
 out:∀ (i j:Nat) (y:Str),ix[i]?=some j→N'[i]?=some y→X.N[j]?=some y∧(X.env.kindOf y=some .cell∨X.env.kindOf y=some .free)∧((relabel scope X.env).names.lookup y=some .cell∨(relabel scope X.env).names.lookup y=some .free)
theorem fm0 {α:Type} {P:α→Prop}:∀ p∈([]:List α),P p:=fun _ h=>nomatch h
theorem fm1 {α:Type} {P:α→Prop} {a:α} {l:List α} (h:P a) (r:∀ p∈l,P p):∀ p∈a::l,P p:=List.forall_mem_cons.mpr ⟨h,r⟩
def OutsOk (X:Cx) (scope:Scope):List Nat→List Str→Prop
 | [],_=>True
 | j::r,y::t=>(X.N[j]?=some y∧(X.env.kindOf y=some .cell∨X.env.kindOf y=some .free)∧((relabel scope X.env).names.lookup y=some .cell∨(relabel scope X.env).names.lookup y=some .free))∧OutsOk X scope r t
 | _::_,[]=>False
theorem OutsOk.at {X:Cx} {scope:Scope}:∀ {ix:List Nat} {N:List Str},OutsOk X scope ix N→∀ (i j:Nat) (y:Str),ix[i]?=some j→N[i]?=some y→X.N[j]?=some y∧(X.env.kindOf y=some .cell∨X.env.kindOf y=some .free)∧((relabel scope X.env).names.lookup y=some .cell∨(relabel scope X.env).names.lookup y=some .free)
 | [],_,_,i,j,y,h1,_=>by simp at h1
 | _::_,[],h,_,_,_,_,_=>h.elim
 | _::_,_::_,h,0,j,y,h1,h2=>by
  simp at h1 h2
  subst h1 h2
  exact h.1
 | _::_,_::_,h,i+1,j,y,h1,h2=>OutsOk.at h.2 i j y (by simpa using h1) (by simpa using h2)
theorem CompOk.make {X:Cx} {scope:Scope} {cl:List (Str×Addr)} {N':List Str} {ix:List Nat} {nl:Nat} (clos:closureFor scope X.env=pure cl) (sub:∀ p∈cl,X.env.cells.lookup p.1=some p.2)
  (has:((relabel scope X.env).names.all fun p=>!(p.2 == .cell || p.2 == .free) || (cl.lookup p.1).isSome)=true) (cell:∀ y∈scope.names,y.2≠.cell) (kind:scope.kind=.function)
  (names:∀ y∈scope.names,y.2=.local→scope.names.lookup y.1=some .local) (len:N'.length=ix.length+nl) (out:OutsOk X scope ix N'):CompOk X scope cl N' ix nl :=
 ⟨clos,fun y c h=>sub (y,c) (PySem.mem_of_lookup h),fun p hp hc=>by
  have q:=List.all_eq_true.mp has p hp
  rcases hc with e | e <;> (rw[e] at q; simpa using q),cell,kind,names,len,out.at⟩
section
variable {X:Cx} {pins:List (Addr×Obj)} {σ:St} {H:Hp} {s:Shared}
theorem DX {scope:Scope} {cl:List (Str×Addr)} {N':List Str} {ix:List Nat} {nl:Nat} {C:Addr} {fp:List Addr} (O:CompOk X scope cl N' ix nl) (I:Inv X pins σ H s) (hC:s.heap.objs.size≤C) (f:∀ b∈fp,FpOk X pins H b) (lt:∀ b∈fp,b<s.heap.objs.size) :
  (blk X scope cl N' s H C (X.pn++pins) fp).Ok where
 mod:=I.ok.mod
 kind:=O.kind
 glob:=I.ok.glob
 blt:=I.ok.blt
 above:=hC
 inj:=fun x y c h1 h2=>I.ok.inj x y c (O.sub x c h1) (O.sub y c h2)
 has:=fun x hx=>by
  have hx':(relabel scope X.env).names.lookup x=some .cell∨(relabel scope X.env).names.lookup x=some .free:=hx
  rcases hx' with h | h
  ·exact Option.isSome_iff_exists.mp (O.has _ (PySem.mem_of_lookup h) (.inl rfl))
  ·exact Option.isSome_iff_exists.mp (O.has _ (PySem.mem_of_lookup h) (.inr rfl))
 cab:=fun x c h=>nomatch (show false=true from h)
 hd:=I.ok.hd
 frames:=I.ok.frames
 stk:=.inl rfl
 exf:=fun b hb=>⟨Nat.ne_of_lt (Nat.lt_of_lt_of_le (lt b hb) hC),fun x c h=>(f b hb).2.2.2.2.1 x c (O.sub x c h)⟩
 bs:=I.bs
 bsz:=Nat.le_trans I.ok.bsz I.sz
 noex:=fun b o e hb=>by
  rcases (f b hb).2.2.2.1 with z | z
  ·exact I.ok.noex b o e z
  ·exact absurd (Nat.lt_of_lt_of_le (Heap.lt_size e) (Nat.le_trans I.ok.bsz z)) (Nat.lt_irrefl _)
 exfs:=fun b hb z=>by
  rcases List.mem_cons.mp (I.stkSub b z) with e | e
  ·exact (f b hb).2.1 e
  ·exact (f b hb).2.2.1 e
 funs:=I.stack
 frf:=I.stkFree
theorem Gp {scope:Scope} {cl:List (Str×Addr)} {N':List Str} {ix:List Nat} {nl:Nat} {C:Addr} {fp:List Addr} {h':Heap} {t':Nat} (O:CompOk X scope cl N' ix nl) (I:Inv X pins σ H s) (hC:s.heap.objs.size≤C) (f:∀ b∈fp,FpOk X pins H b) (lt:∀ b∈fp,b<s.heap.objs.size)
  (hn:h'.Ns C fun _=>none) (k:∀ b o,s.heap.get? b=some o→h'.get? b=some o) :
  Inv (blk X scope cl N' s H C (X.pn++pins) fp) [] (slots ix σ++List.replicate nl none) H { s with heap:=h',toks:=t' }:=by
 refine⟨DX O I hC f lt,rfl,I.bare,Un.kept k,⟨_,hn,fun i x v e1 e2 e3=>?_⟩,fun x c e=>?_,I.hok.fresh hC,fun x c e=>I.freeC x c (O.sub x c e),fun p hp=>?_,I.hok.kept k,?_⟩
 ·have e1:N'[i]?=some x:=e1
  have hi:i<ix.length:=by
   by_cases hi:i<ix.length
   ·exact hi
   ·rw[List.getElem?_append_right (by simpa [slots] using hi)] at e2
    rw[List.getElem?_replicate] at e2
    split at e2 <;> cases e2
  have e2':(σ[ix[i]]?).getD none=some v:=by
   rw[List.getElem?_append_left (by simpa [slots] using hi)] at e2
   simpa [slots,hi] using e2
  have e4:σ[ix[i]]?=some (some v):=by
   cases q:σ[ix[i]]? with
   | none=>rw[q] at e2'; cases e2'
   | some z=>rw[q] at e2'; exact congrArg some e2'
  obtain⟨o1,o2,o3⟩:=O.out i ix[i] x (by simp [hi]) e1
  obtain⟨m,hm,hl⟩:=I.loc
  have vis:Vis X.env.scope x:=by
   rcases o2 with z | z
   ·exact .inr (.inl z)
   ·exact .inr (.inr z)
  obtain⟨u,r,l⟩:=hl _ x v o1 e4 vis
  rcases l with ⟨z,_⟩ | ⟨_,c,hc,o,ho,hd⟩
  ·rcases o2 with y | y <;> (rw[y] at z; cases z)
  ·obtain⟨c',hc'⟩:=(DX O I hC f lt).has x o3
   have z:=O.sub x c' hc'
   rw[hc] at z
   cases z
   exact⟨u,r,.inr ⟨o3,c,hc',o,k _ _ ho,hd⟩⟩
 ·obtain⟨v,q⟩:=I.cell x c (O.sub x c e)
  exact⟨v,by obtain⟨o,ho,hd⟩:=q; exact⟨o,k _ _ ho,hd⟩⟩
 ·have hp':p∈X.pn++pins:=by
   have z:p∈(X.pn++pins)++[]:=hp
   rwa [List.append_nil] at z
  obtain⟨a1,a2,a3,a4,a5⟩:=I.pin p hp'
  refine⟨k _ _ a1,a2,Nat.ne_of_lt (Nat.lt_of_lt_of_le (Heap.lt_size a1) hC),fun z=>?_,a5⟩
  rcases List.mem_cons.mp (I.stkSub p.1 z) with e | e
  ·exact a3 e
  ·exact a4 e
 ·show (slots ix σ++List.replicate nl none).length=N'.length
  rw[List.length_append,List.length_replicate,O.len]
  simp [slots]
theorem Em {scope:Scope} {cl:List (Str×Addr)} {N':List Str} {C:Addr} {fp:List Addr} {s':Shared} {τ:St} {H':Hp} (I:Inv X pins σ H s) (f:∀ b∈fp,FpOk X pins H b)
  (J:Inv (blk X scope cl N' s H C (X.pn++pins) fp) [] τ H' s'):Inv X pins σ H' s' :=
 I.call' J.os J.base J.hok J.bare fun b hb=>⟨(f b hb).2.2.2.1,(f b hb).2.1,(f b hb).2.2.2.2.1,(f b hb).2.2.2.2.2⟩
theorem Inv.letgo {C:Addr} {s':Shared} {h':Heap} (J:Inv X pins σ H s') (hsz:X.s₀.heap.objs.size≤C) (hL:C≠X.env.locals) (hc:∀ x c,X.env.cells.lookup x=some c→c≠C) (hp:∀ p∈X.pn++pins,p.1≠C) (hH:H C=none)
  (sb:Heap.SameBut C s'.heap h'):Inv X pins σ H { s' with heap:=h' } :=
 J.turned (t':=s'.toks) (it:=C) (fun b o hb e=>sb.extBut b o hb e) hH hL (.inr hsz) hc hp
theorem ER {elt iter tg:Expr} {ifs:List Expr} {scope:Scope} {pos:Pos} {cl:List (Str×Addr)} {N':List Str} {C D it:Addr} {fp:List Addr} {tn:Nat→Heap→Prop} {J:It} {g:TG} {tt:TT} {te:TE} {s₄:Shared} {W:Nat→Nat→St→Hp→Prop} {Q:VK}
  {τ:St} {H₀:Hp} {s₃:Shared} {pn:List (Addr×Obj)} {m0:Nat} {R:Result→Shared→Prop} (hc:X.calm=true) (T:Turn X.prog X.w X.K tg J fp it tn)
  (f:∀ H',(∀ b∈fp,H' b=none)→∀ b∈fp,FpOk (blk X scope cl N' s₃ H₀ C pn fp) [] H' b)
  (hg:PG (blk X scope cl N' s₃ H₀ C pn fp) tg g) (ht:yU (blk X scope cl N' s₃ H₀ C pn fp) ifs tt) (he:PE (blk X scope cl N' s₃ H₀ C pn fp) elt te)
  (I4:Inv (blk X scope cl N' s₃ H₀ C pn fp) [] τ H s₄) (st:tn 0 s₄.heap) (fr:∀ b∈fp,H b=none) (w0:W 0 m0 τ H) (hW:zS D J g tt te Q W)
  (fin:∀ τ' H' s',Inv (blk X scope cl N' s₃ H₀ C pn fp) [] τ' H' s'→Q (.ref D) H'→R (.ok .next) s') :
  codeAny (model X.prog X.w) X.A (.compLoop (.ListComp elt [⟨tg,iter,ifs,0⟩] scope pos) 0 (.ref it) (.ref D) (compEnvC scope cl C X.env)) R s₄:=by
 refine Bc (fun n s'=>∃ i τ' H',Inv (blk X scope cl N' s₃ H₀ C pn fp) [] τ' H' s'∧tn i s'.heap∧(∀ b∈fp,H' b=none)∧W i n τ' H') ?_ m0 ⟨0,τ,H,I4,st,fr,w0⟩
 rintro n s5 ⟨i,τ5,H5,I5,st5,fr5,w5⟩
 rcases hW i n τ5 H5 w5 with ⟨stop,q⟩ | ⟨go,step⟩
 ·refine thn (T.done (blk X scope cl N' s₃ H₀ C pn fp) rfl rfl rfl hc i [] s5 τ5 H5 (fun _ _=>False) I5 (f H5 fr5) st5 stop) fun r s6 ⟨hr,I6⟩=>?_
  subst hr
  exact fin τ5 H5 s6 I6 q
 ·refine thn (T.item (blk X scope cl N' s₃ H₀ C pn fp) rfl rfl rfl hc i [] s5 τ5 H5 (fun _ _=>False) I5 (f H5 fr5) st5 go) fun r s6 ⟨u,hr,h6⟩=>?_
  subst hr
  refine thn h6 fun _ s7 ⟨x,H7,I7,r7,y7,st7,fr7⟩=>?_
  have I7':=I7.pinned (f H7 fr7) (T.obj _ _ st7)
  have keep:∀ {τ8:St} {H8:Hp} {s8:Shared},Inv (blk X scope cl N' s₃ H₀ C pn fp) ([]++wX fp s7.heap) τ8 H8 s8→Inv (blk X scope cl N' s₃ H₀ C pn fp) [] τ8 H8 s8∧tn (i+1) s8.heap∧∀ b∈fp,H8 b=none:=fun {τ8 H8 s8} I8=>by
   refine⟨I8.unpinned,T.keep _ _ _ st7 fun b hb o e=>(I8.pin (b,o) (List.mem_append_right _ (List.mem_append_right _ (vj hb e)))).1,fun b hb=>?_⟩
   obtain⟨o,e,d⟩:=T.obj _ _ st7 b hb
   exact (I8.pin (b,o) (List.mem_append_right _ (List.mem_append_right _ (vj hb e)))).2.1
  refine thn (hg _ s7 τ5 H7 x u _ I7' r7 (step x H7 y7)) fun _ s8 ⟨τ8,H8,I8,q8⟩=>?_
  refine thn (ht _ s8 τ8 H8 _ I8 q8) fun b s9 ⟨H9,I9,q9⟩=>?_
  cases b with
  | false =>
   obtain⟨m',hm,w'⟩:=q9
   obtain⟨k1,k2,k3⟩:=keep I9
   exact⟨m',hm,i+1,τ8,H9,k1,k2,k3,w'⟩
  | true =>
   refine thn (he _ s9 τ8 H9 _ I9 q9) fun y s10 ⟨v,H10,I10,r10,ys,hD,hl,m',hm,w'⟩=>?_
   refine thn (pD _ s10 τ8 H10 (.ref D) [v] (.ref D) [y] (fun _ H11=>W (i+1) m' τ8 H11) I10 rfl (.cons r10 .nil) ⟨D,ys,v,rfl,rfl,hD,hl,w'⟩) fun z s11 ⟨_,H11,I11,_,w11⟩=>?_
   obtain⟨k1,k2,k3⟩:=keep I11
   exact⟨m',hm,i+1,τ8,H11,k1,k2,k3,w11⟩
end
section
variable {X:Cx} {elt iter tg:Expr} {ifs:List Expr} {scope:Scope} {pos:Pos} {cl:List (Str×Addr)} {N':List Str} {ix:List Nat} {nl:Nat} {wi:TI} {g:TG} {tt:TT} {te:TE}
structure Left (X:Cx) (pins:List (Addr×Obj)) (σ:St) (C:Addr) (H:Hp) (s:Shared):Prop where
 inv:Inv X pins σ H s
 ns:∃ m,s.heap.Ns C m
 sz:X.s₀.heap.objs.size≤C
 loc:C≠X.env.locals
 cel:∀ x c,X.env.cells.lookup x=some c→c≠C
 pin:∀ p∈X.pn++pins,p.1≠C
 non:H C=none
theorem AC {pins:List (Addr×Obj)} {σ:St} {H1:Hp} {s2:Shared} {Q:VK} {it:Addr} {fp:List Addr} {tn:Nat→Heap→Prop} {J:It} {RR:Value→Addr→Result→Shared→Prop} {E:Value→Shared→Prop}
  (hc:X.calm=true) (O:CompOk X scope cl N' ix nl) (hg:∀ s₀ H₀ C pn ex,PG (blk X scope cl N' s₀ H₀ C pn ex) tg g) (ht:∀ s₀ H₀ C pn ex,yU (blk X scope cl N' s₀ H₀ C pn ex) ifs tt)
  (he:∀ s₀ H₀ C pn ex,PE (blk X scope cl N' s₀ H₀ C pn ex) elt te) (I1:Inv X pins σ H1 s2) (T:Turn X.prog X.w X.K tg J fp it tn) (st:tn 0 s2.heap) (f1:∀ b∈fp,FpOk X pins H1 b)
  (q:∀ D,H1 D=none→∃ W:Nat→Nat→St→Hp→Prop,(∃ m,W 0 m (slots ix σ++List.replicate nl none) (upd H1 D (.lst [])))∧zS D J g tt te Q W)
  (fin:∀ D C H' s',Left X pins σ C H' s'→Q (.ref D) H'→RR (.ref D) C (.ok .next) s') :
  wpAny (model X.prog X.w) X.A (newList []) (fun acc s₃=>wpAny (model X.prog X.w) X.A (newFunctionEnv scope X.env.globals cl [] X.env.qual none .none (some X.env)) (fun cenv s₄ =>
   codeAny (model X.prog X.w) X.A (.compStart (.ListComp elt [⟨tg,iter,ifs,0⟩] scope pos) 0 (.ref it) acc { cenv with scope:=relabel scope X.env }) (RR acc cenv.locals) s₄) E s₃) E s2:=by
 refine wpAny_newObj_type (wpAny_newFunctionEnv O.cell (by intro y hy; simp at hy) (fun h₁ hns₁ hsb₁=>?_) O.kind)
 have hf:H1 s2.heap.objs.size=none:=I1.hok.fresh (Nat.le_refl _)
 obtain⟨W,⟨m0,w0⟩,hW⟩:=q s2.heap.objs.size hf
 have lt:∀ b∈fp,b<s2.heap.objs.size:=fun b hb=>by
  obtain⟨o,e,_⟩:=T.obj _ _ st b hb
  exact Heap.lt_size e
 have I3:Inv X pins σ (upd H1 s2.heap.objs.size (.lst [])) { s2 with heap:=s2.heap.push { cls:=.type "list",data:=.seq ([]:List Value).toArray } } :=
  I1.laid (t':=s2.toks) (fun b u e=>Heap.get?_push_of_some _ e) (Nat.le_refl _) ⟨Nat.zero_le _,[],0,.nil,Heap.get?_push_size _ rfl⟩
 have f3:∀ b∈fp,FpOk X pins (upd H1 s2.heap.objs.size (.lst [])) b:=fun b hb=>⟨by rw[fj (Nat.ne_of_lt (lt b hb))]; exact (f1 b hb).1,(f1 b hb).2⟩
 have sz:(s2.heap.push { cls:=.type "list",data:=.seq ([]:List Value).toArray }).objs.size=s2.heap.objs.size+1:=Heap.size_push ..
 have lt3:∀ b∈fp,b<(s2.heap.push { cls:=.type "list",data:=.seq ([]:List Value).toArray }).objs.size:=fun b hb=>by rw[sz]; exact Nat.lt_succ_of_lt (lt b hb)
 have k3:∀ b o,(s2.heap.push { cls:=.type "list",data:=.seq ([]:List Value).toArray }).get? b=some o→h₁.get? b=some o:=fun b o e=>hsb₁.extBut b o (Nat.ne_of_lt (Heap.lt_size e)) (Heap.get?_push_of_some _ e)
 have I4:=Gp (t':=s2.toks+([]:List (Str×Value)).length) O I3 (Nat.le_refl _) f3 lt3 hns₁ k3
 have st4:tn 0 h₁:=T.keep _ _ _ st fun b hb o e=>k3 b o (Heap.get?_push_of_some _ e)
 have fB:∀ H',(∀ b∈fp,H' b=none)→∀ b∈fp,FpOk (blk X scope cl N' { s2 with heap:=s2.heap.push { cls:=.type "list",data:=.seq ([]:List Value).toArray } } (upd H1 s2.heap.objs.size (.lst [])) (s2.heap.push { cls:=.type "list",data:=.seq ([]:List Value).toArray }).objs.size (X.pn++pins) fp) [] H' b:=fun H' hn b hb=>by
  refine⟨hn b hb,Nat.ne_of_lt (lt3 b hb),?_,.inl hb,fun x c h=>(f1 b hb).2.2.2.2.1 x c (O.sub x c h),fun p hp=>?_⟩
  ·intro z
   rcases List.mem_cons.mp (I3.stkSub b z) with e | e
   ·exact (f1 b hb).2.1 e
   ·exact (f1 b hb).2.2.1 e
  ·have hp':p∈X.pn++pins:=by
    have z:p∈(X.pn++pins)++[]:=hp
    rwa [List.append_nil] at z
   exact (f1 b hb).2.2.2.2.2 p hp'
 have loop:=ER (pos:=pos) (iter:=iter) (R:=RR (.ref s2.heap.objs.size) (s2.heap.push { cls:=.type "list",data:=.seq ([]:List Value).toArray }).objs.size) hc T fB (hg _ _ _ _ _) (ht _ _ _ _ _) (he _ _ _ _ _) I4 st4 (fun b hb=>(f3 b hb).1) w0 hW (fun τ' H' s' J' qf=>by
  obtain⟨m,hm,_⟩:=J'.loc
  refine fin _ _ H' s' ⟨Em I3 f3 J',⟨m,hm⟩,I3.sz,Nat.ne_of_gt I3.lt,fun x c e z=>?_,fun p hp z=>?_,J'.free⟩ qf
  ·obtain⟨v,o,ho,_⟩:=I3.cell x c e
   exact absurd (Heap.lt_size ho) (by rw[z]; exact Nat.lt_irrefl _)
  ·exact absurd (Heap.lt_size (I3.pin p hp).1) (by rw[z]; exact Nat.lt_irrefl _))
 exact codeAny_compStart_list loop (T.self _ 0 _ _ _ st4 loop)
theorem lB (hc:X.calm=true) (O:CompOk X scope cl N' ix nl) (hi:PI X tg iter wi) (hg:∀ s₀ H₀ C pn ex,PG (blk X scope cl N' s₀ H₀ C pn ex) tg g) (ht:∀ s₀ H₀ C pn ex,yU (blk X scope cl N' s₀ H₀ C pn ex) ifs tt)
  (he:∀ s₀ H₀ C pn ex,PE (blk X scope cl N' s₀ H₀ C pn ex) elt te) (hs:∀ x,foldedSetIterable iter X.env x=pure x:=by intro _; rfl) :
  PE X (.ListComp elt [⟨tg,iter,ifs,0⟩] scope pos) (CF ix nl wi g tt te):=by
 intro pins s σ H Q I h
 rw[eval_ListComp]
 refine wpAny_comprehension_free (use:=none) rfl hs O.clos O.kind O.names (thn (hi pins s σ H _ I h) fun xv s1 h1=>thn h1 fun itv s2 h2=>?_)
 obtain⟨it,fp,tn,J,H1,rfl,I1,T,st,f1,q⟩:=h2
 refine AC (RR:=fun acc C=>compPost (model X.prog X.w) X.A X.xe none (EP X pins σ Q) acc C) hc O hg ht he I1 T st f1 q (fun D C H' s' L qf=>?_)
 obtain⟨m,hm⟩:=L.ns
 exact⟨m,hm,fun h' sb=>⟨.ref D,H',L.inv.letgo L.sz L.loc L.cel L.pin L.non sb,rfl,qf⟩⟩
theorem uu {i:Nat} {y:Str} {py spos:Pos} (hN:X.N.Nodup) (hiy:X.N[i]?=some y) (hy:Loc X.env.scope y) (hc:X.calm=true) (O:CompOk X scope cl N' ix nl) (hi:PI X tg iter wi) (hg:∀ s₀ H₀ C pn ex,PG (blk X scope cl N' s₀ H₀ C pn ex) tg g)
  (ht:∀ s₀ H₀ C pn ex,yU (blk X scope cl N' s₀ H₀ C pn ex) ifs tt) (he:∀ s₀ H₀ C pn ex,PE (blk X scope cl N' s₀ H₀ C pn ex) elt te)
  (hsw:swapsWith (.ListComp elt [⟨tg,iter,ifs,0⟩] scope pos) (some (.Name y py)) spos.line X.env=pure true) (hs:∀ x,foldedSetIterable iter X.env x=pure x:=by intro _; rfl)
  (hf:X.fn y=true∨X.env.scope.names.lookup y=some .local:=by first | exact .inl rfl | exact .inr rfl | assumption) :
  PS X (.Assign [.Name y py] (.ListComp elt [⟨tg,iter,ifs,0⟩] scope pos) spos) (Cs (CF ix nl wi g tt te) (we i)):=by
 intro pins s σ H D0 I h
 rw[exec_Assign_Name_used _ _ _ _ hsw]
 refine wpAny_bind (wpAny_standAt (wpAny_bind ?_))
 show wpAny _ X.A (do let _ ← comprehension (.ListComp elt [⟨tg,iter,ifs,0⟩] scope pos) scope X.env _ (newList []) false (eval iter X.env) (some (assign (.Name y py) X.env))) _ _ s
 refine wpAny_bind (wpAny_mono (wpAny_comprehension_free (use:=some (assign (.Name y py) X.env)) (Q:=fun _ s'=>SP X pins D0 .next s') rfl hs O.clos O.kind O.names (thn (hi pins s σ H _ I h) fun xv s1 h1=>thn h1 fun itv s2 h2=>?_)) (fun _ s' hq=>wpAny_pure (wpAny_pure hq)) fun _ _ e=>e)
 obtain⟨it,fp,tn,J,H1,rfl,I1,T,st,f1,q⟩:=h2
 refine AC (RR:=fun acc C=>compPost (model X.prog X.w) X.A X.xe (some (assign (.Name y py) X.env)) (fun _ s'=>SP X pins D0 .next s') acc C) hc O hg ht he I1 T st f1 q (fun D C H' s' L qf=>?_)
 obtain⟨m,hm⟩:=L.ns
 show wpAny _ X.A (assign (.Name y py) X.env (.ref D)) _ _ _
 refine wpAny_assign_Name (zu L.inv hN hiy hy (v:=.ref D) rfl (fun s'' I'' z=>?_) hf)
 obtain⟨a,sb2,ha⟩:=z
 have ne:C≠a:=by
  rcases ha with e | e
  ·rw[e]; exact L.loc
  ·exact fun z=>L.cel _ a e z.symm
 refine⟨m,hm.at' fun o e=>sb2.extBut C o ne e,fun h' sb=>⟨_,H',I''.letgo L.sz L.loc L.cel L.pin L.non sb,qf⟩⟩
end
theorem uM (ns ms:List Int):(((List.range (min ns.length ms.length)).all fun j=>ns.getD j 0 == ms.getD j 0) && ns.length == ms.length)=decide (ns=ms):=by
 by_cases h:ns=ms
 ·subst h
  simp
 ·rw[decide_eq_false h]
  by_cases hl:ns.length=ms.length
  ·have:∃ j,j<ns.length∧ns.getD j 0≠ms.getD j 0:=by
    apply Classical.byContradiction
    intro no
    apply h
    apply List.ext_getElem hl
    intro i h1 h2
    apply Classical.byContradiction
    intro ne
    apply no
    refine⟨i,h1,?_⟩
    simpa [List.getD,h1,h2] using ne
   obtain⟨j,hj,ne⟩:=this
   have:((List.range (min ns.length ms.length)).all fun j=>ns.getD j 0 == ms.getD j 0)=false:=by
    rw[List.all_eq_false]
    refine⟨j,by simp; omega,by simpa using ne⟩
   rw[this]
   rfl
  ·have:(ns.length == ms.length)=false:=by simpa using hl
   rw[this,Bool.and_false]
def okV:V→Bool
 | .ref _=>true
 | x=>uT x
theorem wz {x:V} (h:uT x=true):eqV x x=true:=by
 cases x with
 | non=>rfl
 | bl b=>simp [eqV]
 | int i=>simp [eqV]
 | str z=>simp [eqV]
 | byt b=>exact absurd (show false=true from h) Bool.false_ne_true
 | flt b=>exact absurd (show false=true from h) Bool.false_ne_true
 | ref a=>exact absurd (show false=true from h) Bool.false_ne_true
 | ty n=>exact absurd (show false=true from h) Bool.false_ne_true
theorem C9 {A:Around} {s:Shared} {x:V} {u v:Value} (ru:RelV x u) (rv:RelV x v) (h:okV x=true):SeqAt.EqAt A s u v true:=by
 cases x with
 | ref a =>
  obtain rfl:u=Value.ref a:=ru
  obtain rfl:v=Value.ref a:=rv
  exact SeqAt.EqAt.same _
 | non=>have:=vP (A:=A) (s:=s) ru rv rfl rfl; rwa [wz rfl] at this
 | bl b=>have:=vP (A:=A) (s:=s) ru rv rfl rfl; rwa [wz rfl] at this
 | int i=>have:=vP (A:=A) (s:=s) ru rv rfl rfl; rwa [wz rfl] at this
 | str z=>have:=vP (A:=A) (s:=s) ru rv rfl rfl; rwa [wz rfl] at this
 | byt b=>exact absurd (show false=true from h) Bool.false_ne_true
 | flt b=>exact absurd (show false=true from h) Bool.false_ne_true
 | ty n=>exact absurd (show false=true from h) Bool.false_ne_true
def FN (K:PySem.W.Frag) (H:Hp) (a b:Addr) (xs ys:List V):Prop:=(SqL K H a xs∧SqL K H b ys)∨(SqT K H a xs∧SqT K H b ys)
def E1 (K:PySem.W.Frag) (neg:Bool):R2:=fun x y H Q=>∃ a b,x=.ref a∧y=.ref b ∧
 ((∃ xs,FN K H a b xs xs∧xs.all okV=true∧Q (.bl (!neg)) H)∨(∃ ns ms:List Int,FN K H a b (ns.map V.int) (ms.map V.int)∧Q (.bl (if neg then !decide (ns=ms) else decide (ns=ms))) H))
theorem vm {xs:List V} {its:List Value} (r:Vals xs its) {j:Nat} (h:j<its.length):∃ x,xs[j]?=some x∧RelV x its[j]:=by
 have hl:=r.length
 have hj:j<xs.length:=by omega
 obtain⟨u,e,rv⟩:=r.get (i:=j) (x:=xs[j]) (by simp [hj])
 have e2:its[j]?=some its[j]:=by simp [h]
 rw[e2] at e
 cases e
 exact⟨xs[j],by simp [hj],rv⟩
theorem wk {A:Around} {s:Shared} {xs:List V} {i1 i2:List Value} (r1:Vals xs i1) (r2:Vals xs i2) (h:xs.all okV=true):∀ j (h1:j<i1.toArray.size) (h2:j<i2.toArray.size),SeqAt.EqAt A s i1.toArray[j] i2.toArray[j] true:=by
 intro j h1 h2
 rw[List.size_toArray] at h1 h2
 obtain⟨x,e1,v1⟩:=vm r1 h1
 obtain⟨y,e2,v2⟩:=vm r2 h2
 rw[e1] at e2
 cases e2
 have ok:=List.all_eq_true.mp h x (List.mem_of_getElem? e1)
 simpa using C9 (A:=A) (s:=s) v1 v2 ok
theorem vH {A:Around} {s:Shared} {ns ms:List Int} {i1 i2:List Value} (r1:Vals (ns.map V.int) i1) (r2:Vals (ms.map V.int) i2):∀ j (h1:j<i1.toArray.size) (h2:j<i2.toArray.size),SeqAt.EqAt A s i1.toArray[j] i2.toArray[j] (ns.getD j 0 == ms.getD j 0):=by
 intro j h1 h2
 rw[List.size_toArray] at h1 h2
 obtain⟨x,e1,v1⟩:=vm r1 h1
 obtain⟨y,e2,v2⟩:=vm r2 h2
 have l1:j<ns.length:=by have:=r1.length; rw[List.length_map] at this; omega
 have l2:j<ms.length:=by have:=r2.length; rw[List.length_map] at this; omega
 rw[List.getElem?_map,List.getElem?_eq_getElem l1] at e1
 rw[List.getElem?_map,List.getElem?_eq_getElem l2] at e2
 cases e1
 cases e2
 have:=vP (A:=A) (s:=s) v1 v2 rfl rfl
 simpa [List.getD,l1,l2,eqV] using this
section
variable {X:Cx}
theorem Hy (hu:X.A.units<cLine):OpR X (compareOp .Eq) (E1 X.K false):=by
 intro pins s σ H x y v u Q I rx ry h
 obtain⟨a,b,rfl,rfl,h⟩:=h
 obtain rfl:v=Value.ref a:=rx
 obtain rfl:u=Value.ref b:=ry
 rcases h with ⟨xs,tw,ok,q⟩ | ⟨ns,ms,tw,q⟩
 ·have fin:EP X pins σ Q (.bool true) s:=⟨.bl true,H,I,rfl,q⟩
  rcases tw with ⟨h1,h2⟩ | ⟨h1,h2⟩
  ·obtain⟨i1,r1,p1,_⟩:=I.list h1
   obtain⟨i2,r2,p2,_⟩:=I.list h2
   have e:((List.range i1.toArray.size).all fun _=>true)=true:=by simp
   exact SeqAt.eq_listAt (e:=fun _=>true) p1.isList p2.isList (by rw[List.size_toArray,List.size_toArray,← r1.length,← r2.length]) hu (wk r1 r2 ok) (by rw[e]; exact fin)
  ·obtain⟨i1,r1,p1,_⟩:=I.tuple h1
   obtain⟨i2,r2,p2,_⟩:=I.tuple h2
   have e:(((List.range (min i1.toArray.size i2.toArray.size)).all fun _=>true) && i1.toArray.size == i2.toArray.size)=true:=by
    rw[List.size_toArray,List.size_toArray,← r1.length,← r2.length]
    simp
   exact SeqAt.eq_tupleAt (e:=fun _=>true) p1 p2 hu (wk r1 r2 ok) (by rw[e]; exact fin)
 ·have fin:EP X pins σ Q (.bool (decide (ns=ms))) s:=⟨.bl _,H,I,rfl,q⟩
  rcases tw with ⟨h1,h2⟩ | ⟨h1,h2⟩
  ·obtain⟨i1,r1,p1,_⟩:=I.list h1
   obtain⟨i2,r2,p2,_⟩:=I.list h2
   have n1:i1.toArray.size=ns.length:=by rw[List.size_toArray,← r1.length,List.length_map]
   have n2:i2.toArray.size=ms.length:=by rw[List.size_toArray,← r2.length,List.length_map]
   have key:=uM ns ms
   by_cases hl:ns.length=ms.length
   ·refine SeqAt.eq_listAt (e:=fun j=>ns.getD j 0 == ms.getD j 0) p1.isList p2.isList (by rw[n1,n2,hl]) hu (vH r1 r2) ?_
    rw[n1]
    rw[hl,Nat.min_self,beq_self_eq_true,Bool.and_true] at key
    rw[hl,key]
    exact fin
   ·refine SeqAt.eq_list_lengthsAt p1.isList p2.isList (by rw[n1,n2]; simpa using hl) hu ?_
    rw[decide_eq_false (fun e=>hl (by rw[e]))] at fin
    exact fin
  ·obtain⟨i1,r1,p1,_⟩:=I.tuple h1
   obtain⟨i2,r2,p2,_⟩:=I.tuple h2
   have n1:i1.toArray.size=ns.length:=by rw[List.size_toArray,← r1.length,List.length_map]
   have n2:i2.toArray.size=ms.length:=by rw[List.size_toArray,← r2.length,List.length_map]
   refine SeqAt.eq_tupleAt (e:=fun j=>ns.getD j 0 == ms.getD j 0) p1 p2 hu (vH r1 r2) ?_
   rw[n1,n2,uM]
   exact fin
theorem Ed (hu:X.A.units<cLine):OpR X (compareOp .NotEq) (E1 X.K true):=by
 intro pins s σ H x y v u Q I rx ry h
 obtain⟨a,b,rfl,rfl,h⟩:=h
 obtain rfl:v=Value.ref a:=rx
 obtain rfl:u=Value.ref b:=ry
 rcases h with ⟨xs,tw,ok,q⟩ | ⟨ns,ms,tw,q⟩
 ·have fin:EP X pins σ Q (.bool false) s:=⟨.bl false,H,I,rfl,q⟩
  rcases tw with ⟨h1,h2⟩ | ⟨h1,h2⟩
  ·obtain⟨i1,r1,p1,_⟩:=I.list h1
   obtain⟨i2,r2,p2,_⟩:=I.list h2
   have e:(!(List.range i1.toArray.size).all fun _=>true)=false:=by simp
   exact SeqAt.RcNeAt.lists (e:=fun _=>true) p1.isList p2.isList (by rw[List.size_toArray,List.size_toArray,← r1.length,← r2.length]) hu (wk r1 r2 ok) _ _ _ _ (by rw[e]; exact fin)
  ·obtain⟨i1,r1,p1,_⟩:=I.tuple h1
   obtain⟨i2,r2,p2,_⟩:=I.tuple h2
   have e:(!(((List.range (min i1.toArray.size i2.toArray.size)).all fun _=>true) && i1.toArray.size == i2.toArray.size))=false:=by
    rw[List.size_toArray,List.size_toArray,← r1.length,← r2.length]
    simp
   exact SeqAt.RcNeAt.tuples (e:=fun _=>true) p1 p2 hu (wk r1 r2 ok) _ _ _ _ (by rw[e]; exact fin)
 ·have fin:EP X pins σ Q (.bool (!decide (ns=ms))) s:=⟨.bl _,H,I,rfl,q⟩
  rcases tw with ⟨h1,h2⟩ | ⟨h1,h2⟩
  ·obtain⟨i1,r1,p1,_⟩:=I.list h1
   obtain⟨i2,r2,p2,_⟩:=I.list h2
   have n1:i1.toArray.size=ns.length:=by rw[List.size_toArray,← r1.length,List.length_map]
   have n2:i2.toArray.size=ms.length:=by rw[List.size_toArray,← r2.length,List.length_map]
   have key:=uM ns ms
   by_cases hl:ns.length=ms.length
   ·refine SeqAt.RcNeAt.lists (e:=fun j=>ns.getD j 0 == ms.getD j 0) p1.isList p2.isList (by rw[n1,n2,hl]) hu (vH r1 r2) _ _ _ _ ?_
    rw[n1]
    rw[hl,Nat.min_self,beq_self_eq_true,Bool.and_true] at key
    rw[hl,key]
    exact fin
   ·refine SeqAt.RcNeAt.lists_lengths p1.isList p2.isList (by rw[n1,n2]; simpa using hl) hu _ _ _ _ ?_
    rw[decide_eq_false (fun e=>hl (by rw[e]))] at fin
    exact fin
  ·obtain⟨i1,r1,p1,_⟩:=I.tuple h1
   obtain⟨i2,r2,p2,_⟩:=I.tuple h2
   have n1:i1.toArray.size=ns.length:=by rw[List.size_toArray,← r1.length,List.length_map]
   have n2:i2.toArray.size=ms.length:=by rw[List.size_toArray,← r2.length,List.length_map]
   refine SeqAt.RcNeAt.tuples (e:=fun j=>ns.getD j 0 == ms.getD j 0) p1 p2 hu (vH r1 r2) _ _ _ _ ?_
   rw[n1,n2,uM]
   exact fin
end
def uo (D:Addr) (g:TG) (tt:TT) (te:TE) (x:V) (τ:St) (H:Hp) (R:St→Hp→Prop):Prop:=g x τ H fun τ' H'=>tt τ' H' fun b H4 =>
 if b=true then te τ' H4 fun v H5=>∃ ys,H5 D=some (.lst ys)∧ys.length<sizeLine∧R τ' (upd H5 D (.lst (ys++[v]))) else R τ' H4
def u5 (D:Addr) (J:It) (g:TG) (tt:TT) (te:TE) (Q:VK) (τ:St) (H:Hp):Prop:=∃ W:Nat→Nat→St→Hp→Prop,(∃ m,W 0 m τ H)∧zS D J g tt te Q W
theorem Er {ix:List Nat} {nl:Nat} {wi:TI} {g:TG} {tt:TT} {te:TE} {σ:St} {H:Hp} {Q:VK} :
  CF ix nl wi g tt te σ H Q=wi σ H fun J H1=>∀ D,H1 D=none→u5 D J g tt te Q (slots ix σ++List.replicate nl none) (upd H1 D (.lst [])):=rfl
section
variable {K:PySem.W.Frag} {D a:Addr} {g:TG} {tt:TT} {te:TE} {Q:VK} {τ:St} {H:Hp}
theorem uC {lo:Int} {n:Nat} (Pv:Nat→St→Hp→Prop) (h0:Pv 0 τ H)
  (hs:∀ i τ H (R:St→Hp→Prop),i<n→Pv i τ H→(∀ τ' H',Pv (i+1) τ' H'→R τ' H')→uo D g tt te (.int (lo+i)) τ H R) (hd:∀ τ H,Pv n τ H→Q (.ref D) H):u5 D (Itr lo n) g tt te Q τ H:=by
 refine⟨fun i m τ H=>m=n-i∧i≤n∧Pv i τ H,⟨n,by simp,Nat.zero_le _,h0⟩,?_⟩
 rintro i m τ H2 ⟨rfl,hi,p⟩
 by_cases hlt:i<n
 ·refine .inr ⟨hlt,fun x H' y=>?_⟩
  obtain⟨e,y⟩:=y
  subst e y
  exact hs i τ _ (fun τ' H'=>∃ m',m'<n-i∧m'=n-(i+1)∧i+1≤n∧Pv (i+1) τ' H') hlt p fun τ' H' p'=>⟨_,by omega,rfl,hlt,p'⟩
 ·have e:i=n:=by omega
  subst e
  exact .inl ⟨Nat.le_refl _,hd τ H2 p⟩
theorem mJ (xs:List V) (Pv:Nat→St→Hp→Prop) (h0:Pv 0 τ H) (hl:∀ i τ H,i≤xs.length→Pv i τ H→SqL K H a xs)
  (hs:∀ i x τ H (R:St→Hp→Prop),xs[i]?=some x→Pv i τ H→(∀ τ' H',Pv (i+1) τ' H'→R τ' H')→uo D g tt te x τ H R) (hd:∀ τ H,Pv xs.length τ H→Q (.ref D) H):u5 D (Itl K a) g tt te Q τ H:=by
 refine⟨fun i m τ H=>m=xs.length-i∧i≤xs.length∧Pv i τ H,⟨xs.length,by simp,Nat.zero_le _,h0⟩,?_⟩
 rintro i m τ H2 ⟨rfl,hi,p⟩
 have q:=hl i τ H2 hi p
 by_cases hlt:i<xs.length
 ·have hx:xs[i]?=some xs[i]:=by simp [hlt]
  refine .inr ⟨⟨xs,_,q,hx⟩,fun x H' y=>?_⟩
  obtain⟨e,y⟩:=y
  subst e
  have e2:=y xs q
  rw[hx] at e2
  cases e2
  exact hs i _ τ _ (fun τ' H'=>∃ m',m'<xs.length-i∧m'=xs.length-(i+1)∧i+1≤xs.length∧Pv (i+1) τ' H') hx p fun τ' H' p'=>⟨_,by omega,rfl,hlt,p'⟩
 ·have e:i=xs.length:=by omega
  subst e
  exact .inl ⟨⟨xs,q,Nat.le_refl _⟩,hd τ H2 p⟩
theorem Do (xs:List V) (Pv:Nat→St→Hp→Prop) (h0:Pv 0 τ H) (hl:∀ i τ H,i≤xs.length→Pv i τ H→SqT K H a xs)
  (hs:∀ i x τ H (R:St→Hp→Prop),xs[i]?=some x→Pv i τ H→(∀ τ' H',Pv (i+1) τ' H'→R τ' H')→uo D g tt te x τ H R) (hd:∀ τ H,Pv xs.length τ H→Q (.ref D) H):u5 D (Itt K a) g tt te Q τ H:=by
 refine⟨fun i m τ H=>m=xs.length-i∧i≤xs.length∧Pv i τ H,⟨xs.length,by simp,Nat.zero_le _,h0⟩,?_⟩
 rintro i m τ H2 ⟨rfl,hi,p⟩
 have q:=hl i τ H2 hi p
 by_cases hlt:i<xs.length
 ·have hx:xs[i]?=some xs[i]:=by simp [hlt]
  refine .inr ⟨⟨xs,_,q,hx⟩,fun x H' y=>?_⟩
  obtain⟨e,y⟩:=y
  subst e
  have e2:=y xs q
  rw[hx] at e2
  cases e2
  exact hs i _ τ _ (fun τ' H'=>∃ m',m'<xs.length-i∧m'=xs.length-(i+1)∧i+1≤xs.length∧Pv (i+1) τ' H') hx p fun τ' H' p'=>⟨_,by omega,rfl,hlt,p'⟩
 ·have e:i=xs.length:=by omega
  subst e
  exact .inl ⟨⟨xs,q,Nat.le_refl _⟩,hd τ H2 p⟩
theorem SqT.lst {H:Hp} {p b:Addr} {xs ys zs:List V} (h:SqT K H b xs) (hp:H p=some (.lst ys)):SqT K (upd H p (.lst zs)) b xs:=by
 rcases h with (h | ⟨o,h⟩) | h
 ·exact .inl (.inl (by rw[fj (Cg h hp (by intro z; cases z))]; exact h))
 ·exact .inl (.inr ⟨o,by rw[fj (Cg h hp (by intro z; cases z))]; exact h⟩)
 ·exact .inr h
end
section
variable {X:Cx} {K:PySem.W.Frag}
theorem vZ (h:X.K=K):IxR X (EB K):=by subst h; exact gK
theorem xq (h:X.K=K):IxR X (EC K):=by subst h; exact jl
theorem zG (h:X.K=K):qo X (.builtin "len") (fun xs H Q=>∃ p ys,xs=[.ref p]∧(SqL K H p ys∨SqT K H p ys)∧Q (.int ys.length) H):=by subst h; exact gJ
end
section
variable {prog:Program} {w:World} {A:Around} {E:Value→Shared→Prop} {s:Shared}
theorem yo {it l:Addr} {i:Nat} {items:Array Value} {x:Value} {Q:Value→Shared→Prop} (hit:s.heap.IsTupleIter it l i)
  (hl:s.heap.IsTuple l items) (hx:items[i]?=some x) (hQ:∀ h',h'.IsTupleIter it l (i+1)→Heap.SameBut it s.heap h'→Q x { s with heap:=h' }) :
  wpAny (model prog w) A (Builtin.SmallTypes.nextOf (.ref it)) Q E s:=by
 obtain⟨o,ho,hc,hd⟩:=id hit
 obtain⟨ol,hol,_,nl,hdl⟩:=hl
 unfold Builtin.SmallTypes.nextOf
 refine wpAny_bind (wpAny_callSpecial?_slot (name:=Str.ofString "__next__") hit.typeIs F.slot_tuple_iterator_next
  (wpAny_call_entry F.slot_tuple_iterator_next hit.typeIs F.entry_tuple_iterator_next ?_ (F.args_tuple_iterator_next_1 _)))
 show wpAny _ _ (field (.ref it) 0 >>= _) _ _ s
 refine wpAny_bind (wpAny_field ho hd (x:=.ref l) rfl ?_)
 show wpAny _ _ (if (Value.ref l == Value.none)=true then _ else _) _ _ s
 rw[if_neg (show ¬ ((Value.ref l == Value.none)=true) from Bool.false_ne_true)]
 show wpAny _ _ (field (.ref it) 1 >>= _) _ _ s
 refine wpAny_bind (wpAny_field ho hd (x:=.int i 0) rfl ?_)
 show wpAny _ _ (seqItems? (.ref l) >>= _) _ _ s
 refine wpAny_bind (wpAny_seqItems hol hdl ?_)
 simp only [Int.toNat_natCast,hx]
 refine wpAny_bind (wpAny_setField ho hd (by simp) (wpAny_pure ⟨x,rfl,wpAny_pure (hQ _ ?_ (Heap.SameBut.update ..))⟩))
 exact⟨_,Heap.get?_update_self _ ho (Obj.isFreed_of_fields (Obj.data_mapFields hd _)),(Obj.cls_mapFields ..).trans hc,by
  rw[Obj.data_mapFields hd]; simp [rawInt]⟩
theorem vN {it l:Addr} {i:Nat} {items:Array Value} {Q:Value→Shared→Prop} (hh:A.handled=none) (hit:s.heap.IsTupleIter it l i) (hl:s.heap.IsTuple l items) (hx:items[i]?=none)
  (hE:∀ h' e,Heap.ExtBut it s.heap h'→(∃ o,h'.get? e=some o∧o.cls=.type "StopIteration")→E (.ref e) { s with heap:=h' }) :
  wpAny (model prog w) A (Builtin.SmallTypes.nextOf (.ref it)) Q E s:=by
 obtain⟨o,ho,hc,hd⟩:=id hit
 obtain⟨ol,hol,_,nl,hdl⟩:=hl
 unfold Builtin.SmallTypes.nextOf
 refine wpAny_bind (wpAny_callSpecial?_slot (name:=Str.ofString "__next__") hit.typeIs F.slot_tuple_iterator_next
  (wpAny_call_entry F.slot_tuple_iterator_next hit.typeIs F.entry_tuple_iterator_next ?_ (F.args_tuple_iterator_next_1 _)))
 show wpAny _ _ (field (.ref it) 0 >>= _) _ _ s
 refine wpAny_bind (wpAny_field ho hd (x:=.ref l) rfl ?_)
 show wpAny _ _ (if (Value.ref l == Value.none)=true then _ else _) _ _ s
 rw[if_neg (show ¬ ((Value.ref l == Value.none)=true) from Bool.false_ne_true)]
 show wpAny _ _ (field (.ref it) 1 >>= _) _ _ s
 refine wpAny_bind (wpAny_field ho hd (x:=.int i 0) rfl ?_)
 show wpAny _ _ (seqItems? (.ref l) >>= _) _ _ s
 refine wpAny_bind (wpAny_seqItems hol hdl ?_)
 simp only [Int.toNat_natCast,hx]
 refine wpAny_bind (wpAny_rule (wpAny_bind (wpAny_setField ho hd (by simp) ?_)))
 show wpAny _ _ (newExc (.type "StopIteration") [] >>= _) _ _ _
 refine wpAny_bind ?_
 simp only [newExc,newTuple]
 refine wpAny_bind (wpAny_newObj_type ?_ (by size_fits))
 refine wpAny_bind (m:=firstArgMember _ _) (wpAny_of_eq (a:=Value.none) (by first | rfl | (simp only [firstArgMember]; rfl)) ?_)
 refine wpAny_newObj_type ?_ (by size_fits)
 simp only [raiseNew]
 refine wpAny_bind (wpAny_handled ?_)
 first | rw[show A.in1.handled=none from hh] | rw[hh]
 refine wpAny_bind (wpAny_pure (wpAny_throw ?_))
 exact hE _ _ (((Heap.SameBut.update ..).extBut.push _).push _) ⟨_,Heap.get?_push_size _ rfl,rfl⟩
end
theorem Draws.tuple {prog:Program} {w:World} {A:Around} (hh:A.handled=none) (it l:Addr) (hne:l≠it) (items:Array Value) :
  Draws prog w A it [it,l] items.size (fun i v=>items[i]?=some v) (fun i h=>h.IsTupleIter it l i∧h.IsTuple l items) where
 live:=fun _ _ st=>let ⟨o,ho,_⟩:=st.1; ⟨o,ho⟩
 frame:=fun _ _ _ st hk=>⟨st.1.at fun o e=>hk it (by simp) o e,st.2.at fun o e=>hk l (by simp) o e⟩
 item:=fun i s Q E hi st hQ=>by
  refine yo st.1 st.2 (x:=items[i]) (by simp [hi]) fun h' hit' hs'=>?_
  exact hQ _ h' s.toks (by simp [hi]) ⟨hit',st.2.extBut hs'.extBut hne⟩ hs'
 done:=fun s Q E st hE=>vN hh st.1 st.2 (by simp) hE
open AutoSeq1 (wpAny_loadPart') in
theorem vY (l:Addr) (items:Array Value) (n:Nat) (dct:Option Addr) (sl:Array (Option Value)) :
  Meets (Builtin.«enumerate.__new__» ⟨[.type "enumerate",.ref l],[]⟩) (fun _ R s=>s.heap.get? l=some { cls:=.type "tuple",dict:=dct,data:=.seq items n,slots:=sl } ∧
   R (.ok (.ret (.ref (s.heap.push { cls:=.type "tuple_iterator",data:=.fields #[.ref l,.int 0 0] }).objs.size)))
    { s with heap:=(s.heap.push { cls:=.type "tuple_iterator",data:=.fields #[.ref l,.int 0 0] }).push { cls:=.type "enumerate",data:=.fields #[.none,.bool false,.ref s.heap.objs.size,rawInt 0,.none,.none] } }) :=
 .of_wp fun prog w A R s h=>by
  obtain⟨hp,g,d,tk,os⟩:=s; obtain⟨hl,h⟩:=h
  have hsub:=sub_enumerate
  have hL:Heap.IsTuple (Shared.heap ⟨hp,g,d,tk,os⟩) l items:=⟨_,hl,rfl,n,rfl⟩
  wp_walk using wpAny_loadPart' hl
  refine wpAny_stack_any fun st=>wpAny_pure ?_
  split
  ·rename_i c _ _ _ _ _
   cases (c == Value.type "enumerate")
   ·wp_walk using wpAny_loadPart' hl,wpAny_pyIter_tuple hL
    exact⟨_,rfl,h⟩
   ·wp_walk using wpAny_loadPart' hl,wpAny_pyIter_tuple hL
    exact⟨_,rfl,h⟩
  ·wp_walk using wpAny_loadPart' hl,wpAny_pyIter_tuple hL
   exact⟨_,rfl,h⟩
section
variable {prog:Program} {w:World} {A:Around} {E:Value→Shared→Prop} {s:Shared}
theorem wQ {l:Addr} {items:Array Value} {Q:Value→Shared→Prop} (hL:s.heap.IsTuple l items)
  (h:∀ h',IsEnum h' (s.heap.objs.size+1) s.heap.objs.size 0 .none→h'.IsTupleIter s.heap.objs.size l 0→h'.objs.size=s.heap.objs.size+2 →
   (∀ b o,s.heap.get? b=some o→h'.get? b=some o)→Q (.ref (s.heap.objs.size+1)) { s with heap:=h' }) :
  wpAny (model prog w) A (call (.type "enumerate") [.ref l]) Q E s:=by
 obtain⟨⟨c,dct,dt,sl⟩,hl,hc,n,hd⟩:=hL
 replace hc:c=.type "tuple":=hc
 replace hd:dt=.seq items n:=hd
 subst hc hd
 refine callType_new F.called_enumerate (by decide) (F.typeCall_enumerate_1 _) (F.newCall_enumerate_1 _) (fun obj=>F.args_object_init_2 obj _) F.entry_enumerate_new
  (vY l items n dct sl) ⟨hl,?_⟩
 have hz:(s.heap.push { cls:=.type "tuple_iterator",data:=.fields #[.ref l,.int 0 0] }).objs.size=s.heap.objs.size+1:=Heap.size_push ..
 show _∧_
 rw[hz]
 have e1:=Heap.get?_push_size (s.heap.push { cls:=.type "tuple_iterator",data:=.fields #[.ref l,.int 0 0] }) (o:={ cls:=.type "enumerate",data:=.fields #[.none,.bool false,.ref s.heap.objs.size,rawInt 0,.none,.none] }) rfl
 rw[hz] at e1
 refine⟨⟨_,e1,rfl⟩,?_⟩
 exact h _ e1 ⟨_,Heap.get?_push_of_some _ (Heap.get?_push_size _ rfl),rfl,rfl⟩ (by rw[Heap.size_push,hz]) fun b o q=>Heap.get?_push_of_some _ (Heap.get?_push_of_some _ q)
end
theorem Inv.drew {X:Cx} {pins:List (Addr×Obj)} {σ:St} {H:Hp} {s:Shared} {ch:List Addr} {T:Addr} {xs:List V} {h':Heap} {tk:Nat} (I:Inv X pins σ H s) (hf:∀ b∈ch,FpOk X pins H b)
  (k:∀ b o,b ∉ ch→s.heap.get? b=some o→h'.get? b=some o) (hT:s.heap.objs.size≤T) (new:ObjOk X.prog X.w (upd H T (.tup xs)) h' T (.tup xs)):Inv X pins σ (upd H T (.tup xs)) { s with heap:=h',toks:=tk }:=by
 have hn:H T=none:=I.hok.fresh hT
 have nc:∀ b u,H b=some u→b ∉ ch:=fun b u e hb=>by
  have z:=(hf b hb).1
  rw[e] at z
  cases z
 refine I.call (g':=s.gens) (d':=s.drawn) (ch:=ch) ⟨fun b o q n _ hc=>k b o hc q,fun b o q n _ hc=>⟨o.slots,k b o hc q⟩,fun b o q n hc=>by
  rw[fj (Nat.ne_of_lt (Nat.lt_of_lt_of_le (Heap.lt_size q) hT))]; exact n,fun b o q hc=>⟨o,k b o hc q⟩,fun b ys q=>by rw[fj (lu q hn)]; exact q,
  fun b o u q=>by rw[fj (lu q hn)]; exact q,fun b ps q=>⟨#[],by rw[fj (lu q hn),q]; simp⟩⟩ (fun b u e=>?_) I.bare fun b hb=>⟨(hf b hb).2.2.2.1,(hf b hb).2.1,(hf b hb).2.2.2.2.1,(hf b hb).2.2.2.2.2⟩
 by_cases hb:b=T
 ·subst hb
  rw[er] at e
  cases e
  exact new
 ·rw[fj hb] at e
  refine (I.hok b u e).stay (fun c v hc q=>k c v ?_ q) (fun c q=>by rw[fj (lu q hn)]; exact q) fun c ys q=>by rw[fj (lu q hn)]; exact q
  rcases hc with rfl | hc
  ·exact nc _ _ e
  ·exact nc _ _ hc
theorem Inv.turns {X:Cx} {pins:List (Addr×Obj)} {σ:St} {H:Hp} {s:Shared} {ch:List Addr} {h':Heap} {tk:Nat} (I:Inv X pins σ H s) (hf:∀ b∈ch,FpOk X pins H b)
  (k:∀ b o,b ∉ ch→s.heap.get? b=some o→h'.get? b=some o):Inv X pins σ H { s with heap:=h',toks:=tk }:=by
 have nc:∀ b u,H b=some u→b ∉ ch:=fun b u e hb=>by
  have z:=(hf b hb).1
  rw[e] at z
  cases z
 refine I.call (g':=s.gens) (d':=s.drawn) (ch:=ch) ⟨fun b o q n _ hc=>k b o hc q,fun b o q n _ hc=>⟨o.slots,k b o hc q⟩,fun b o q n hc=>n,fun b o q hc=>⟨o,k b o hc q⟩,fun b ys q=>q,
  fun b o u q=>q,fun b ps q=>⟨#[],by rw[q]; simp⟩⟩ (fun b u e=>?_) I.bare fun b hb=>⟨(hf b hb).2.2.2.1,(hf b hb).2.1,(hf b hb).2.2.2.2.1,(hf b hb).2.2.2.2.2⟩
 refine (I.hok b u e).stay (fun c v hc q=>k c v ?_ q) (fun c q=>q) fun c ys q=>q
 rcases hc with rfl | hc
 ·exact nc _ _ e
 ·exact nc _ _ hc
def Ite (sq:Hp→List V→Prop):It:=⟨fun i H=>∃ xs x,sq H xs∧xs[i]?=some x,fun i H x H'=>∃ T v,H T=none∧x=.ref T∧H'=upd H T (.tup [.int i,v])∧∀ xs,sq H xs→xs[i]?=some v,fun i H=>∃ xs,sq H xs∧xs.length≤i⟩
theorem yP {P:Program} {w:World} {H:Hp} {h:Heap} {T:Addr} {a b:V} {u v:Value} {n:Nat} (ra:RelV a u) (rb:RelV b v) (e:h.get? T=some { cls:=.type "tuple",data:=.seq #[u,v] n }):ObjOk P w H h T (.tup [a,b]) :=
 ⟨show 2≤sizeLine by decide,[u,v],.cons ra (.cons rb .nil),⟨_,e,rfl,_,rfl⟩,_,e,rfl⟩
theorem B9 {P:Program} {w:World} {K:PySem.W.Frag} {elts:List Expr} {kk:Nat} {pos:Pos} (a e it:Addr) (hei:e≠it) :
  Turn P w K (.Tuple elts kk pos) (Ite fun H xs=>SqL K H a xs) [e,it] e (fun i h=>(∃ old,IsEnum h e it i old)∧h.IsListIter it a i) where
 mem:=by simp
 obj:=fun i h st b hb=>by
  obtain⟨⟨old,he⟩,o,ho,c,d⟩:=st
  rcases List.mem_cons.mp hb with rfl | hb
  ·exact⟨_,he,fun v z=>by cases z⟩
  ·have z:=List.mem_singleton.mp hb
   subst z
   exact⟨o,ho,fun v z=>by rw[d] at z; cases z⟩
 keep:=fun i h h' st k=>by
  obtain⟨⟨old,he⟩,hit⟩:=st
  exact⟨⟨old,k e (by simp) _ he⟩,hit.at fun o q=>k it (by simp) o q⟩
 item:=by
  intro X hP hw hK hc i pins s σ H E I hf st hg
  subst hP hw hK
  obtain⟨xs,x,hq,hx⟩:=hg
  obtain⟨⟨old,he⟩,hit⟩:=st
  obtain⟨its,rv,p,hz⟩:=I.list hq
  obtain⟨u,hu,ru⟩:=rv.get hx
  refine wpAny_pyNext_enum_item he hit p.isList (x:=u) (by simpa using hu) hei fun h' ho hit' hT hsz hk=>⟨_,rfl,?_⟩
  refine wpAny_letOwnedTupleGo_enum ho fun h2 he2 hs2=>?_
  have hel:e<s.heap.objs.size:=Heap.lt_size he
  have hTe:s.heap.objs.size≠e:=Nat.ne_of_gt hel
  have hil:it<s.heap.objs.size:=by obtain⟨_,y,_⟩:=hit; exact Heap.lt_size y
  have hT2:h2.get? s.heap.objs.size=some { cls:=.type "tuple",data:=.seq #[.int i s.toks,u] }:=(hs2.2 _ hTe).trans hT
  have hf':H s.heap.objs.size=none:=I.hok.fresh (Nat.le_refl _)
  refine⟨.ref s.heap.objs.size,upd H s.heap.objs.size (.tup [.int i,x]),?_,rfl,⟨_,x,hf',rfl,rfl,fun ys hy=>by rw[I.list_inj hy hq]; exact hx⟩,⟨⟨u,he2⟩,hit'.at fun o q=>(hs2.2 it hei.symm).trans q⟩,fun b hb=>?_⟩
  ·exact I.drew (ch:=[e,it]) (tk:=s.toks+1) hf (fun b o hb q=>(hs2.2 b fun z=>hb (by simp [z])).trans (hk b o (fun z=>hb (by simp [z])) (fun z=>hb (by simp [z])) q)) (Nat.le_refl _) (yP ⟨_,rfl⟩ ru hT2)
  ·have z:b≠s.heap.objs.size:=by
    rcases List.mem_cons.mp hb with rfl | hb
    ·exact hTe.symm
    ·rw[List.mem_singleton.mp hb]; exact Nat.ne_of_lt hil
   rw[fj z]
   exact (hf b hb).1
 done:=by
  intro X hP hw hK hc i pins s σ H E I hf st hg
  subst hP hw hK
  obtain⟨xs,hq,hx⟩:=hg
  obtain⟨⟨old,he⟩,hit⟩:=st
  obtain⟨its,rv,p,hz⟩:=I.list hq
  have hl:=rv.length
  exact wpAny_pyNext_enum_end (I.ok.hd hc) he hit p.isList (by simp; omega) fun h' eb=>⟨rfl,I.turns (ch:=[e,it]) (tk:=s.toks) hf fun b o hb q=>eb b o (fun z=>hb (by simp [z])) q⟩
 self:=fun A i s Q E st h=>by
  obtain⟨⟨old,he⟩,_⟩:=st
  exact wpAny_pyIter_enum he h
theorem Ce {P:Program} {w:World} {K:PySem.W.Frag} {elts:List Expr} {kk:Nat} {pos:Pos} (a e it:Addr) (hei:e≠it) (hea:e≠a) (hai:a≠it) :
  Turn P w K (.Tuple elts kk pos) (Ite fun H xs=>SqT K H a xs) [e,it] e (fun i h=>(∃ old,IsEnum h e it i old)∧h.IsTupleIter it a i) where
 mem:=by simp
 obj:=fun i h st b hb=>by
  obtain⟨⟨old,he⟩,o,ho,c,d⟩:=st
  rcases List.mem_cons.mp hb with rfl | hb
  ·exact⟨_,he,fun v z=>by cases z⟩
  ·have z:=List.mem_singleton.mp hb
   subst z
   exact⟨o,ho,fun v z=>by rw[d] at z; cases z⟩
 keep:=fun i h h' st k=>by
  obtain⟨⟨old,he⟩,hit⟩:=st
  exact⟨⟨old,k e (by simp) _ he⟩,hit.at fun o q=>k it (by simp) o q⟩
 item:=by
  intro X hP hw hK hc i pins s σ H E I hf st hg
  subst hP hw hK
  obtain⟨xs,x,hq,hx⟩:=hg
  obtain⟨⟨old,he⟩,hit⟩:=st
  obtain⟨its,rv,p,hz⟩:=I.tuple hq
  obtain⟨u,hu,ru⟩:=rv.get hx
  have hu':its.toArray[i]?=some u:=by simpa using hu
  have D:=Draws.tuple (prog:=X.prog) (w:=X.w) (A:=X.A.in1) (show X.A.in1.handled=none from I.ok.hd hc) it a hai its.toArray
  refine wpAny_pyNext_enum_itemD D he ⟨hit,p⟩ (Array.getElem?_eq_some_iff.mp hu').1 hei (by simp [hei,hea]) fun x' h' tk hP ho hit' hT hsz hk=>⟨_,rfl,?_⟩
  rw[hu'] at hP
  cases hP
  refine wpAny_letOwnedTupleGo_enum ho fun h2 he2 hs2=>?_
  have hel:e<s.heap.objs.size:=Heap.lt_size he
  have hTe:s.heap.objs.size≠e:=Nat.ne_of_gt hel
  have hil:it<s.heap.objs.size:=by obtain⟨_,y,_⟩:=hit; exact Heap.lt_size y
  have hT2:h2.get? s.heap.objs.size=some { cls:=.type "tuple",data:=.seq #[.int i tk,u] }:=(hs2.2 _ hTe).trans hT
  have hf':H s.heap.objs.size=none:=I.hok.fresh (Nat.le_refl _)
  refine⟨.ref s.heap.objs.size,upd H s.heap.objs.size (.tup [.int i,x]),?_,rfl,⟨_,x,hf',rfl,rfl,fun ys hy=>by rw[I.tuple_inj hy hq]; exact hx⟩,⟨⟨u,he2⟩,hit'.1.at fun o q=>(hs2.2 it hei.symm).trans q⟩,fun b hb=>?_⟩
  ·exact I.drew (ch:=[e,it]) (tk:=tk+1) hf (fun b o hb q=>(hs2.2 b fun z=>hb (by simp [z])).trans (hk b o (fun z=>hb (by simp [z])) (fun z=>hb (by simp [z])) q)) (Nat.le_refl _) (yP ⟨_,rfl⟩ ru hT2)
  ·have z:b≠s.heap.objs.size:=by
    rcases List.mem_cons.mp hb with rfl | hb
    ·exact hTe.symm
    ·rw[List.mem_singleton.mp hb]; exact Nat.ne_of_lt hil
   rw[fj z]
   exact (hf b hb).1
 done:=by
  intro X hP hw hK hc i pins s σ H E I hf st hg
  subst hP hw hK
  obtain⟨xs,hq,hx⟩:=hg
  obtain⟨⟨old,he⟩,hit⟩:=st
  obtain⟨its,rv,p,hz⟩:=I.tuple hq
  have hl:=rv.length
  have hT:s.TypeIs (.ref e) "enumerate":=⟨_,he,rfl⟩
  unfold pyNext
  refine wpAny_bind (wpAny_attempt (wpAny_callSpecial?_slot (name:=Str.ofString "__next__") hT F.slot_enumerate_next
   (wpAny_call_entry F.slot_enumerate_next hT F.entry_enumerate_next ?_ (F.args_enumerate_next_1 _))))
  show wpAny _ _ (field (.ref e) 2 >>= _) _ _ _
  refine wpAny_bind (wpAny_field he rfl (x:=.ref it) rfl ?_)
  refine wpAny_bind (vN (show X.A.in1.handled=none from I.ok.hd hc) hit p (by simp; omega) fun h' x he' hx'=>?_)
  obtain⟨o,ho,hc'⟩:=hx'
  refine wpAny_bind (wpAny_isInstance (T:="StopIteration") (b:=true) ⟨o,ho,hc'⟩ isSubtype_stop ?_)
  exact wpAny_pure ⟨rfl,I.turns (ch:=[e,it]) (tk:=s.toks) hf fun b o hb q=>he' b o (fun z=>hb (by simp [z])) q⟩
 self:=fun A i s Q E st h=>by
  obtain⟨⟨old,he⟩,_⟩:=st
  exact wpAny_pyIter_enum he h
section
variable {X:Cx} {elts:List Expr} {kk:Nat} {tpos:Pos}
def DI (K:PySem.W.Frag) (ta:TA):TI:=fun σ H R=>ta σ H fun vs H1=>∃ a,vs=[.ref a]∧(∃ xs,SqL K H1 a xs)∧R (Ite fun H xs=>SqL K H a xs) H1
def DS (K:PySem.W.Frag) (ta:TA):TI:=fun σ H R=>ta σ H fun vs H1=>∃ a,vs=[.ref a]∧(∃ xs,SqT K H1 a xs)∧R (Ite fun H xs=>SqT K H a xs) H1
theorem wm {a:Expr} {ta:TA} {p pos:Pos} (hg:Gl X "enumerate") (hm:X.mg "enumerate"=none) (ha:PA X [a] ta) (hs:starEach [a] X.env=[(false,eval a X.env)]:=by rfl) :
  PI X (.Tuple elts kk tpos) (.Call (.Name "enumerate" p) [a] [] pos) (DI X.K ta):=by
 intro pins s σ H R I h
 refine Call_ (uz I hg hm boot_enumerate (PyProof.Rows.callWith_type1 (thn (ha pos pins s σ H _ I h) fun us s1 ⟨vs,H1,I1,r1,q1⟩=>?_) hs rfl))
 obtain⟨l,e,⟨xs,hq⟩,q⟩:=q1
 subst e
 cases r1 with
 | cons r rr =>
  cases rr
  cases r
  obtain⟨its,rv,p,hz⟩:=I1.list hq
  refine call_enumerate_list p.isList fun h' hE hI hsz hk=>wpAny_pyIter_enum hE ?_
  refine⟨_,[s1.heap.objs.size+1,s1.heap.objs.size],_,_,H1,rfl,I1.kept (t':=s1.toks) hk,B9 l _ _ (Nat.succ_ne_self _),⟨⟨_,hE⟩,hI⟩,fun b hb=>?_,q⟩
  rcases List.mem_cons.mp hb with rfl | hb
  ·exact I1.fpOk (Nat.le_succ _) (I1.hok.fresh (Nat.le_succ _))
  ·rw[List.mem_singleton.mp hb]
   exact I1.fpOk (Nat.le_refl _) (I1.hok.fresh (Nat.le_refl _))
theorem ya {a:Expr} {ta:TA} {p pos:Pos} (hg:Gl X "enumerate") (hm:X.mg "enumerate"=none) (ha:PA X [a] ta) (hs:starEach [a] X.env=[(false,eval a X.env)]:=by rfl) :
  PI X (.Tuple elts kk tpos) (.Call (.Name "enumerate" p) [a] [] pos) (DS X.K ta):=by
 intro pins s σ H R I h
 refine Call_ (uz I hg hm boot_enumerate (PyProof.Rows.callWith_type1 (thn (ha pos pins s σ H _ I h) fun us s1 ⟨vs,H1,I1,r1,q1⟩=>?_) hs rfl))
 obtain⟨l,e,⟨xs,hq⟩,q⟩:=q1
 subst e
 cases r1 with
 | cons r rr =>
  cases rr
  cases r
  obtain⟨its,rv,p,hz⟩:=I1.tuple hq
  have hll:l<s1.heap.objs.size:=by obtain⟨o,ho,_⟩:=p; exact Heap.lt_size ho
  refine wQ p fun h' hE hI hsz hk=>wpAny_pyIter_enum hE ?_
  refine⟨_,[s1.heap.objs.size+1,s1.heap.objs.size],_,_,H1,rfl,I1.kept (t':=s1.toks) hk,Ce l _ _ (Nat.succ_ne_self _) (Nat.ne_of_gt (Nat.lt_succ_of_lt hll)) (Nat.ne_of_lt hll),⟨⟨_,hE⟩,hI⟩,fun b hb=>?_,q⟩
  rcases List.mem_cons.mp hb with rfl | hb
  ·exact I1.fpOk (Nat.le_succ _) (I1.hok.fresh (Nat.le_succ _))
  ·rw[List.mem_singleton.mp hb]
   exact I1.fpOk (Nat.le_refl _) (I1.hok.fresh (Nat.le_refl _))
end
theorem Dj {sq:Hp→List V→Prop} {g:TG} {tb:TS} {D:Ends} {σ:St} {H:Hp} (xs:List V) (Pv:Nat→St→Hp→Prop) (h0:Pv 0 σ H) (hl:∀ i σ H,i≤xs.length→Pv i σ H→sq H xs)
  (hs:∀ i x T σ H,xs[i]?=some x→Pv i σ H→H T=none→g (.ref T) σ (upd H T (.tup [.int i,x])) fun σ2 H2=>tb { D with nx:=Pv (i+1),ct:=Pv (i+1),bk:=D.nx } σ2 H2) (hd:∀ σ H,Pv xs.length σ H→D.nx σ H):Aw (Ite sq) g tb D σ H:=by
 refine⟨fun i m σ H=>m=xs.length-i∧i≤xs.length∧Pv i σ H,⟨xs.length,by simp,Nat.zero_le _,h0⟩,?_⟩
 rintro i m σ H2 ⟨rfl,hi,p⟩
 have q:=hl i σ H2 hi p
 by_cases hlt:i<xs.length
 ·have hx:xs[i]?=some xs[i]:=by simp [hlt]
  refine .inr ⟨⟨xs,_,q,hx⟩,Pv (i+1),fun σ' H' p'=>⟨xs.length-(i+1),by omega,rfl,hlt,p'⟩,fun x H' y=>?_⟩
  obtain⟨T,v,hT,e1,e2,y⟩:=y
  subst e1 e2
  have e2:=y xs q
  exact hs i v T σ _ e2 p hT
 ·have e:i=xs.length:=by omega
  subst e
  exact .inl ⟨⟨xs,q,Nat.le_refl _⟩,hd σ H2 p⟩
theorem Hh {xs:List V} {n:Nat}:x8 xs none (some (n:Int))=xs.take n:=by
 unfold x8
 rw[HT.sIx_nat,HT.sIx_none,List.drop_zero,Nat.sub_zero]
 by_cases h:n≤xs.length
 ·rw[Nat.min_eq_left h]
 ·rw[Nat.min_eq_right (by omega),List.take_of_length_le (Nat.le_refl _),List.take_of_length_le (by omega)]
end L2
namespace L2
open PySem PySem.Spec PyProof.Rows
open PySem.Builtin PySem.Builtin.ObjectAttr PySem.Builtin.Getset_descriptor
open PySem.W (Frag Looks looks_findIn looks_specialIn looks_takesIn looks_mroIn looks_subIn looks_typeIn)
def ExcAt (x D:Addr) (h:Heap):Prop:=∃ o vs,h.get? x=some o∧o.cls=.ref D∧o.data=.fields vs
structure XCls (K:Frag) (D:Addr):Prop where
 ga:PySem.W.findIn K (.ref D) "__getattribute__"=some (some (.builtin "BaseException.__getattribute__"))
 gt:PySem.W.findIn K (.ref D) "__getattr__"=some none
 ca:PySem.W.findIn K (.ref D) "__class__"=some (some (.builtin "object.__class__"))
 cn:PySem.W.specialIn K (.builtin "object.__class__") "__get__"=some (some (.builtin "getset_descriptor.__get__"))
 tk:PySem.W.takesIn K (.builtin "object.__class__")=some true
 mo:PySem.W.mroIn K D (.type "object")=some true
 mb:PySem.W.mroIn K D (.type "BaseException")=some true
 is:(PySem.W.clsIn K D).isSome=true
section
variable {prog:Program} {w:World} {A:Around} {E:Value→Shared→Prop} {s:Shared} {K:Frag} {x D:Addr}
theorem ExcAt.type {M:Model} {h:Heap} (I:ExcAt x D h):Looks M h (typeOf (.ref x)) (.ref D):=by
 obtain⟨o,vs,e,c,_⟩:=I
 exact c ▸ (Looks.ld e).andThen .now
end
end L2
namespace L2
open PySem PySem.Spec PyProof.Rows
theorem ObjOk.here {P:Program} {w:World} {H:Hp} {h:Heap} {a:Addr} {o:HO} (x:ObjOk P w H h a o):∃ ob,h.get? a=some ob:=by
 cases o with
 | lst xs=>obtain⟨_,_,_,_,e⟩:=x; exact⟨_,e⟩
 | tup xs=>obtain⟨_,_,_,_,ob,e,_⟩:=x; exact⟨_,e⟩
 | dK kvs=>obtain⟨_,_,_,_,o,_,_,e,_⟩:=x; exact⟨_,e⟩
 | dT kvs=>obtain⟨_,_,_,_,o,_,_,e,_⟩:=x; exact⟨_,e⟩
 | set S n=>obtain⟨o,_,_,_,e,_⟩:=x; exact⟨_,e⟩
 | ins C dx fs=>obtain⟨_,_,_,e,_⟩:=x; exact⟨_,e⟩
 | own y=>exact x
 | xd fs=>obtain⟨_,⟨_,_,_,e,_⟩,_⟩:=x; exact⟨_,e⟩
 | rng lo hi=>obtain⟨_,_,_,e⟩:=x; exact⟨_,e⟩
 | frz ob u=>obtain⟨e,_⟩:=x; exact⟨_,e⟩
 | tbl ps=>exact⟨_,(show h.get? a=some _ from x)⟩
 | met f y=>exact⟨_,(show h.get? a=some _ from x)⟩
 | ext φ=>obtain⟨_,e,_⟩:=x; exact e
structure Fly (P:Program) (w:World) (outer:List Env) (H:Hp) (s:Shared) (B:Heap) (H':Hp) (a C:Addr) (a0:Value) (s':Shared):Prop where
 os:s'.os=s.os
 bare:AllBare s'.gens
 un:Un (frs outer) [] H H' s.heap s'.heap
 hok:HOk P w H' s'.heap
 fly:Heap.FlyingW B outer a (.ref C) a0 s'.heap
 old:∀ b o,s'.heap.get? b=some o→(∃ o',s.heap.get? b=some o')→b ∉ frs outer→B.get? b=some o
 trk:∀ b u o,H' b=some u→s'.heap.get? b=some o→B.get? b=some o
 new:H' a=none
 fresh:s.heap.get? a=none
abbrev bmVE:List Value:=[.type "ValueError",.type "Exception",.type "BaseException",.type "object"]
structure XRaise (K:PySem.W.Frag) (mg:Str→Option Value) (x:Str) (C:Addr):Prop where
 at_:mg x=some (.ref C)
 ex:PySem.W.excIn K C bmVE "ValueError.__new__"=true
structure XCatch (K:PySem.W.Frag) (mg:Str→Option Value) (x:Str) (C:Addr):Prop where
 at_:mg x=some (.ref C)
 is:PySem.W.clsIn K C≠none
 ty:PySem.W.typeIn K (.ref C)=some (.type "type")
 mb:PySem.W.mroIn K C (.type "BaseException")=some true
structure RoomS (k:Nat) (A:Around):Prop where
 dp:A.depth+3 * k+5<recursionLimit
 un:A.units+16 * k+200<cLine
structure FnOkS (P:Program) (w:World) (K:PySem.W.Frag) (mg:Str→Option Value) (base:Heap) (CX:CXT) (k:Nat) (f:Addr) (fd:FuncData) (ps:List Str) (sp:Sp):Prop where
 len:∀ vs H Q E,sp vs H Q E→vs.length=ps.length
 run:∀ (A:Around) (outer:List Env) (s:Shared) (H:Hp) (args:Args) (us:List Value) (vs:List V) (Q:VK) (E:XK),RoomS k A→Env0 P w K mg base A outer s H→BindsTo s fd args (ps.zip us)→Vals vs us→sp vs H Q E →
  codeAny (model P w) A (.call (.ref f) args) (CR CX outer P w H s Q E) s
structure CalS (P:Program) (w:World) (K:PySem.W.Frag) (mg:Str→Option Value) (base:Heap) (CX:CXT) (x:Str) (k:Nat) (ps:List Str) (sp:Sp):Prop where
 ex:∃ f fd,FnOkS P w K mg base CX k f fd ps sp∧Binds K fd ps []∧PySem.W.keepIn K (.ref f)=true∧mg x=some (.ref f)
abbrev Cx.any (X:Cx) (A:Around):Cx:={ X with A:=A,calm:=false }
theorem Inv.any {X:Cx} {pins:List (Addr×Obj)} {σ:St} {H:Hp} {s:Shared} (I:Inv X pins σ H s) {A:Around} (hf:A.frames=some X.stack):Inv (X.any A) pins σ H s :=
 ⟨⟨I.ok.mod,I.ok.kind,I.ok.glob,I.ok.blt,I.ok.above,I.ok.inj,I.ok.has,I.ok.cab,(fun z=>nomatch z),hf,I.ok.stk,I.ok.exf,I.ok.bs,I.ok.bsz,I.ok.noex,I.ok.exfs,I.ok.funs,I.ok.frf⟩,I.os,I.bare,I.base,I.loc,I.cell,I.free,I.freeC,I.pin,I.hok,I.len⟩
def noStar:Expr→Bool
 | .Starred _ _=>false
 | _=>true
theorem di {e:Expr} {es:List Expr} {env:Env} (h:noStar e=true):starEach (e::es) env=(false,eval e env)::starEach es env:=by
 cases e <;> first | rfl | cases h
theorem star1' {e:Expr} {env:Env} (h:noStar e=true):starEach [e] env=[(false,eval e env)]:=by rw[di h]; rfl
theorem star2' {e e2:Expr} {env:Env} (h:noStar e=true) (h2:noStar e2=true):starEach [e,e2] env=[(false,eval e env),(false,eval e2 env)]:=by rw[di h,star1' h2]
theorem fD {env:Env} {pos:Pos}:(backTo pos (starEach [] env)).any (·.1)=false:=rfl
theorem gw {e:Expr} {es:List Expr} {env:Env} {pos:Pos} (h:noStar e=true) (r:(backTo pos (starEach es env)).any (·.1)=false):(backTo pos (starEach (e::es) env)).any (·.1)=false:=by
 rw[di h]
 show (false || (backTo pos (starEach es env)).any (·.1))=false
 rw[r]
 rfl
def plainT:Expr→Bool
 | .UnaryOp _ _ _=>false
 | .BoolOp _ _ _=>false
 | .IfExp _ _ _ _=>false
 | .Compare _ _ _ _=>false
 | _=>true
theorem um {e:Expr} {env:Env} (h:plainT e=true):∀ whole,isTrue e env whole=(do let v ← whole; standAt e.pos; holding [v] (truthy v)):=by
 intro whole
 cases e <;> first | rfl | cases h
def GW:Expr→Bool
 | .ListComp _ _ _ _=>false
 | .SetComp _ _ _ _=>false
 | .DictComp _ _ _ _ _=>false
 | _=>true
theorem gG {e:Expr} {tg:Option Expr} {n:Nat} {env:Env} (h:GW e=true):swapsWith e tg n env=pure false:=by
 cases e <;> first | rfl | cases h
theorem ints_are:∀ {ns:List Int} {its:List Value},Vals (ns.map V.int) its→IntsAre its ns
 | [],_,.nil=>.nil
 | n::ns,_,.cons ⟨t,e⟩ r=>by subst e; exact .cons n t (ints_are r)
section
variable {X:Cx}
theorem uJ (hc:X.calm=true):qo X (.builtin "sum") (fun xs H Q=>∃ (p:Addr) (ns:List Int),xs=[.ref p]∧SqL X.K H p (ns.map V.int)∧Q (.int ns.sum) H):=by
 intro pins s σ H xs us Q I r h
 obtain⟨p,ns,rfl,hq,q⟩:=h
 obtain⟨u,rfl,rx⟩:=vals1 r
 cases rx
 obtain⟨its,r',pl,hz⟩:=I.list hq
 have hi:=ints_are r'
 obtain⟨xs,e⟩:=hi.allInts.items
 have hl:=pl.isList
 have en:=hi.numsOf
 rw[show its=its.toArray.toList from rfl,e,nums_intItems] at en
 rw[e] at hl
 refine sum_intListG (I.ok.hd hc) hl fun h' tk t' k=>⟨.int ns.sum,H,I.kept k,⟨t',?_⟩,q⟩
 rw[preSum_eq,List.take_of_length_le (by simp),en]
theorem tY (hc:X.calm=true):qo X (.builtin "all") (fun xs H Q=>∃ (p:Addr) (bs:List Bool),xs=[.ref p]∧SqL X.K H p (bs.map V.bl)∧Q (.bl (bs.all id)) H):=by
 intro pins s σ H xs us Q I r h
 obtain⟨p,bs,rfl,hq,q⟩:=h
 obtain⟨u,rfl,rx⟩:=vals1 r
 cases rx
 obtain⟨its,r',pl,hz⟩:=I.list hq
 have hl:=pl.isList
 have hlt:p<s.heap.objs.size:=by obtain⟨_,e,_⟩:=hl; exact Heap.lt_size e
 have len:=r'.length
 rw[List.length_map] at len
 refine call_all_walk (wpAny_pyIter_list hl ⟨_,_,_,_,_,_,fun i=>bs.getD i true,rfl,Walks.list (A:=X.A.in1) (I.ok.hd hc) s.heap.objs.size p (Nat.ne_of_lt hlt) its.toArray,⟨⟨_,Heap.get?_push_size _ rfl,rfl,rfl⟩,hl.push _⟩,?_,?_⟩)
 ·intro i v s' Q' E' hP hQ
  have hP':its[i]?=some v:=by simpa using hP
  have li:i<bs.length:=by
   have:=(List.getElem?_eq_some_iff.mp hP').1
   omega
  obtain⟨u,e1,e2⟩:=r'.get (i:=i) (x:=.bl (bs.getD i true)) (by simp [List.getD,li])
  rw[hP'] at e1
  cases e1
  obtain rfl:v=Value.bool (bs.getD i true):=e2
  exact wpAny_truthy_bool hQ
 ·intro h' tk hk
  have:(List.range its.toArray.size).all (fun i=>bs.getD i true)=bs.all id:=by
   rw[List.size_toArray,← len]
   clear len hq q r' hz
   induction bs with
   | nil=>rfl
   | cons b bs ih =>
    rw[List.length_cons,List.range_succ_eq_map,List.all_cons,List.all_map,List.all_cons]
    exact congrArg _ ih
  rw[this]
  exact⟨.bl _,H,I.kept (old_kept hk),rfl,q⟩
end
structure Apart (z TI TO i1 i2:Addr) (f1 f2:List Addr):Prop where
 zTI:z≠TI
 zTO:z≠TO
 TITO:TI≠TO
 TI1:TI≠i1
 TI2:TI≠i2
 m1:i1∈f1
 m2:i2∈f2
 z1:z ∉ f1
 z2:z ∉ f2
 t1:TO ∉ f1
 t2:TO ∉ f2
 i12:i1 ∉ f2
 i21:i2 ∉ f1
theorem kB {x y:Addr} {l:List Addr} (h:x∈l) (h':y ∉ l):x≠y:=fun e=>h' (e ▸ h)
section
variable {prog:Program} {w:World} {A:Around} {E:Value→Shared→Prop} {s:Shared} {z TI TO i1 i2:Addr} {f1 f2:List Addr} {n1 n2 k:Nat} {P1 P2:Nat→Value→Prop} {S1 S2:Nat→Heap→Prop}
theorem gS {it:Addr} {f:List Addr} {n:Nat} {P:Nat→Value→Prop} {S:Nat→Heap→Prop} {i:Nat} {c:Addr} {h h':Heap} (D:Draws prog w A it f n P S) (st:S i h) (e:Heap.ExtBut c h h') (hc:c ∉ f):S i h' :=
 D.frame i h h' st fun b hb o q=>e b o (fun x=>hc (x ▸ hb)) q
theorem Dn {a b:Value} {Q:Value→Shared→Prop} (D1:Draws prog w A i1 f1 n1 P1 S1) (D2:Draws prog w A i2 f2 n2 P2 S2) (ap:Apart z TI TO i1 i2 f1 f2)
  (hz:IsZip s.heap z TI TO .none) (hTI:IsPair s.heap TI (.ref i1) (.ref i2)) (hTO:IsPair s.heap TO a b) (st1:S1 k s.heap) (st2:S2 k s.heap) (h1:k<n1) (h2:k<n2)
  (hQ:∀ h' tk x y,P1 k x→P2 k y→IsZip h' z TI TO (rawInt s.heap.objs.size)→IsPair h' TO x y→S1 (k+1) h'→S2 (k+1) h'→IsPair h' s.heap.objs.size x y →
   (∀ c o,c≠z→c≠TO→c≠i1→c≠i2→s.heap.get? c=some o→h'.get? c=some o)→Q (.ref s.heap.objs.size) { s with heap:=h',toks:=tk }) :
  wpAny (model prog w) A (Builtin.«zip.__next__» ⟨[.ref z],[]⟩) (fun fin s'=>∃ v,fin=.done (.ret v)∧Q v s') E s:=by
 show wpAny _ _ (field (.ref z) 2 >>= _) _ _ _
 refine wpAny_bind (wpAny_field hz rfl (x:=.bool false) rfl ?_)
 show wpAny _ _ (field (.ref z) 3 >>= _) _ _ _
 refine wpAny_bind (wpAny_field hz rfl (x:=.ref TI) rfl ?_)
 refine wpAny_bind (wpAny_seqItems hTI rfl ?_)
 show wpAny _ _ (Builtin.SmallTypes.ownedTupleIsFree (.ref z) >>= _) _ _ _
 refine wpAny_bind ?_
 unfold Builtin.SmallTypes.ownedTupleIsFree
 refine wpAny_bind (wpAny_field hz rfl (x:=.none) rfl (wpAny_pure ?_))
 simp only [if_true]
 refine wpAny_bind (wpAny_rule (wpAny_bind (wpAny_field hz rfl (x:=.ref TO) rfl (wpAny_bind (wpAny_setField_rec hz (by simp) fun g1 hz1 s1=>?_)))))
 replace hz1:IsZip g1 z TI TO .ellipsis:=hz1
 refine wpAny_bind ?_
 simp only [List.zipIdx_cons,List.zipIdx_nil,List.forIn_cons,List.forIn_nil]
 refine wpAny_bind (wpAny_bind (wpAny_onRaise ?_))
 show wpAny _ _ (Builtin.SmallTypes.nextOf (.ref i1) >>= _) _ _ _
 refine wpAny_bind (D1.item k _ _ _ h1 (gS D1 st1 s1.extBut ap.z1) fun x g2 tk2 px st1' s2=>wpAny_pure ?_)
 have nTO1:TO≠i1:=(kB ap.m1 ap.t1).symm
 have nTO2:TO≠i2:=(kB ap.m2 ap.t2).symm
 have nz1:z≠i1:=(kB ap.m1 ap.z1).symm
 have nz2:z≠i2:=(kB ap.m2 ap.z2).symm
 have hTO2:IsPair g2 TO a b:=s2.extBut _ _ nTO1 (s1.extBut _ _ ap.zTO.symm hTO)
 refine wpAny_bind (wpAny_seqItems hTO2 rfl (wpAny_bind (wpAny_updateSeq_pair hTO2 fun g3 hTO3 s3=>wpAny_bind (wpAny_letGo (wpAny_pure ?_)))))
 replace hTO3:IsPair g3 TO x b:=hTO3
 refine wpAny_bind (wpAny_bind (wpAny_onRaise ?_))
 show wpAny _ _ (Builtin.SmallTypes.nextOf (.ref i2) >>= _) _ _ _
 refine wpAny_bind (D2.item k _ _ _ h2 (gS D2 (gS D2 (gS D2 st2 s1.extBut ap.z2) s2.extBut ap.i12) s3.extBut ap.t2) fun y g4 tk4 py st2' s4=>wpAny_pure ?_)
 have hTO4:IsPair g4 TO x b:=s4.extBut _ _ nTO2 hTO3
 refine wpAny_bind (wpAny_seqItems hTO4 rfl (wpAny_bind (wpAny_updateSeq_pair hTO4 fun g5 hTO5 s5=>wpAny_bind (wpAny_letGo (wpAny_pure (wpAny_pure ?_))))))
 replace hTO5:IsPair g5 TO x y:=hTO5
 refine wpAny_bind (wpAny_seqItems hTO5 rfl (wpAny_bind (wpAny_newTuple ?_)))
 have hsz:g5.objs.size=s.heap.objs.size:=by rw[s5.1,s4.1,s3.1,s2.1,s1.1]
 have hz5:IsZip g5 z TI TO .ellipsis:=s5.extBut _ _ ap.zTO (s4.extBut _ _ nz2 (s3.extBut _ _ ap.zTO (s2.extBut _ _ nz1 hz1)))
 have k5:∀ c o,c≠z→c≠TO→c≠i1→c≠i2→s.heap.get? c=some o→g5.get? c=some o:=fun c o c1 c2 c3 c4 e =>
  s5.extBut _ _ c2 (s4.extBut _ _ c4 (s3.extBut _ _ c2 (s2.extBut _ _ c3 (s1.extBut _ _ c1 e))))
 have u1:S1 (k+1) g5:=gS D1 (gS D1 (gS D1 st1' s3.extBut ap.t1) s4.extBut ap.i21) s5.extBut ap.t1
 have u2:S2 (k+1) g5:=gS D2 st2' s5.extBut ap.t2
 have zlt:z<g5.objs.size:=Heap.lt_size hz5
 show wpAny _ _ (Builtin.SmallTypes.ownedTupleHandOut (.ref z) (.ref g5.objs.size) >>= _) _ _ _
 refine wpAny_bind ?_
 unfold Builtin.SmallTypes.ownedTupleHandOut
 have hz6:IsZip (g5.push { cls:=.type "tuple",data:=.seq #[x,y] }) z TI TO .ellipsis:=Heap.get?_push_of_some _ hz5
 refine wpAny_bind (wpAny_setField_rec hz6 (by simp) fun g7 hz7 s7=>?_)
 replace hz7:IsZip g7 z TI TO (rawInt g5.objs.size):=hz7
 refine wpAny_setField_rec hz7 (by simp) fun g8 hz8 s8=>?_
 replace hz8:IsZip g8 z TI TO (rawInt g5.objs.size):=hz8
 have up:∀ c o,c≠z→g5.get? c=some o→g8.get? c=some o:=fun c o c1 e=>s8.extBut _ _ c1 (s7.extBut _ _ c1 (Heap.get?_push_of_some _ e))
 have hT8:IsPair g8 g5.objs.size x y:=s8.extBut _ _ (Nat.ne_of_gt zlt) (s7.extBut _ _ (Nat.ne_of_gt zlt) (Heap.get?_push_size _ rfl))
 rw[hsz] at hz8 hT8
 refine wpAny_pure ⟨_,rfl,?_⟩
 show Q (.ref g5.objs.size) _
 rw[hsz]
 exact hQ g8 tk4 x y px py hz8 (up _ _ ap.zTO.symm hTO5) (D1.frame _ _ _ u1 fun b hb o q=>up b o (fun x=>ap.z1 (x ▸ hb)) q) (D2.frame _ _ _ u2 fun b hb o q=>up b o (fun x=>ap.z2 (x ▸ hb)) q) hT8 fun c o c1 c2 c3 c4 e=>up c o c1 (k5 c o c1 c2 c3 c4 e)
theorem Ej {a b:Value} {Q:Fin→Shared→Prop} (D1:Draws prog w A i1 f1 n1 P1 S1) (D2:Draws prog w A i2 f2 n2 P2 S2) (ap:Apart z TI TO i1 i2 f1 f2)
  (hz:IsZip s.heap z TI TO .none) (hTI:IsPair s.heap TI (.ref i1) (.ref i2)) (hTO:IsPair s.heap TO a b) (st1:S1 k s.heap) (st2:S2 k s.heap) (hk:k=n1∨(k<n1∧k=n2))
  (hE:∀ h' tk e,(∀ c o,c≠z→c≠TO→c≠i1→c≠i2→s.heap.get? c=some o→h'.get? c=some o)→(∃ o,h'.get? e=some o∧o.cls=.type "StopIteration")→E (.ref e) { s with heap:=h',toks:=tk }) :
  wpAny (model prog w) A (Builtin.«zip.__next__» ⟨[.ref z],[]⟩) Q E s:=by
 show wpAny _ _ (field (.ref z) 2 >>= _) _ _ _
 refine wpAny_bind (wpAny_field hz rfl (x:=.bool false) rfl ?_)
 show wpAny _ _ (field (.ref z) 3 >>= _) _ _ _
 refine wpAny_bind (wpAny_field hz rfl (x:=.ref TI) rfl ?_)
 refine wpAny_bind (wpAny_seqItems hTI rfl ?_)
 show wpAny _ _ (Builtin.SmallTypes.ownedTupleIsFree (.ref z) >>= _) _ _ _
 refine wpAny_bind ?_
 unfold Builtin.SmallTypes.ownedTupleIsFree
 refine wpAny_bind (wpAny_field hz rfl (x:=.none) rfl (wpAny_pure ?_))
 simp only [if_true]
 refine wpAny_bind (wpAny_rule (wpAny_bind (wpAny_field hz rfl (x:=.ref TO) rfl (wpAny_bind (wpAny_setField_rec hz (by simp) fun g1 hz1 s1=>?_)))))
 replace hz1:IsZip g1 z TI TO .ellipsis:=hz1
 refine wpAny_bind ?_
 simp only [List.zipIdx_cons,List.zipIdx_nil,List.forIn_cons,List.forIn_nil]
 refine wpAny_bind (wpAny_bind (wpAny_onRaise ?_))
 show wpAny _ _ (Builtin.SmallTypes.nextOf (.ref i1) >>= _) _ _ _
 have nTO1:TO≠i1:=(kB ap.m1 ap.t1).symm
 have nz1:z≠i1:=(kB ap.m1 ap.z1).symm
 have nz2:z≠i2:=(kB ap.m2 ap.z2).symm
 rcases hk with rfl | ⟨h1,rfl⟩
 ·refine wpAny_bind (D1.done _ _ _ (gS D1 st1 s1.extBut ap.z1) fun g2 e s2 he=>?_)
  obtain⟨oe,hoe,hce⟩:=he
  have hz2:IsZip g2 z TI TO .ellipsis:=s2 _ _ nz1 hz1
  have hez:e≠z:=fun x=>by subst x; rw[hz2] at hoe; cases hoe; simp at hce
  exact wpAny_setField_rec hz2 (by simp) fun g3 _ s3=>hE g3 _ e (fun c o c1 _ c3 _ x=>s3.extBut _ _ c1 (s2 _ _ c3 (s1.extBut _ _ c1 x))) ⟨oe,s3.extBut _ _ hez hoe,hce⟩
 ·refine wpAny_bind (D1.item k _ _ _ h1 (gS D1 st1 s1.extBut ap.z1) fun x g2 tk2 px st1' s2=>wpAny_pure ?_)
  have hTO2:IsPair g2 TO a b:=s2.extBut _ _ nTO1 (s1.extBut _ _ ap.zTO.symm hTO)
  refine wpAny_bind (wpAny_seqItems hTO2 rfl (wpAny_bind (wpAny_updateSeq_pair hTO2 fun g3 hTO3 s3=>wpAny_bind (wpAny_letGo (wpAny_pure ?_)))))
  refine wpAny_bind (wpAny_bind (wpAny_onRaise ?_))
  show wpAny _ _ (Builtin.SmallTypes.nextOf (.ref i2) >>= _) _ _ _
  refine wpAny_bind (D2.done _ _ _ (gS D2 (gS D2 (gS D2 st2 s1.extBut ap.z2) s2.extBut ap.i12) s3.extBut ap.t2) fun g4 e s4 he=>?_)
  obtain⟨oe,hoe,hce⟩:=he
  have hz4:IsZip g4 z TI TO .ellipsis:=s4 _ _ nz2 (s3.extBut _ _ ap.zTO (s2.extBut _ _ nz1 hz1))
  have hez:e≠z:=fun x=>by subst x; rw[hz4] at hoe; cases hoe; simp at hce
  exact wpAny_setField_rec hz4 (by simp) fun g5 _ s5=>hE g5 _ e (fun c o c1 c2 c3 c4 x=>s5.extBut _ _ c1 (s4 _ _ c4 (s3.extBut _ _ c2 (s2.extBut _ _ c3 (s1.extBut _ _ c1 x))))) ⟨oe,s5.extBut _ _ hez hoe,hce⟩
end
theorem DB (n a b:Nat) (ha:a<n) (hb:b<n):Apart (n+4) (n+2) (n+3) n (n+1) [n,a] [n+1,b]:=by
 constructor <;> first | simp only [List.mem_cons,List.not_mem_nil,or_false,true_or,not_or] | skip
 all_goals first | (exact trivial) | (intro h; have h':(_:Nat)=_:=h; omega) | (constructor <;> (intro h; have h':(_:Nat)=_:=h; omega))
theorem uI {X:Cx} {K:PySem.W.Frag} {es:List Expr} {k n:Nat} {t:TGs} {pos:Pos} (hK:X.K=K) (hc:X.calm=true) (h:PGs X es t) (hn:(assignEach es X.env).length=n) (hst:(assignEach es X.env).findIdx? (·.1)=none):PG X (.Tuple es k pos) (ET K n t):=by
 subst hK
 exact ve hc h hn hst
section
variable {X:Cx}
theorem yz {ns:List Int} {its:List Value} (r:Vals (ns.map V.int) its) {j:Nat} (h:j<its.length):∃ t,its[j]=.int (ns.getD j 0) t:=by
 obtain⟨x,e,rv⟩:=vm r h
 have hl:j<ns.length:=by have:=r.length; rw[List.length_map] at this; omega
 rw[List.getElem?_map,List.getElem?_eq_getElem hl] at e
 cases e
 obtain⟨t,e⟩:=rv
 exact⟨t,by rw[e]; simp [List.getD,hl]⟩
abbrev Sq (K:PySem.W.Frag) (H:Hp) (a:Addr) (xs:List V):Prop:=SqL K H a xs∨SqT K H a xs
end
deriving instance DecidableEq for Kn
section
variable {X:Cx}
theorem pZ:qo X (.type "list") (fun xs H Q=>∃ p ys,xs=[.ref p]∧SqL X.K H p ys∧∀ l,H l=none→Q (.ref l) (upd H l (.lst ys))):=by
 intro pins s σ H xs us Q I r h
 obtain⟨p,ys,rfl,hq,q⟩:=h
 exact AB pins s σ H _ us Q I r ⟨p,ys,rfl,.inl hq,q⟩
end
end L2
namespace PySem
open Sem (wp)
namespace SetL
theorem sf:plainId "set.update.loop"=true:=by decide +kernel
theorem uR:entryFor table "set.update.loop"=some Builtin.«set.update.loop»:=entryFor_of_tree (by kernel_rfl)
def addS (p:(Int→Bool)×Nat) (k:Int):(Int→Bool)×Nat:=(fun k'=>p.1 k' || decide (k'=k),if p.1 k=true then p.2 else p.2+1)
theorem GA (p:(Int→Bool)×Nat) (k:Int):(addS p k).2≤p.2+1:=by
 show (if p.1 k=true then p.2 else p.2+1)≤_
 split <;> omega
section
variable {prog:Program} {w:World} {A:Around} {R:Result→Shared→Prop} {I:Addr} {fp wr:List Addr} {n:Nat} {P:Nat→Value→Prop} {St:Nat→Heap→Prop}
theorem xW (W:Walks prog w A.in1 I fp wr n P St) (a:Addr) (ha:a ∉ fp) (hw:a ∉ wr) (val:Nat→Int) (hval:∀ i v,P i v→∃ t,v=.int (val i) t):∀ (k i:Nat) (s:Shared) (p:(Int→Bool)×Nat),n-i=k→i≤n→St i s.heap →
  s.heap.SetOf (intKind prog w) a p.1 p.2→p.2+k<scanBound →
  (∀ h' tk,h'.SetOf (intKind prog w) a (((List.range n).drop i).foldl (fun q j=>addS q (val j)) p).1 (((List.range n).drop i).foldl (fun q j=>addS q (val j)) p).2→(∀ b o,b ∉ a::wr→s.heap.get? b=some o→h'.get? b=some o)→R (.ok (.ret .none)) { s with heap:=h',toks:=tk }) →
  codeAny (model prog w) A (.builtin "set.update.loop" ⟨[.ref a,.ref I],[]⟩) R s:=by
 intro k
 induction k with
 | zero =>
  intro i s p hk hi hst hS hb hR
  have hin:i=n:=by omega
  subst hin
  refine codeAny_builtin uR ?_
  rw[Around.under_plainId sf _]
  show wpAny _ A.in1 (pyNext (.ref I) >>= _) _ _ s
  refine wpAny_bind (W.done s _ _ hst fun h' tk hk'=>?_)
  refine wpAny_pure ?_
  obtain⟨o,es,ep,t,ho,r⟩:=hS
  refine hR h' tk ?_ fun b o hbw e=>hk' b o (fun z=>hbw (List.mem_cons_of_mem _ z)) e
  rw[List.drop_of_length_le (by simp)]
  exact⟨o,es,ep,t,hk' a o hw ho,r⟩
 | succ k ih =>
  intro i s p hk hi hst hS hb hR
  have hlt:i<n:=by omega
  have hd:(List.range n).drop i=i::(List.range n).drop (i+1):=by
   rw[List.drop_eq_getElem_cons (by simpa using hlt)]; simp
  refine codeAny_builtin uR ?_
  rw[Around.under_plainId sf _]
  show wpAny _ A.in1 (pyNext (.ref I) >>= _) _ _ s
  refine wpAny_bind (W.item i s _ _ hlt hst fun v h' tk hP hst' hk'=>?_)
  obtain⟨t,rfl⟩:=hval i v hP
  obtain⟨o,es,ep,tt,ho,r⟩:=hS
  have hS':h'.SetOf (intKind prog w) a p.1 p.2:=⟨o,es,ep,tt,hk' a o hw ho,r⟩
  refine wpAny_bind (wpAny_holding ?_)
  unfold setAdd
  refine wpAny_bind ((intKind prog w).pyHash (k:=val i) (by simp [intKind,Value.isInt]) ?_)
  refine wpAny_setAddHashed_of (knd:=intKind prog w) (k:=val i) (S:=p.1) (n:=p.2) (by simp [intKind,Value.isInt]) rfl hS' (by omega) fun h2 hsb hS2=>?_
  refine wpAny_pure ⟨plainId_quiet sf _,ih (i+1) _ (addS p (val i)) (by omega) hlt ?_ hS2 (by have:=GA p (val i); omega) fun h3 tk3 hS3 hk3=>?_⟩
  ·exact W.frame _ _ _ hst' fun b hbf o e=>hsb.extBut b o (fun z=>ha (z ▸ hbf)) e
  ·have:=hR h3 tk3
   rw[hd,List.foldl_cons] at this
   refine this hS3 fun b o hbw e=>hk3 b o hbw (hsb.extBut b o (fun z=>hbw (z ▸ List.mem_cons_self ..)) (hk' b o (fun z=>hbw (List.mem_cons_of_mem _ z)) e))
end
theorem typeCall_set_1 (x:Value):checkTypeCall "set" ⟨[x],[]⟩=pure ():=by kernel_rfl
theorem newCall_set_1 (x:Value):checkBuiltinCall "set.__new__" ⟨[.type "set",x],[]⟩=pure ():=by kernel_rfl
theorem sub_list_set:isSubtype (.type "list") (.type "set")=pure false:=by rw[isSubtype_type]; kernel_rfl
theorem sub_list_frozenset:isSubtype (.type "list") (.type "frozenset")=pure false:=by rw[isSubtype_type]; kernel_rfl
section
variable {prog:Program} {w:World} {A:Around} {E:Value→Shared→Prop} {s:Shared}
theorem zN {x:Value} {Q₁:Value→Shared→Prop}
  (h:∀ led:Bool,Q₁ (.ref s.heap.objs.size) { s with heap:=s.heap.push { cls:=.type "set",dict:=none,data:=.set #[] 0 (.fresh 0 0 led) } }) :
  codeAny (model prog w) A (.call (.builtin "set.__new__") ⟨[.type "set",x],[]⟩) (wants Q₁ E) s:=by
 refine codeAny_of_tree ?_
 show wpAny _ A.in1 (do checkBuiltinCall "set.__new__" ⟨[.type "set",x],[]⟩; again (.builtin "set.__new__" ⟨[.type "set",x],[]⟩)) _ _ s
 refine wpAny_bind (wpAny_of_eq (newCall_set_1 x) (wpAny_pure ⟨plainId_quiet F.plain_set_new _,codeAny_builtin F.entry_set_new ?_⟩))
 rw[Around.under_plainId F.plain_set_new _]
 unfold Builtin.«set.__new__» Builtin.Frozenset.newClass
 have hsub:=sub_set_self
 obtain⟨hp,g,d,tk,os⟩:=s
 dsimp only
 wp_walk
 refine wpAny_askSetting (wpAny_pure ?_)
 dsimp only
 simp only [newObj]
 refine wpAny_bind (wpAny_alloc (wpAny_pure ?_))
 exact wpAny_pure (h _)
theorem yg {M:Model} {self x:Value} {Q:Unit→Shared→Prop} (hT:s.TypeIs self "set") (hQ:Q () s) :
  wpAny M A (checkBuiltinCall "set.__init__" ⟨[self,x],[]⟩) Q E s:=by
 simp only [checkBuiltinCall,kind_set_init,split_set_init,sig_set_init]
 refine wpAny_bind (wpAny_isInstance hT sub_set_self ?_)
 simp only [Bool.not_true,Bool.false_eq_true,if_false]
 unfold Bind.checkArgs
 dsimp only
 refine wpAny_bind (m:=Bind.printed "set" true _ _) (PyProof.Rows.printed_name (by decide) ?_)
 refine wpAny_bind (m:=Bind.printed "*" false _ _) (PyProof.Rows.printed_star (self:=self) rfl hT fun short=>?_)
 have hrn:(Manifest.Receiver.self == Manifest.Receiver.none)=false:=by decide
 have hn:(if (Manifest.Receiver.self == Manifest.Receiver.none)=true then [self,x].length else [self,x].length-1)=1:=by simp [hrn]
 rw[hn]
 simp only [List.map_nil]
 have hc:Bind.check ⟨.positional,"set","*",.self,[⟨"iterable",.posOnly,false⟩]⟩ "set" short 1 []=pure ():=by
  simp [Bind.check,Bind.checkCount,Bind.isPositional]
  intro h
  exact absurd h (by decide)
 rw[hc]
 exact wpAny_pure hQ
set_option maxHeartbeats 4000000 in
theorem call_set_1 {l:Addr} {its:List Value} {ns:List Int} {Q:Value→Shared→Prop} (hh:A.handled=none) (hl:s.heap.IsList l its.toArray) (hi:∀ (j:Nat) (v:Value),its[j]?=some v→∃ t,v=.int (ns.getD j 0) t) (hn:its.length=ns.length) (hb:ns.length<1000)
  (h:∀ h' tk,h'.SetOf (intKind prog w) s.heap.objs.size (ns.foldl addS (fun _=>false,0)).1 (ns.foldl addS (fun _=>false,0)).2→(∀ b o,s.heap.get? b=some o→h'.get? b=some o)→Q (.ref s.heap.objs.size) { s with heap:=h',toks:=tk }) :
  wpAny (model prog w) A (call (.type "set") [.ref l]) Q E s:=by
 obtain⟨c,tl,hmro⟩:=F.called_set.mro
 have hmade:=F.called_set.made
 have hsub:=F.called_set.sub
 refine wpAny_call (codeAny_of_tree ?_)
 show wpAny _ _ (callAny (.type "set") _) _ _ _
 refine wpAny_pure ⟨Code.quiet_builtin _ (by decide +kernel),codeAny_builtin F.entry_type_call ?_⟩
 rw[Around.under_plain (weight_type_call_type "set" [.ref l] []) rfl]
 have h1:=F.called_set.notType
 have h2:=F.called_set.canCreate
 have hct:=typeCall_set_1 (.ref l)
 repeat (any_goals (first | assumption | wp_step))
 refine codeAny_mono (zN (E:=E) (Q₁:=fun obj s₁=>∃ led:Bool,obj=.ref s.heap.objs.size∧s₁={ s with heap:=s.heap.push { cls:=.type "set",dict:=none,data:=.set #[] 0 (.fresh 0 0 led) } }) fun led=>⟨led,rfl,rfl⟩) fun r s₁ hr=>?_
 cases r with
 | error e=>exact hr
 | ok fl =>
  cases fl with
  | ret obj =>
   obtain⟨led,rfl,rfl⟩:=hr
   have hS:(s.heap.push { cls:=.type "set",dict:=none,data:=.set #[] 0 (.fresh 0 0 led) }).get? s.heap.objs.size=some { cls:=.type "set",dict:=none,data:=.set #[] 0 (.fresh 0 0 led) }:=Heap.get?_push_size _ rfl
   have hT:Shared.TypeIs { s with heap:=s.heap.push { cls:=.type "set",dict:=none,data:=.set #[] 0 (.fresh 0 0 led) } } (.ref s.heap.objs.size) "set":=⟨_,hS,rfl⟩
   have hli:=F.called_set.init.lookup
   have hbi:=F.called_set.init.bind (.ref s.heap.objs.size)
   repeat (any_goals (first | assumption | wp_step))
   refine codeAny_mono (codeAny_call_builtin (R:=wants (fun r s₂=>r=.none∧Q (.ref s.heap.objs.size) s₂) E) F.called_set.init.plain F.entry_set_init (yg hT ?_)) fun r₂ s₂ hr₂=>?_
   ·obtain⟨⟨cls,dd,data,sl⟩,ho,hc,nn,hd⟩:=hl.push { cls:=.type "set",dict:=none,data:=.set #[] 0 (.fresh 0 0 led) }
    simp only at hc hd
    subst hc hd
    have f1:=sub_list_set
    have f2:=sub_list_frozenset
    unfold Builtin.«set.__init__» noKeywords
    have hl':Heap.IsList (s.heap.push { cls:=.type "set",dict:=none,data:=.set #[] 0 (.fresh 0 0 led) }) l its.toArray:=hl.push _
    wp_walk using wpAny_loadPart' ho,wpAny_pyIter_list hl'
    have hlt:l<s.heap.objs.size:=by obtain⟨_,e,_⟩:=hl; exact Heap.lt_size e
    have hsz:(s.heap.push { cls:=.type "set",dict:=none,data:=.set #[] 0 (.fresh 0 0 led) }).objs.size=s.heap.objs.size+1:=Heap.size_push ..
    have hS0:Heap.SetOf (intKind prog w) (s.heap.push { cls:=.type "set",dict:=none,data:=.set #[] 0 (.fresh 0 0 led) }) s.heap.objs.size (fun _=>false) 0 :=
     ⟨_,#[],0,_,Heap.get?_push_size _ rfl,⟨rfl,rfl,rfl⟩,rfl,fun e he=>by simp at he,fun k=>by simp,by decide,by rfl,rfl⟩
    refine xW (Walks.list (A:=A.in1.in1.in1) hh _ l (by show l≠(s.heap.push _).objs.size; rw[hsz]; exact Nat.ne_of_lt (Nat.lt_succ_of_lt hlt)) its.toArray) s.heap.objs.size ?_ ?_ (fun j=>ns.getD j 0) (fun j v hP=>hi j v (by simpa using hP)) its.toArray.size 0 _ (fun _=>false,0) (Nat.sub_zero _) (Nat.zero_le _) ⟨⟨_,Heap.get?_push_size _ rfl,rfl,rfl⟩,hl'.push _⟩ ?_ ?_ ?_
    ·show s.heap.objs.size ∉ [(s.heap.push _).objs.size,l]
     rw[hsz]
     intro hm
     rcases List.mem_cons.mp hm with e | hm
     ·exact absurd e (Nat.ne_of_lt (Nat.lt_succ_self _))
     ·exact absurd (List.mem_singleton.mp hm) (Nat.ne_of_gt hlt)
    ·show s.heap.objs.size ∉ [(s.heap.push _).objs.size]
     rw[hsz]
     simp
    ·obtain⟨o,es,ep,t,ho',r⟩:=hS0
     exact⟨o,es,ep,t,Heap.get?_push_of_some _ ho',r⟩
    ·show 0+its.toArray.size<scanBound
     rw[List.size_toArray,hn]
     exact Nat.lt_of_lt_of_le (m:=1000) (by omega) (by decide)
    ·intro h' tk hS' hk
     have fe:((List.range its.toArray.size).drop 0).foldl (fun q j=>addS q (ns.getD j 0)) (fun _=>false,0)=ns.foldl addS (fun _=>false,0):=by
      rw[List.drop_zero,List.size_toArray,hn,← List.foldl_map (f:=fun j=>ns.getD j 0)]
      congr 1
      apply List.ext_getElem (by simp)
      intro i h1 h2
      simp [List.getD,h2]
     rw[fe] at hS'
     refine wpAny_pure (wpAny_pure ⟨rfl,h h' tk hS' fun b o e=>hk b o (fun hm=>?_) (Heap.get?_push_of_some _ (Heap.get?_push_of_some _ e))⟩)
     have lb:=Heap.lt_size e
     have hm':b∈[s.heap.objs.size,(s.heap.push { cls:=.type "set",dict:=none,data:=.set #[] 0 (.fresh 0 0 led) }).objs.size]:=hm
     rw[hsz] at hm'
     rcases List.mem_cons.mp hm' with z | z
     ·exact absurd lb (by rw[z]; exact Nat.lt_irrefl _)
     ·exact absurd lb (by rw[List.mem_singleton.mp z]; exact Nat.not_lt.mpr (Nat.le_succ _))
   ·cases r₂ with
    | error e=>exact hr₂
    | ok fl₂ =>
     cases fl₂ with
     | ret r =>
      obtain⟨rfl,hq⟩:=hr₂
      repeat (any_goals (first | assumption | wp_step))
     | _=>exact hr₂.elim
  | _=>exact hr.elim
end
end SetL
end PySem
namespace L2
open PySem PySem.Spec PyProof.Rows
section
variable {X:Cx}
theorem Be (hc:X.calm=true):qo X (.type "set") (fun xs H Q=>∃ (p:Addr) (ns:List Int),xs=[.ref p]∧SqL X.K H p (ns.map V.int)∧ns.length<1000∧∀ l,H l=none→Q (.ref l) (upd H l (.set (ns.foldl PySem.SetL.addS (fun _=>false,0)).1 (ns.foldl PySem.SetL.addS (fun _=>false,0)).2))):=by
 intro pins s σ H xs us Q I r h
 obtain⟨p,ns,rfl,hq,hb,q⟩:=h
 obtain⟨u,rfl,rx⟩:=vals1 r
 cases rx
 obtain⟨its,r',pl,hz⟩:=I.list hq
 have len:=r'.length
 rw[List.length_map] at len
 refine PySem.SetL.call_set_1 (I.ok.hd hc) pl.isList (fun j v e=>?_) len.symm hb fun h' tk hS hk=>?_
 ·obtain⟨hj,e'⟩:=List.getElem?_eq_some_iff.mp e
  rw[← e']
  exact yz r' hj
 ·exact⟨.ref s.heap.objs.size,_,I.laid (o:=.set _ _) hk (Nat.le_refl _) hS,rfl,q _ (I.hok.fresh (Nat.le_refl _))⟩
theorem zH:qo X (.builtin "len") (fun xs H Q=>∃ (p:Addr) (S:Int→Bool) (n:Nat),xs=[.ref p]∧H p=some (.set S n)∧Q (.int n) H):=by
 intro pins s σ H xs us Q I r h
 obtain⟨p,S,n,rfl,hp,q⟩:=h
 obtain⟨u,rfl,rx⟩:=vals1 r
 cases rx
 obtain⟨o,es,ep,t,ho,hex,hd,hel,hmem,hb,hf,hn⟩:=(show ObjOk X.prog X.w H s.heap p (.set S n) from I.hok p _ hp)
 refine PySem.call_len_set ho hex hd hf ?_ ⟨.int n,H,I.tok _,⟨_,by rw[hn]⟩,q⟩
 have:es.size<4096:=hb
 omega
end
mutual
inductive Rep (K:PySem.W.Frag) (H:Hp):V→PyData→Prop
 | non:Rep K H .non .none
 | bl (b:Bool):Rep K H (.bl b) (.bool b)
 | int (i:Int):Rep K H (.int i) (.int i)
 | str (z:Str):Rep K H (.str z) (.str z)
 | lst {a:Addr} {xs:List V} {ds:List PyData}:SqL K H a xs→RepAll K H xs ds→Rep K H (.ref a) (.list ds)
 | tup {a:Addr} {xs:List V} {ds:List PyData}:SqT K H a xs→RepAll K H xs ds→Rep K H (.ref a) (.tuple ds)
inductive RepAll (K:PySem.W.Frag) (H:Hp):List V→List PyData→Prop
 | nil:RepAll K H [] []
 | cons {x:V} {d:PyData} {xs:List V} {ds:List PyData}:Rep K H x d→RepAll K H xs ds→RepAll K H (x::xs) (d::ds)
end
theorem Az {K:PySem.W.Frag} {H H':Hp} {a:Addr} {xs:List V} (e:Same H H') (h:SqT K H a xs):SqT K H' a xs:=by
 rcases h with (h | ⟨o,h⟩) | h
 ·exact .inl (.inl (e _ _ h))
 ·exact .inl (.inr ⟨o,e _ _ h⟩)
 ·exact .inr h
end L2
namespace HT
open PySem PyProof.Rows PySem.SeqAt
section
variable {l b:Addr}
theorem wF {ns:List Int} {its:List Value} (r:L2.Vals (ns.map L2.V.int) its):IntsAre its ns:=L2.ints_are r
end
end HT
namespace L2
open PySem PySem.Spec PyProof.Rows
def iOr (w1 w2:TI):TI:=fun σ H R=>w1 σ H R∨w2 σ H R
theorem CU {X:Cx} {tg l:Expr} {w1 w2:TI} (h1:PI X tg l w1) (h2:PI X tg l w2):PI X tg l (iOr w1 w2):=fun pins s σ H R I h=>by
 rcases h with h | h
 ·exact h1 pins s σ H R I h
 ·exact h2 pins s σ H R I h
section
variable {K:PySem.W.Frag} {a:Addr} {g:TG} {tt:TT} {te:TE} {Q:VK} {H:Hp}
theorem wI {D:Addr} {τ:St} {H:Hp} {sq:Hp→List V→Prop} (xs:List V) (Pv:Nat→St→Hp→Prop) (h0:Pv 0 τ H) (hl:∀ i τ H,i≤xs.length→Pv i τ H→sq H xs)
  (hs:∀ i x T τ H (R:St→Hp→Prop),xs[i]?=some x→Pv i τ H→H T=none→(∀ τ' H',Pv (i+1) τ' H'→R τ' H')→uo D g tt te (.ref T) τ (upd H T (.tup [.int i,x])) R) (hd:∀ τ H,Pv xs.length τ H→Q (.ref D) H):u5 D (Ite sq) g tt te Q τ H:=by
 refine⟨fun i m τ H=>m=xs.length-i∧i≤xs.length∧Pv i τ H,⟨xs.length,by simp,Nat.zero_le _,h0⟩,?_⟩
 rintro i m τ H2 ⟨rfl,hi,p⟩
 have q:=hl i τ H2 hi p
 by_cases hlt:i<xs.length
 ·have hx:xs[i]?=some xs[i]:=by simp [hlt]
  refine .inr ⟨⟨xs,_,q,hx⟩,fun x H' y=>?_⟩
  obtain⟨T,v,hT,e1,e2,y1⟩:=y
  subst e1 e2
  exact hs i _ T τ _ (fun τ' H'=>∃ m',m'<xs.length-i∧m'=xs.length-(i+1)∧i+1≤xs.length∧Pv (i+1) τ' H') (y1 xs q) p hT fun τ' H' p'=>⟨_,by omega,rfl,hlt,p'⟩
 ·have e:i=xs.length:=by omega
  subst e
  exact .inl ⟨⟨xs,q,Nat.le_refl _⟩,hd τ H2 p⟩
theorem xE (xs:List V) (hq:Sq K H a xs) (ix:St) (Pv:Addr→Nat→St→Hp→Prop) (h0:∀ D,H D=none→Pv D 0 ix (upd H D (.lst []))) (hl:∀ D i τ H',H D=none→Pv D i τ H'→Same H H')
  (hs:∀ D i x T τ H' (R:St→Hp→Prop),H D=none→xs[i]?=some x→Pv D i τ H'→H' T=none→(∀ τ' H',Pv D (i+1) τ' H'→R τ' H')→uo D g tt te (.ref T) τ (upd H' T (.tup [.int i,x])) R) (hd:∀ D τ H',H D=none→Pv D xs.length τ H'→Q (.ref D) H') :
  ((∃ xs,SqL K H a xs)∧∀ D,H D=none→u5 D (Ite fun H xs=>SqL K H a xs) g tt te Q ix (upd H D (.lst [])))∨((∃ xs,SqT K H a xs)∧∀ D,H D=none→u5 D (Ite fun H xs=>SqT K H a xs) g tt te Q ix (upd H D (.lst []))):=by
 rcases hq with hq | hq
 ·exact .inl ⟨⟨_,hq⟩,fun D hD=>wI xs (Pv D) (h0 D hD) (fun i τ H' _ p=>(hl D i τ H' hD p).seq hq) (fun i x T τ H' R hx p hT nx=>hs D i x T τ H' R hD hx p hT nx) (fun τ H'=>hd D τ H' hD)⟩
 ·exact .inr ⟨⟨_,hq⟩,fun D hD=>wI xs (Pv D) (h0 D hD) (fun i τ H' _ p=>Az (hl D i τ H' hD p) hq) (fun i x T τ H' R hx p hT nx=>hs D i x T τ H' R hD hx p hT nx) (fun τ H'=>hd D τ H' hD)⟩
end
section
variable {prog:Program} {w:World} {A:Around} {E:Value→Shared→Prop} {s:Shared} {z TI TO i1 i2:Addr}
abbrev zmA (h:Heap) (l1:Addr):Heap:=h.push { cls:=.type "list_iterator",data:=.fields #[.ref l1,.int 0 0] }
abbrev zmB (h:Heap) (l1 l2:Addr):Heap:=(zmA h l1).push { cls:=.type "list_iterator",data:=.fields #[.ref l2,.int 0 0] }
abbrev zmC (h:Heap) (l1 l2:Addr):Heap:=(zmB h l1 l2).push { cls:=.type "tuple",data:=.seq #[.ref h.objs.size,.ref (zmA h l1).objs.size] }
abbrev zmD (h:Heap) (l1 l2:Addr):Heap:=(zmC h l1 l2).push { cls:=.type "tuple",data:=.seq #[.none,.none] }
abbrev zmE (h:Heap) (l1 l2:Addr):Heap:=(zmD h l1 l2).push { cls:=.type "zip",data:=.fields #[.none,.bool false,.bool false,.ref (zmB h l1 l2).objs.size,.ref (zmC h l1 l2).objs.size] }
def B3 (h:Heap) (l1 l2:Addr) (h':Heap):Prop:=IsZip h' (h.objs.size+4) (h.objs.size+2) (h.objs.size+3) .none∧IsPair h' (h.objs.size+2) (.ref h.objs.size) (.ref (h.objs.size+1))∧IsPair h' (h.objs.size+3) .none .none ∧
 h'.IsListIter h.objs.size l1 0∧h'.IsListIter (h.objs.size+1) l2 0∧∀ c o,h.get? c=some o→h'.get? c=some o
theorem Fb (h:Heap) (l1 l2:Addr):(zmD h l1 l2).objs.size=h.objs.size+4∧B3 h l1 l2 (zmE h l1 l2):=by
 have a:(zmA h l1).objs.size=h.objs.size+1:=Heap.size_push ..
 have b:(zmB h l1 l2).objs.size=h.objs.size+2:=by rw[Heap.size_push,a]
 have c:(zmC h l1 l2).objs.size=h.objs.size+3:=by rw[Heap.size_push,b]
 have d:(zmD h l1 l2).objs.size=h.objs.size+4:=by rw[Heap.size_push,c]
 have p5:(zmE h l1 l2).get? (zmD h l1 l2).objs.size=some _:=Heap.get?_push_size _ rfl
 have p4:(zmE h l1 l2).get? (zmC h l1 l2).objs.size=some _:=Heap.get?_push_of_some _ (Heap.get?_push_size _ rfl)
 have p3:(zmE h l1 l2).get? (zmB h l1 l2).objs.size=some _:=Heap.get?_push_of_some _ (Heap.get?_push_of_some _ (Heap.get?_push_size _ rfl))
 have p2:(zmE h l1 l2).get? (zmA h l1).objs.size=some _:=Heap.get?_push_of_some _ (Heap.get?_push_of_some _ (Heap.get?_push_of_some _ (Heap.get?_push_size _ rfl)))
 have p1:(zmE h l1 l2).get? h.objs.size=some _:=Heap.get?_push_of_some _ (Heap.get?_push_of_some _ (Heap.get?_push_of_some _ (Heap.get?_push_of_some _ (Heap.get?_push_size _ rfl))))
 rw[b,c,d] at p5
 rw[c] at p4
 rw[a,b] at p3
 rw[a] at p2
 exact⟨d,p5,p3,p4,⟨_,p1,rfl,rfl⟩,⟨_,p2,rfl,rfl⟩,fun c o x=>Heap.get?_push_of_some _ (Heap.get?_push_of_some _ (Heap.get?_push_of_some _ (Heap.get?_push_of_some _ (Heap.get?_push_of_some _ x))))⟩
theorem Aj (l1 l2:Addr) (xs ys:Array Value) :
  Meets (Builtin.«zip.__new__» ⟨[.type "zip",.ref l1,.ref l2],[]⟩) (fun _ R s=>s.heap.IsList l1 xs∧s.heap.IsList l2 ys∧R (.ok (.ret (.ref (zmD s.heap l1 l2).objs.size))) { s with heap:=zmE s.heap l1 l2 }) :=
 .of_wp fun prog w A R s h=>by
  obtain⟨hp,g,d,tk,os⟩:=s
  obtain⟨hl1,hl2,h⟩:=h
  have hsub:=sub_zip
  have hL1:Heap.IsList (Shared.heap ⟨hp,g,d,tk,os⟩) l1 xs:=hl1
  have hL2:Heap.IsList (Shared.heap ⟨hp.push { cls:=.type "list_iterator",data:=.fields #[.ref l1,.int 0 0] },g,d,tk,os⟩) l2 ys:=by
   obtain⟨o,ho,q⟩:=hl2
   exact⟨o,Heap.get?_push_of_some _ ho,q⟩
  wp_walk using wpAny_pyIter_list hL1,wpAny_pyIter_list hL2
  exact⟨_,rfl,h⟩
theorem A8 {l1 l2:Addr} {xs ys:Array Value} {Q:Value→Shared→Prop} (hl1:s.heap.IsList l1 xs) (hl2:s.heap.IsList l2 ys) (h:∀ h',B3 s.heap l1 l2 h'→Q (.ref (s.heap.objs.size+4)) { s with heap:=h' }) :
  wpAny (model prog w) A (call (.type "zip") [.ref l1,.ref l2]) Q E s:=by
 obtain⟨e,N⟩:=Fb s.heap l1 l2
 refine callType_new F.called_zip (by decide) (F.typeCall_zip_2 _ _) (F.newCall_zip_2 _ _) (fun obj=>F.args_object_init_3 obj _ _) F.entry_zip_new (Aj l1 l2 xs ys) ⟨hl1,hl2,?_⟩
 show _∧_
 rw[e]
 exact⟨⟨_,N.1,rfl⟩,h _ N⟩
end
def E9 (K:PySem.W.Frag) (a b:Addr):It:=⟨fun i H=>∃ xs ys x y,SqL K H a xs∧SqL K H b ys∧xs[i]?=some x∧ys[i]?=some y,
 fun i H x H'=>∃ T u v,H T=none∧x=.ref T∧H'=upd H T (.tup [u,v])∧(∀ xs,SqL K H a xs→xs[i]?=some u)∧∀ ys,SqL K H b ys→ys[i]?=some v,
 fun i H=>∃ xs ys,SqL K H a xs∧SqL K H b ys∧xs.length=ys.length∧xs.length=i⟩
theorem DC {P:Program} {w:World} {K:PySem.W.Frag} {elts:List Expr} {kk:Nat} {pos:Pos} (a b z TI TO i1 i2:Addr) (ap:Apart z TI TO i1 i2 [i1,a] [i2,b]) (ha:a≠i1) (hb:b≠i2) :
  Turn P w K (.Tuple elts kk pos) (E9 K a b) [z,TI,TO,i1,i2] z (fun i h=>IsZip h z TI TO .none∧IsPair h TI (.ref i1) (.ref i2)∧(∃ u v,IsPair h TO u v)∧h.IsListIter i1 a i∧h.IsListIter i2 b i) where
 mem:=by simp
 obj:=fun i h st c hc=>by
  obtain⟨hz,hTI,⟨u,v,hTO⟩,⟨o1,e1,_,d1⟩,⟨o2,e2,_,d2⟩⟩:=st
  simp only [List.mem_cons,List.not_mem_nil,or_false] at hc
  rcases hc with rfl | rfl | rfl | rfl | rfl
  ·exact⟨_,hz,fun v z=>by cases z⟩
  ·exact⟨_,hTI,fun v z=>by cases z⟩
  ·exact⟨_,hTO,fun v z=>by cases z⟩
  ·exact⟨_,e1,fun v z=>by rw[d1] at z; cases z⟩
  ·exact⟨_,e2,fun v z=>by rw[d2] at z; cases z⟩
 keep:=fun i h h' st k=>by
  obtain⟨hz,hTI,⟨u,v,hTO⟩,h1,h2⟩:=st
  exact⟨k _ (by simp) _ hz,k _ (by simp) _ hTI,⟨u,v,k _ (by simp) _ hTO⟩,h1.at fun o q=>k i1 (by simp) o q,h2.at fun o q=>k i2 (by simp) o q⟩
 item:=by
  intro X hP hw hK hc i pins s σ H E I hf st hg
  subst hP hw hK
  obtain⟨xs,ys,x,y,hq1,hq2,hx,hy⟩:=hg
  obtain⟨hz,hTI,⟨u,v,hTO⟩,h1,h2⟩:=st
  obtain⟨t1,r1,p1,z1⟩:=I.list hq1
  obtain⟨t2,r2,p2,z2⟩:=I.list hq2
  obtain⟨u1,hu1,ru1⟩:=r1.get hx
  obtain⟨u2,hu2,ru2⟩:=r2.get hy
  have e1:t1.toArray[i]?=some u1:=by simpa using hu1
  have e2:t2.toArray[i]?=some u2:=by simpa using hu2
  have D1:=Draws.list (prog:=X.prog) (w:=X.w) (A:=X.A.in1) (show X.A.in1.handled=none from I.ok.hd hc) i1 a ha t1.toArray
  have D2:=Draws.list (prog:=X.prog) (w:=X.w) (A:=X.A.in1) (show X.A.in1.handled=none from I.ok.hd hc) i2 b hb t2.toArray
  have hT:s.TypeIs (.ref z) "zip":=⟨_,hz,rfl⟩
  have zl:z<s.heap.objs.size:=Heap.lt_size hz
  have lt:∀ {c:Addr} {o:Obj},s.heap.get? c=some o→c≠s.heap.objs.size:=fun e=>Nat.ne_of_lt (Heap.lt_size e)
  unfold pyNext
  refine wpAny_bind (wpAny_attempt (wpAny_callSpecial?_slot (name:=Str.ofString "__next__") hT F.slot_zip_next
   (wpAny_call_entry F.slot_zip_next hT F.entry_zip_next (Dn D1 D2 ap hz hTI hTO ⟨h1,p1.isList⟩ ⟨h2,p2.isList⟩ (Array.getElem?_eq_some_iff.mp e1).1 (Array.getElem?_eq_some_iff.mp e2).1
    fun h' tk x' y' px py a1 a2 s1 s2 a5 hk=>wpAny_pure ⟨_,rfl,?_⟩) (F.args_zip_next_1 _))))
  rw[e1] at px
  cases px
  rw[e2] at py
  cases py
  refine wpAny_letOwnedTupleGo_zip a1 fun g2 hz2 hs2=>?_
  have hT2:g2.get? s.heap.objs.size=some { cls:=.type "tuple",data:=.seq #[u1,u2] }:=(hs2.2 _ (lt hz).symm).trans a5
  have hf':H s.heap.objs.size=none:=I.hok.fresh (Nat.le_refl _)
  have nzTI:=ap.zTI
  have nzTO:=ap.zTO
  have nz1:z≠i1:=(kB ap.m1 ap.z1).symm
  have nz2:z≠i2:=(kB ap.m2 ap.z2).symm
  refine⟨.ref s.heap.objs.size,upd H s.heap.objs.size (.tup [x,y]),?_,rfl,⟨_,x,y,hf',rfl,rfl,fun ys hy=>by rw[I.list_inj hy hq1]; exact hx,fun ys hy'=>by rw[I.list_inj hy' hq2]; exact hy⟩,
   ⟨hz2,hs2.extBut _ _ nzTI.symm (hk _ _ nzTI.symm ap.TITO ap.TI1 ap.TI2 hTI),⟨_,_,hs2.extBut _ _ nzTO.symm a2⟩,s1.1.at fun o q=>hs2.extBut _ _ nz1.symm q,s2.1.at fun o q=>hs2.extBut _ _ nz2.symm q⟩,fun c hc=>?_⟩
  ·exact I.drew (ch:=[z,TI,TO,i1,i2]) (tk:=tk) hf (fun c o hc q=>hs2.extBut _ _ (fun e=>hc (by simp [e])) (hk c o (fun e=>hc (by simp [e])) (fun e=>hc (by simp [e])) (fun e=>hc (by simp [e])) (fun e=>hc (by simp [e])) q)) (Nat.le_refl _) (yP ru1 ru2 hT2)
  ·have hn:c≠s.heap.objs.size:=by
    obtain⟨o1,g1,_⟩:=h1
    obtain⟨o2,g2,_⟩:=h2
    simp only [List.mem_cons,List.not_mem_nil,or_false] at hc
    rcases hc with rfl | rfl | rfl | rfl | rfl
    ·exact lt hz
    ·exact lt hTI
    ·exact lt hTO
    ·exact lt g1
    ·exact lt g2
   rw[fj hn]
   exact (hf c hc).1
 done:=by
  intro X hP hw hK hc i pins s σ H E I hf st hg
  subst hP hw hK
  obtain⟨xs,ys,hq1,hq2,hl,hi⟩:=hg
  obtain⟨hz,hTI,⟨u,v,hTO⟩,h1,h2⟩:=st
  obtain⟨t1,r1,p1,z1⟩:=I.list hq1
  obtain⟨t2,r2,p2,z2⟩:=I.list hq2
  have l1:=r1.length
  have D1:=Draws.list (prog:=X.prog) (w:=X.w) (A:=X.A.in1) (show X.A.in1.handled=none from I.ok.hd hc) i1 a ha t1.toArray
  have D2:=Draws.list (prog:=X.prog) (w:=X.w) (A:=X.A.in1) (show X.A.in1.handled=none from I.ok.hd hc) i2 b hb t2.toArray
  have hT:s.TypeIs (.ref z) "zip":=⟨_,hz,rfl⟩
  unfold pyNext
  refine wpAny_bind (wpAny_attempt (wpAny_callSpecial?_slot (name:=Str.ofString "__next__") hT F.slot_zip_next
   (wpAny_call_entry F.slot_zip_next hT F.entry_zip_next (Ej D1 D2 ap hz hTI hTO ⟨h1,p1.isList⟩ ⟨h2,p2.isList⟩ (.inl (by rw[List.size_toArray]; omega)) fun h' tk e hk he=>?_) (F.args_zip_next_1 _))))
  obtain⟨o,ho,hc'⟩:=he
  refine wpAny_bind (wpAny_isInstance (T:="StopIteration") (b:=true) ⟨o,ho,hc'⟩ isSubtype_stop ?_)
  exact wpAny_pure ⟨rfl,I.turns (ch:=[z,TI,TO,i1,i2]) (tk:=tk) hf fun c o hc q=>hk c o (fun e=>hc (by simp [e])) (fun e=>hc (by simp [e])) (fun e=>hc (by simp [e])) (fun e=>hc (by simp [e])) q⟩
 self:=fun A i s Q E st h=>wpAny_pyIter_zip st.1 h
def Fy (K:PySem.W.Frag) (ta:TA):TI:=fun σ H R=>ta σ H fun vs H1=>∃ a b,vs=[.ref a,.ref b]∧(∃ xs,SqL K H1 a xs)∧(∃ ys,SqL K H1 b ys)∧R (E9 K a b) H1
theorem BG {X:Cx} {elts:List Expr} {kk:Nat} {tpos:Pos} {a b:Expr} {ta:TA} {p pos:Pos} (hg:Gl X "zip") (hm:X.mg "zip"=none) (ha:PA X [a,b] ta) (hs:starEach [a,b] X.env=[(false,eval a X.env),(false,eval b X.env)]:=by rfl) (hs2:starEach [b] X.env=[(false,eval b X.env)]:=by rfl) :
  PI X (.Tuple elts kk tpos) (.Call (.Name "zip" p) [a,b] [] pos) (Fy X.K ta):=by
 intro pins s σ H R I h
 refine Call_ (uz I hg hm FP (PyProof.Rows.callWith_type1 (thn (ha pos pins s σ H _ I h) fun us s1 ⟨vs,H1,I1,r1,q1⟩=>?_) (by rw[hs,hs2]) (by rw[hs2]; rfl)))
 obtain⟨l1,l2,e,⟨xs,hq1⟩,⟨ys,hq2⟩,q⟩:=q1
 subst e
 cases r1 with
 | cons r rr =>
  cases rr with
  | cons r' rr =>
   cases rr
   cases r
   cases r'
   obtain⟨t1,v1,p1,z1⟩:=I1.list hq1
   obtain⟨t2,v2,p2,z2⟩:=I1.list hq2
   have lt1:l1<s1.heap.objs.size:=by obtain⟨o,ho,_⟩:=p1.isList; exact Heap.lt_size ho
   have lt2:l2<s1.heap.objs.size:=by obtain⟨o,ho,_⟩:=p2.isList; exact Heap.lt_size ho
   refine A8 p1.isList p2.isList fun h' N=>?_
   obtain⟨hz,hTI,hTO,h1,h2,hk⟩:=N
   refine wpAny_pyIter_zip hz ?_
   refine⟨_,[s1.heap.objs.size+4,s1.heap.objs.size+2,s1.heap.objs.size+3,s1.heap.objs.size,s1.heap.objs.size+1],_,_,H1,rfl,I1.kept (t':=s1.toks) hk,
    DC l1 l2 _ _ _ _ _ (DB _ _ _ lt1 lt2) (Nat.ne_of_lt lt1) (Nat.ne_of_lt (Nat.lt_succ_of_lt lt2)),⟨hz,hTI,⟨_,_,hTO⟩,h1,h2⟩,fun c hc=>?_,q⟩
   have le:s1.heap.objs.size≤c:=by
    simp only [List.mem_cons,List.not_mem_nil,or_false] at hc
    rcases hc with rfl | rfl | rfl | rfl | rfl
    ·exact Nat.le_add_right _ _
    ·exact Nat.le_add_right _ _
    ·exact Nat.le_add_right _ _
    ·exact Nat.le_refl _
    ·exact Nat.le_add_right _ _
   exact I1.fpOk le (I1.hok.fresh le)
theorem ym {K:PySem.W.Frag} {D a b:Addr} {g:TG} {tt:TT} {te:TE} {Q:VK} {τ:St} {H:Hp} (xs ys:List V) (len:xs.length=ys.length) (Pv:Nat→St→Hp→Prop) (h0:Pv 0 τ H)
  (hl:∀ i τ H,i≤xs.length→Pv i τ H→SqL K H a xs∧SqL K H b ys)
  (hs:∀ i x y T τ H (R:St→Hp→Prop),xs[i]?=some x→ys[i]?=some y→Pv i τ H→H T=none→(∀ τ' H',Pv (i+1) τ' H'→R τ' H')→uo D g tt te (.ref T) τ (upd H T (.tup [x,y])) R) (hd:∀ τ H,Pv xs.length τ H→Q (.ref D) H):u5 D (E9 K a b) g tt te Q τ H:=by
 refine⟨fun i m τ H=>m=xs.length-i∧i≤xs.length∧Pv i τ H,⟨xs.length,by simp,Nat.zero_le _,h0⟩,?_⟩
 rintro i m τ H2 ⟨rfl,hi,p⟩
 obtain⟨q1,q2⟩:=hl i τ H2 hi p
 by_cases hlt:i<xs.length
 ·have hx:xs[i]?=some xs[i]:=by simp [hlt]
  have hlt2:i<ys.length:=by omega
  have hy:ys[i]?=some ys[i]:=by simp [hlt2]
  refine .inr ⟨⟨xs,ys,_,_,q1,q2,hx,hy⟩,fun x H' y=>?_⟩
  obtain⟨T,u,v,hT,e1,e2,y1,y2⟩:=y
  subst e1 e2
  exact hs i _ _ T τ _ (fun τ' H'=>∃ m',m'<xs.length-i∧m'=xs.length-(i+1)∧i+1≤xs.length∧Pv (i+1) τ' H') (y1 xs q1) (y2 ys q2) p hT fun τ' H' p'=>⟨_,by omega,rfl,hlt,p'⟩
 ·have e:i=xs.length:=by omega
  subst e
  exact .inl ⟨⟨xs,ys,q1,q2,len,rfl⟩,hd τ H2 p⟩
section
variable {X:Cx}
def HY (cs:List Nat) (lo hi:Option Int):List Nat:=(cs.drop (HT.sIx cs.length 0 lo)).take (HT.sIx cs.length cs.length hi-HT.sIx cs.length 0 lo)
end
structure Mk0 (K:PySem.W.Frag) (C:Addr):Prop where
 makes:PySem.W.makesIn K C=true
 init:PySem.W.findIn K (.ref C) "__init__"=some (some (.builtin "object.__init__"))
 kp:PySem.W.keepIn K (.ref C)=true
structure MkC (P:Program) (w:World) (K:PySem.W.Frag) (mg:Str→Option Value) (base:Heap) (x:Str) (C:Addr) (k:Nat) (ps:List Str) (sp:Sp):Prop where
 ex:∃ f fd,Mk K C f∧FnOk P w K mg base CX0 k f fd ps sp∧Binds K fd ps []
 at_:mg x=some (.ref C)
section
variable {X:Cx} {C:Addr} {x:Str} {j k:Nat} {ps:List Str} {sp:Sp} {p pos apos:Pos} {e o:Expr} {es:List Expr} {t:TA} {ta:TE} {m:Str}
structure Disp (P:Program) (w:World) (K:PySem.W.Frag) (mg:Str→Option Value) (base:Heap) (m:Str) (k:Nat) (ps:List Str) (C:Addr) (sp:Sp):Prop where
 cls:Cls K C
 ex:∃ f fd,Meth K C m f∧FnOk P w K mg base CX0 k f fd ps sp∧Binds K fd ps []
end
structure ICls (K:PySem.W.Frag) (C:Addr):Prop where
 cl:Cls K C
 ha:PySem.W.findIn K (.ref C) "__class__"=some (some (.builtin "object.__class__"))
 hn:PySem.W.specialIn K (.builtin "object.__class__") "__get__"=some (some (.builtin "getset_descriptor.__get__"))
 htk:PySem.W.takesIn K (.builtin "object.__class__")=some true
 hm:PySem.W.mroIn K C (.type "object")=some true
end L2
namespace HT
open PySem PySem.Spec PyProof.Rows
section
variable {prog:Program} {w:World} {A:Around} {E:Value→Shared→Prop} {s:Shared}
theorem xJ (xs:List Value):∀ k,k≤xs.length→(List.range k).filterMap (fun (m:Nat)=>xs.toArray[(((xs.length:Nat):Int)-1+(m:Int) * -1).toNat]?)=xs.reverse.take k
 | 0,_=>rfl
 | k+1,h=>by
  rw[List.range_succ,List.filterMap_append,xJ xs k (by omega),List.take_add_one]
  congr 1
  have e:(((xs.length:Nat):Int)-1+(k:Int) * -1).toNat=xs.length-1-k:=by omega
  rw[List.getElem?_reverse (by omega)]
  simp only [List.filterMap_cons,List.filterMap_nil,e,List.getElem?_toArray]
  rw[List.getElem?_eq_getElem (show xs.length-1-k<xs.length by omega)]
  rfl
theorem pick_turn (xs:List Value):((List.range xs.length).filterMap fun (m:Nat)=>xs.toArray[(((xs.length:Nat):Int)-1+(m:Int) * -1).toNat]?).toArray=xs.reverse.toArray:=by
 rw[xJ xs xs.length (Nat.le_refl _),List.take_of_length_le (by rw[List.length_reverse]; exact Nat.le_refl _)]
end
end HT
namespace L2
open PySem PySem.Spec PyProof.Rows
theorem zZ {X:Cx} {K:PySem.W.Frag} (h:X.K=K):SlR X (EV K):=by subst h; exact Gj
structure CompOkC (X:Cx) (scope:Scope) (y:Str) (cl:List (Str×Addr)) (N':List Str) (ix:List Nat) (nl:Nat):Prop where
 clos:closureFor scope X.env=pure cl
 sub:∀ z c,cl.lookup z=some c→X.env.cells.lookup z=some c
 has:∀ p∈(relabel scope X.env).names,(p.2=.cell∨p.2=.free)→(((y,0)::cl).lookup p.1).isSome=true
 lay:∀ n,cellsFrom n scope.names cl=(y,n)::cl
 push:∀ h:Heap,pushCells h scope.names=h.push { cls:=.type "cell",data:=.cell none }
 kind:scope.kind=.function
 names:∀ z∈scope.names,z.2=.local→scope.names.lookup z.1=some .local
 len:N'.length=ix.length+nl
 out:∀ (i j:Nat) (x:Str),ix[i]?=some j→N'[i]?=some x→(x == y)=false∧X.N[j]?=some x∧(X.env.kindOf x=some .cell∨X.env.kindOf x=some .free)∧((relabel scope X.env).names.lookup x=some .cell∨(relabel scope X.env).names.lookup x=some .free)
def OutsOkC (X:Cx) (scope:Scope) (y:Str):List Nat→List Str→Prop
 | [],_=>True
 | j::r,x::t=>((x == y)=false∧X.N[j]?=some x∧(X.env.kindOf x=some .cell∨X.env.kindOf x=some .free)∧((relabel scope X.env).names.lookup x=some .cell∨(relabel scope X.env).names.lookup x=some .free))∧OutsOkC X scope y r t
 | _::_,[]=>False
theorem OutsOkC.at {X:Cx} {scope:Scope} {y:Str}:∀ {ix:List Nat} {N:List Str},OutsOkC X scope y ix N→∀ (i j:Nat) (x:Str),ix[i]?=some j→N[i]?=some x→(x == y)=false∧X.N[j]?=some x∧(X.env.kindOf x=some .cell∨X.env.kindOf x=some .free)∧((relabel scope X.env).names.lookup x=some .cell∨(relabel scope X.env).names.lookup x=some .free)
 | [],_,_,i,j,y,h1,_=>by simp at h1
 | _::_,[],h,_,_,_,_,_=>h.elim
 | _::_,_::_,h,0,j,y,h1,h2=>by
  simp at h1 h2
  subst h1 h2
  exact h.1
 | _::_,_::_,h,i+1,j,y,h1,h2=>OutsOkC.at h.2 i j y (by simpa using h1) (by simpa using h2)
def IsRvd (h:Heap) (a l:Addr) (i:Int):Prop:=∃ o,h.get? a=some o∧o.cls=.type "reversed"∧o.data=.fields #[.ref l,rawInt i]
section
variable {prog:Program} {w:World} {A:Around} {E:Value→Shared→Prop} {s:Shared}
theorem IsRvd.at {h h':Heap} {a l:Addr} {i:Int} (x:IsRvd h a l i) (e:∀ o,h.get? a=some o→h'.get? a=some o):IsRvd h' a l i:=let ⟨o,ho,r⟩:=x; ⟨o,e _ ho,r⟩
end
section
variable {κ:Type} [DecidableEq κ]
def valV (kvs:List (κ×V)) (k:κ):Option V:=(kvs.find? fun kv=>decide (kv.1=k)).map (·.2)
def putK (kvs:List (κ×V)) (k:κ) (v:V):List (κ×V) :=
 if (kvs.any fun kv=>decide (kv.1=k))=true then kvs.map (fun kv=>if kv.1=k then (kv.1,v) else kv) else kvs++[(k,v)]
def FE (kvs:List (κ×V)) (k:κ):List (κ×V):=kvs.filter fun kv=>decide (kv.1≠k)
theorem pC {p:κ×V} {r:List (κ×V)} {k:κ} (e:p.1=k):valV (p::r) k=some p.2:=by simp [valV,List.find?_cons,e]
theorem rj {p:κ×V} {r:List (κ×V)} {k:κ} (e:¬ p.1=k):valV (p::r) k=valV r k:=by simp [valV,List.find?_cons,e]
theorem uD (k:κ):∀ kvs:List (κ×V),(kvs.any fun kv=>decide (kv.1=k))=(valV kvs k).isSome
 | []=>rfl
 | p::r=>by
  rw[List.any_cons]
  by_cases e:p.1=k
  ·simp only [pC e,decide_eq_true e,Bool.true_or,Option.isSome_some]
  ·rw[rj e,decide_eq_false e,Bool.false_or]; exact uD k r
theorem Aq (k j:κ) (y:V):∀ kvs:List (κ×V),valV (kvs.map fun kv=>if kv.1=k then (kv.1,y) else kv) j=(valV kvs j).map fun x=>if j=k then y else x
 | []=>rfl
 | p::r=>by
  have ih:=Aq k j y r
  rw[List.map_cons]
  by_cases h:p.1=k
  ·rw[if_pos h]
   by_cases e:p.1=j
   ·rw[pC (p:=(p.1,y)) e,pC e,Option.map_some,if_pos (e.symm.trans h)]
   ·rw[rj (p:=(p.1,y)) e,rj e,ih]
  ·rw[if_neg h]
   by_cases e:p.1=j
   ·rw[pC (p:=p) e,pC e,Option.map_some,if_neg (fun z=>h (e.trans z))]
   ·rw[rj (p:=p) e,rj e,ih]
theorem zC (k j:κ) (y:V):∀ kvs:List (κ×V),valV kvs k=none→valV (kvs++[(k,y)]) j=if j=k then some y else valV kvs j
 | [],_=>by
  by_cases e:k=j
  ·rw[if_pos e.symm]; exact pC (p:=(k,y)) e
  ·rw[if_neg (fun z=>e z.symm)]; exact rj (p:=(k,y)) e
 | p::r,hn=>by
  rw[List.cons_append]
  have hk:¬ p.1=k:=fun z=>by rw[pC z] at hn; cases hn
  rw[rj hk] at hn
  have ih:=zC k j y r hn
  by_cases e:p.1=j
  ·rw[pC e,pC e,if_neg (fun z=>hk (e.trans z))]
  ·rw[rj e,rj e,ih]
theorem Af (kvs:List (κ×V)) (k j:κ) (y:V):valV (putK kvs k y) j=if j=k then some y else valV kvs j:=by
 unfold putK
 by_cases a:(kvs.any fun kv=>decide (kv.1=k))=true
 ·rw[if_pos a,Aq]
  rw[uD] at a
  by_cases e:j=k
  ·obtain⟨x,hx⟩:=Option.isSome_iff_exists.mp a
   rw[if_pos e,e,hx,Option.map_some,if_pos rfl]
  ·rw[if_neg e]
   cases valV kvs j with
   | none=>rfl
   | some x=>rw[Option.map_some,if_neg e]
 ·rw[if_neg a]
  refine zC k j y kvs ?_
  rw[uD] at a
  cases q:valV kvs k with
  | none=>rfl
  | some x=>rw[q] at a; exact (a rfl).elim
theorem uA (kvs:List (κ×V)) (k:κ) (v:V):(putK kvs k v).length≤kvs.length+1:=by
 unfold putK
 split
 ·rw[List.length_map]; omega
 ·rw[List.length_append,List.length_cons,List.length_nil]; omega
theorem vV {kvs:List (κ×V)} {k:κ} (v:V) (h:valV kvs k=none):putK kvs k v=kvs++[(k,v)]:=by
 unfold putK
 rw[uD,h]
 exact if_neg (by decide)
theorem RelO.isSome_eq {o:Option V} {u:Option Value} (r:RelO o u):o.isSome=u.isSome:=by
 cases o with
 | none=>cases u with
  | none=>rfl
  | some _=>exact (show False from r).elim
 | some _=>cases u with
  | none=>exact (show False from r).elim
  | some _=>rfl
theorem RelO.getD {o:Option V} {u:Option Value} {d:V} {d':Value} (r:RelO o u) (rd:RelV d d'):RelV (o.getD d) (u.getD d'):=by
 cases o with
 | none=>cases u with
  | none=>exact rd
  | some _=>exact (show False from r).elim
 | some _=>cases u with
  | none=>exact (show False from r).elim
  | some _=>exact r
theorem KV.val {kvs:List (κ×V)} {vs:List (κ×Value)} (r:KV kvs vs) (k:κ):RelO (valV kvs k) (valueAt vs k):=by
 unfold KV at r
 induction r with
 | nil=>exact True.intro
 | @cons p q ps qs h t ih =>
  obtain⟨h1,h2⟩:=h
  by_cases e:p.1=k
  ·have e':q.1=k:=h1.symm.trans e
   have b:valueAt (q::qs) k=some q.2:=by simp [valueAt,List.find?_cons,e']
   rw[pC e,b]; exact h2
  ·have e':¬ q.1=k:=fun z=>e (h1.trans z)
   have b:valueAt (q::qs) k=valueAt qs k:=by simp [valueAt,List.find?_cons,e']
   rw[rj e,b]; exact ih
theorem KV.any {kvs:List (κ×V)} {vs:List (κ×Value)} (r:KV kvs vs) (k:κ):(kvs.any fun kv=>decide (kv.1=k))=vs.any fun kv=>decide (kv.1=k):=by
 unfold KV at r
 induction r with
 | nil=>rfl
 | cons h t ih=>rw[List.any_cons,List.any_cons,ih,h.1]
theorem KV.repl {kvs:List (κ×V)} {vs:List (κ×Value)} (r:KV kvs vs) (k:κ) {y:V} {u:Value} (ry:RelV y u) :
  KV (kvs.map fun kv=>if kv.1=k then (kv.1,y) else kv) (vs.map fun kv=>if kv.1=k then (kv.1,u) else kv):=by
 unfold KV at r ⊢
 induction r with
 | nil=>exact .nil
 | @cons p q ps qs h t ih =>
  rw[List.map_cons,List.map_cons]
  refine .cons ?_ ih
  obtain⟨h1,h2⟩:=h
  by_cases e:p.1=k
  ·rw[if_pos e,if_pos (h1.symm.trans e)]; exact⟨h1,ry⟩
  ·rw[if_neg e,if_neg (fun z=>e (h1.trans z))]; exact⟨h1,h2⟩
theorem KV.put {kvs:List (κ×V)} {vs:List (κ×Value)} (r:KV kvs vs) (k:κ) {y:V} {u:Value} (ry:RelV y u):KV (putK kvs k y) (stored vs k u):=by
 unfold putK stored
 rw[r.any k]
 by_cases e:(vs.any fun kv=>decide (kv.1=k))=true
 ·rw[if_pos e,if_pos e]; exact r.repl k ry
 ·rw[if_neg e,if_neg e]; exact Paired.snoc r ⟨rfl,ry⟩
theorem KV.drop {kvs:List (κ×V)} {vs:List (κ×Value)} (r:KV kvs vs) (k:κ):KV (FE kvs k) (without vs k):=by
 unfold KV at r ⊢
 unfold FE without
 induction r with
 | nil=>exact .nil
 | @cons p q ps qs h t ih =>
  obtain⟨h1,h2⟩:=h
  rw[List.filter_cons,List.filter_cons]
  by_cases e:p.1=k
  ·have a:¬ decide (p.1≠k)=true:=by simp [e]
   have b:¬ decide (q.1≠k)=true:=by simp [h1.symm.trans e]
   rw[if_neg a,if_neg b]; exact ih
  ·have e':¬ q.1=k:=fun z=>e (h1.trans z)
   have a:decide (p.1≠k)=true:=by simp [e]
   have b:decide (q.1≠k)=true:=by simp [e']
   rw[if_pos a,if_pos b]; exact .cons ⟨h1,h2⟩ ih
theorem KV.keys {kvs:List (κ×V)} {vs:List (κ×Value)} (r:KV kvs vs):kvs.map (·.1)=vs.map (·.1):=by
 unfold KV at r
 induction r with
 | nil=>rfl
 | cons h t ih=>rw[List.map_cons,List.map_cons,ih,h.1]
theorem KV.length {kvs:List (κ×V)} {vs:List (κ×Value)} (r:KV kvs vs):kvs.length=vs.length:=Paired.length r
end
theorem wu {P:Program} {w:World} {k:Key} {u:Value} (r:RelV (kV k) u):(mU P w).is k u=true:=by
 cases k with
 | inl i=>obtain⟨t,e⟩:=(show ∃ t,u=Value.int i t from r); subst e; exact Bd P w i t
 | inr x=>obtain⟨t,e⟩:=(show ∃ t,u=Value.str x t from r); subst e; exact AX P w x t
theorem zD {P:Program} {w:World}:∀ {ks:List Key} {us:List Value},Vals (ks.map kV) us→ItemsAre (mU P w) ks us
 | [],_,r=>by rw[List.map_nil] at r; cases r; exact .nil
 | k::ks,_,r=>by
  rw[List.map_cons] at r
  cases r with
  | cons h t=>exact .cons (wu h) (zD t)
abbrev KT (H:Hp):List (List Key×V)→List (List Key×Addr×Value)→Prop:=Paired fun p q=>p.1=q.1∧H q.2.1=some (.tup (p.1.map kV))∧RelV p.2 q.2.2
theorem KT.val {H:Hp} {kvs:List (List Key×V)} {xs:List (List Key×Addr×Value)} (r:KT H kvs xs) (k:List Key):RelO (valV kvs k) ((atKey xs k).map (·.2)):=by
 induction r with
 | nil=>exact True.intro
 | @cons p q ps qs h t ih =>
  obtain⟨h1,_,h2⟩:=h
  by_cases e:p.1=k
  ·have e':q.1=k:=h1.symm.trans e
   have b:atKey (q::qs) k=some q.2:=by simp [atKey,List.find?_cons,e']
   rw[pC e,b]; exact h2
  ·have e':¬ q.1=k:=fun z=>e (h1.trans z)
   have b:atKey (q::qs) k=atKey qs k:=by simp [atKey,List.find?_cons,e']
   rw[rj e,b]; exact ih
theorem KT.repl {H:Hp} {kvs:List (List Key×V)} {xs:List (List Key×Addr×Value)} (r:KT H kvs xs) (k:List Key) {y:V} {u:Value} (ry:RelV y u) :
  KT H (kvs.map fun kv=>if kv.1=k then (kv.1,y) else kv) (xs.map (putAt k u)):=by
 induction r with
 | nil=>exact .nil
 | @cons p q ps qs h t ih =>
  rw[List.map_cons,List.map_cons]
  refine .cons ?_ ih
  obtain⟨h1,h2,h3⟩:=h
  unfold putAt
  by_cases e:p.1=k
  ·rw[if_pos e,if_pos (h1.symm.trans e)]; exact⟨h1,h2,ry⟩
  ·rw[if_neg e,if_neg (fun z=>e (h1.trans z))]; exact⟨h1,h2,h3⟩
theorem KT.put {H:Hp} {kvs:List (List Key×V)} {xs:List (List Key×Addr×Value)} (r:KT H kvs xs) (k:List Key) {b:Addr} {y:V} {u:Value} (hb:H b=some (.tup (k.map kV))) (ry:RelV y u) :
  KT H (putK kvs k y) (storedH xs k b u):=by
 have e:(kvs.any fun kv=>decide (kv.1=k))=(atKey xs k).isSome:=by
  rw[uD,(r.val k).isSome_eq,Option.isSome_map]
 unfold putK storedH
 rw[e]
 by_cases q:(atKey xs k).isSome=true
 ·rw[if_pos q,if_pos q]; exact r.repl k ry
 ·rw[if_neg q,if_neg q]; exact Paired.snoc r ⟨rfl,hb,ry⟩
theorem KT.keeps {H H':Hp} {kvs:List (List Key×V)} {xs:List (List Key×Addr×Value)} (r:KT H kvs xs) (ht:∀ b ys,H b=some (.tup ys)→H' b=some (.tup ys)):KT H' kvs xs :=
 Paired.mapP r fun _ _ z=>⟨z.1,ht _ _ z.2.1,z.2.2⟩
section
variable {P:Program} {w:World} {H:Hp} {h:Heap} {a:Addr}
theorem FA {u:HO} (ok:HOk P w H h) (e:Rd H a u):ObjOk P w H h a u:=e.ok ok
theorem vK {kvs:List (Key×V)} (ok:HOk P w H h) (e:Rd H a (.dK kvs)):kvs.length≤sizeLine∧(a == sysModules)=false∧∃ vs,KV kvs vs∧h.DictOf (mU P w) a vs :=
 show ObjOk P w H h a (.dK kvs) from FA ok e
theorem FT {kvs:List (Key×V)} (ok:HOk P w H h) (e:H a=some (.dK kvs)):kvs.length≤sizeLine∧(a == sysModules)=false∧∃ vs,KV kvs vs∧h.DictOf (mU P w) a vs:=vK ok (.inl e)
theorem wB {ks:List Key} (ok:HOk P w H h) (e:H a=some (.tup (ks.map kV))):(tupleKind (mU P w)).is h ks a:=by
 obtain⟨_,its,r,⟨o,h1,h2,n,h3⟩,_⟩:=(show ObjOk P w H h a (.tup (ks.map kV)) from ok a _ e)
 exact⟨o,its.toArray,n,h1,h2,h3,by simpa using zD r⟩
theorem xw {kvs:List (List Key×V)} (ok:HOk P w H h) (e:Rd H a (.dT kvs)):kvs.length≤sizeLine∧(a == sysModules)=false ∧
  ∃ xs,KT H kvs xs∧h.DictOfH (tupleKind (mU P w)) a xs:=by
 obtain⟨z,y,xs,r,o,es,ep,h1,h2,h3,h4,h5⟩:=(show ObjOk P w H h a (.dT kvs) from FA ok e)
 refine⟨z,y,xs,r,o,es,ep,h1,h2,h3,h4,fun x hx=>?_,h5⟩
 have all:∀ {l:List (List Key×V)} {m:List (List Key×Addr×Value)},KT H l m→∀ x∈m,(tupleKind (mU P w)).is h x.1 x.2.1:=by
  intro l m q
  induction q with
  | nil=>intro x hx; exact nomatch hx
  | @cons p q ps qs hq t ih =>
   intro x hx
   rcases List.mem_cons.mp hx with e | hx
   ·subst e
    exact wB ok (by rw[← hq.1]; exact hq.2.1)
   ·exact ih x hx
 exact all r x hx
theorem Iv {kvs:List (List Key×V)} (ok:HOk P w H h) (e:H a=some (.dT kvs)):kvs.length≤sizeLine∧(a == sysModules)=false ∧
  ∃ xs,KT H kvs xs∧h.DictOfH (tupleKind (mU P w)) a xs:=xw ok (.inl e)
end
def DGet (H:Hp) (a:Addr) (y:V) (r:Option V):Prop :=
 (∃ kvs k,Rd H a (.dK kvs)∧y=kV k∧r=valV kvs k)∨∃ kvs k b,Rd H a (.dT kvs)∧y=.ref b∧H b=some (.tup (k.map kV))∧r=valV kvs k
def DPut (H:Hp) (a:Addr) (y v:V) (H':Hp):Prop :=
 (∃ kvs k,H a=some (.dK kvs)∧y=kV k∧kvs.length<sizeLine∧H'=upd H a (.dK (putK kvs k v))) ∨
 ∃ kvs k b,H a=some (.dT kvs)∧y=.ref b∧H b=some (.tup (k.map kV))∧kvs.length<sizeLine∧H'=upd H a (.dT (putK kvs k v))
theorem DGet.k {H:Hp} {a:Addr} {kvs:List (Key×V)} {k:Key} (e:H a=some (.dK kvs)):DGet H a (kV k) (valV kvs k):=.inl ⟨kvs,k,.inl e,rfl,rfl⟩
theorem DGet.t {H:Hp} {a b:Addr} {kvs:List (List Key×V)} {k:List Key} (e:H a=some (.dT kvs)) (eb:H b=some (.tup (k.map kV))):DGet H a (.ref b) (valV kvs k):=.inr ⟨kvs,k,b,.inl e,rfl,eb,rfl⟩
theorem DPut.k {H:Hp} {a:Addr} {kvs:List (Key×V)} {k:Key} {v:V} (e:H a=some (.dK kvs)) (hl:kvs.length<sizeLine):DPut H a (kV k) v (upd H a (.dK (putK kvs k v))):=.inl ⟨kvs,k,e,rfl,hl,rfl⟩
theorem DPut.t {H:Hp} {a b:Addr} {kvs:List (List Key×V)} {k:List Key} {v:V} (e:H a=some (.dT kvs)) (eb:H b=some (.tup (k.map kV))) (hl:kvs.length<sizeLine) :
  DPut H a (.ref b) v (upd H a (.dT (putK kvs k v))):=.inr ⟨kvs,k,b,e,rfl,eb,hl,rfl⟩
section
variable {X:Cx} {pins:List (Addr×Obj)} {σ:St} {H:Hp} {s:Shared} {a:Addr} {y v:V} {u r:Value} {o:Option V} {A:Around} {E:Value→Shared→Prop}
theorem Inv.big (I:Inv X pins σ H s):sysModules<s.heap.objs.size:=by
 have h:mainGlobals<s.heap.objs.size:=(I.mod.glob.keeps I.bk).lt
 exact Nat.lt_trans (by decide) h
theorem Du {Q:Value→Shared→Prop} (hu:A.units+1<cLine) (I:Inv X pins σ H s) (g:DGet H a y (some v)) (ry:RelV y u) (h:∀ w' s',Inv X pins σ H s'→RelV v w'→Q w' s') :
  wpAny (model X.prog X.w) A (getItem (.ref a) u) Q E s:=by
 rcases g with ⟨kvs,k,e,ey,l⟩ | ⟨kvs,k,b,e,ey,eb,l⟩
 ·subst ey
  obtain⟨z,hd,vs,rel,dd⟩:=vK I.hok e
  obtain⟨w',hw,rw'⟩:=RelO.some_of (v:=v) (o:=valueAt vs k) (by rw[l]; exact rel.val k)
  exact wpAny_getItem_of (wu ry) dd.mapOf hw (h w' _ (I.tok _) rw')
 ·subst ey
  cases (show u=Value.ref b from ry)
  obtain⟨z,hd,xs,rel,dd⟩:=xw I.hok e
  obtain⟨w',hw,rw'⟩:=RelO.some_of (v:=v) (o:=(atKey xs k).map (·.2)) (by rw[l]; exact rel.val k)
  obtain⟨p,hp,hp2⟩:=Option.map_eq_some_iff.mp hw
  refine wpAny_getItem_heap (tupleKind_room_in1 hu) (wB I.hok eb) dd hp ?_
  rw[hp2]
  exact h w' _ (I.tok _) rw'
theorem Gw {Q:Value→Shared→Prop} (hu:A.units+1<cLine) (I:Inv X pins σ H s) (g:DGet H a y o) (ry:RelV y u) (h:∀ s',Inv X pins σ H s'→Q (.bool (!o.isSome)) s') :
  wpAny (model X.prog X.w) A (compareOp .NotIn u (.ref a)) Q E s:=by
 rcases g with ⟨kvs,k,e,ey,l⟩ | ⟨kvs,k,b,e,ey,eb,l⟩
 ·subst ey
  obtain⟨z,hd,vs,rel,dd⟩:=vK I.hok e
  refine wpAny_notIn_of (wu ry) hd dd.mapOf ?_
  rw[← (rel.val k).isSome_eq,← l]
  exact h _ (I.tok _)
 ·subst ey
  cases (show u=Value.ref b from ry)
  obtain⟨z,hd,xs,rel,dd⟩:=xw I.hok e
  refine wpAny_notIn_heap (tupleKind_room_in1 hu) (wB I.hok eb) hd dd ?_
  have q:=(rel.val k).isSome_eq
  rw[Option.isSome_map] at q
  rw[← q,← l]
  exact h _ (I.tok _)
theorem yH {h':Heap} {t':Nat} {ob:HO} (I:Inv X pins σ H s) (mu:Mut (H a)) (hs:Heap.SameBut a s.heap h') (he:∃ q,h'.get? a=some q) (new:ObjOk X.prog X.w (upd H a ob) h' a ob) :
  Inv X pins σ (upd H a ob) { s with heap:=h',toks:=t' } :=
 I.write (x:=a) (e:=a) mu (.inl rfl) (fun b q hb z=>(hs.2 b hb).trans z) he new
theorem Al {P:Program} {w:World} {H':Hp} {h':Heap} {kvs:List (Key×V)} {vs:List (Key×Value)} (z:kvs.length≤sizeLine) (hd:(a == sysModules)=false) (rel:KV kvs vs) (dd:h'.DictOf (mU P w) a vs) :
  ObjOk P w H' h' a (.dK kvs):=⟨z,hd,vs,rel,dd⟩
theorem DL {H':Hp} {Q:Unit→Shared→Prop} (hu:A.units+1<cLine) (I:Inv X pins σ H s) (g:DPut H a y v H') (ry:RelV y u) (rv:RelV v r) (h:∀ s',Inv X pins σ H' s'→Q () s') :
  wpAny (model X.prog X.w) A (setItem (.ref a) u r) Q E s:=by
 rcases g with ⟨kvs,k,e,ey,l,eH⟩ | ⟨kvs,k,b,e,ey,eb,l,eH⟩
 ·subst ey eH
  obtain⟨z,hd,vs,rel,dd⟩:=FT I.hok e
  have hz:vs.length≤sizeLine:=by rw[← rel.length]; exact z
  have hl:(putK kvs k v).length≤sizeLine:=by have:=uA kvs k v; omega
  refine wpAny_setItem_pairs (hsz:=hz) (wu ry) dd fun h' dd' hs=>h _ ?_
  have he:∃ q,h'.get? a=some q:=let ⟨q,_,_,hq,_⟩:=dd'; ⟨q,hq⟩
  exact yH I (by rw[e]; exact True.intro) hs he (Al hl hd (rel.put k rv) dd')
 ·subst ey eH
  cases (show u=Value.ref b from ry)
  obtain⟨z,hd,xs,rel,dd⟩:=Iv I.hok e
  have hz:xs.length≤sizeLine:=by rw[← Paired.length rel]; exact z
  have hl:(putK kvs k v).length≤sizeLine:=by have:=uA kvs k v; omega
  refine wpAny_setItem_heap (hsz:=hz) (tupleKind_room_in1 hu) (wB I.hok eb) dd fun h' dd' hs=>h _ ?_
  obtain⟨q,es,ep,hq,h2,h3,h4,_,h5⟩:=dd'
  refine yH I (by rw[e]; exact True.intro) hs ⟨q,hq⟩ ⟨hl,hd,_,(rel.put k eb rv).keeps fun c ys ec=>?_,q,es,ep,hq,h2,h3,h4,h5⟩
  rw[fj (Cg ec e (fun z=>nomatch z))]
  exact ec
end
def Hl (i:Expr):Prop:=∀ ov iv,subscripted i false ov iv=operate [ov,iv] (getItem ov iv)
theorem Ge {prog:Program} {w:World} {A:Around} {E:Value→Shared→Prop} {s:Shared} {env:Env} {value slice:Expr} {pos:Pos} {T id:String} {Q:Value→Shared→Prop}
  (hl:typeLookup (.type T) "__getitem__"=pure (some (.builtin id))) (hs:Hl slice)
  (h:wpAny (model prog w) A (eval value env) (fun o s₁=>wpAny (model prog w) A (eval slice env) (fun i s₂=>s₂.TypeIs o T∧wpAny (model prog w) A (getItem o i) Q E s₂) E s₁) E s) :
  wpAny (model prog w) A (eval (.Subscript value slice pos) env) Q E s:=by
 refine Subscript_ (wpAny_mono h (fun o s₁ h₁=>wpAny_mono h₁ (fun i s₂ h₂=>?_) fun _ _ x=>x) fun _ _ x=>x)
 obtain⟨hT,h₂⟩:=h₂
 unfold subscriptTail
 refine wpAny_bind ?_
 rw[getitemInPython_of_ne hT.not_modules]
 refine wpAny_bind (wpAny_specialOf hT hl ?_)
 have fin:wpAny (model prog w) A (subscripted slice false o i) (fun r s₃=>wpAny (model prog w) A (letTemporaryGo value o r >>= fun _=>pure r) Q E s₃) E s₂:=by
  rw[hs o i]
  exact wpAny_operating (wpAny_mono h₂ (fun r s₃ h₃=>wpAny_bind (wpAny_letTemporaryGo (wpAny_pure h₃))) fun _ _ x=>x)
 first
  | exact wpAny_pure (wpAny_bind fin)
  | exact wpAny_bind (wpAny_pure (wpAny_bind fin))
  | exact wpAny_bind fin
theorem A7 {X:Cx} {pins:List (Addr×Obj)} {σ:St} {H:Hp} {s:Shared} {a:Addr} {y:V} {o:Option V} (I:Inv X pins σ H s) (g:DGet H a y o):s.TypeIs (.ref a) "dict":=by
 rcases g with ⟨kvs,k,e,_,_⟩ | ⟨kvs,k,b,e,_,_,_⟩
 ·obtain⟨_,_,vs,_,dd⟩:=vK I.hok e
  exact dd.typeIs
 ·obtain⟨_,_,xs,_,dd⟩:=xw I.hok e
  exact dd.typeIs
def Ff (td ty:TE):TE:=fun σ H Q=>td σ H fun x H1=>ty σ H1 fun y H2=>∃ a v,x=.ref a∧DGet H2 a y (some v)∧Q v H2
def BQ (ty td:TE):TE:=fun σ H Q=>ty σ H fun y H1=>td σ H1 fun x H2=>∃ a o,x=.ref a∧DGet H2 a y o∧Q (.bl (!o.isSome)) H2
def Fz (td ty tv:TE):TS:=fun D σ H=>tv σ H fun v H1=>td σ H1 fun x H2=>ty σ H2 fun y H3=>∃ a H4,x=.ref a∧DPut H3 a y v H4∧D.nx σ H4
section
variable {X:Cx} {o i e value:Expr} {pos pos' tpos:Pos} {td ty tv:TE}
theorem yM (hu:X.A.units+1<cLine) (ho:PE X o td) (hi:PE X i ty) (hs:Hl i):PE X (.Subscript o i pos) (Ff td ty):=by
 intro pins s σ H Q I h
 refine Ge PySem.F.slot_dict_getitem.lookup hs (thn (ho pins s σ H _ I h) fun u s1 ⟨x,H1,I1,rx,q1⟩=>thn (hi pins s1 σ H1 _ I1 q1) fun iv s2 ⟨y,H2,I2,ry,a,v,ex,g,q2⟩=>?_)
 subst ex
 obtain rfl:u=Value.ref a:=rx
 exact⟨A7 I2 g,Du hu I2 g ry fun w' s3 I3 rw'=>⟨v,H2,I3,rw',q2⟩⟩
theorem DK (hu:X.A.units+1<cLine) (hi:PE X i ty) (ho:PE X o td):PC X .NotIn i o (BQ ty td):=by
 intro pins s σ H Q I h
 refine thn (hi pins s σ H _ I h) fun iv s1 ⟨y,H1,I1,ry,q1⟩=>thn (ho pins s1 σ H1 _ I1 q1) fun u s2 ⟨x,H2,I2,rx,a,ov,ex,g,q2⟩=>?_
 subst ex
 obtain rfl:u=Value.ref a:=rx
 exact Gw hu I2 g ry fun s3 I3=>⟨.bl (!ov.isSome),H2,I3,rfl,q2⟩
theorem BI (hu:X.A.units+1<cLine) (ho:PE X o td) (hi:PE X i ty) (hv:PE X value tv) (hs:swapsWith value (some (.Subscript o i pos')) pos.line X.env=pure false) :
  PS X (.Assign [.Subscript o i pos'] value pos) (Fz td ty tv):=by
 intro pins s σ H D I h
 refine wpAny_Assign_Subscript (thn (hv pins s σ H _ I h) fun r s1 ⟨v,H1,I1,rv,q1⟩=>thn (ho pins s1 σ H1 _ I1 q1) fun u s2 ⟨x,H2,I2,rx,q2⟩=>thn (hi pins s2 σ H2 _ I2 q2) fun iv s3 ⟨y,H3,I3,ry,a,H4,ex,g,q3⟩=>?_) hs
 subst ex
 obtain rfl:u=Value.ref a:=rx
 exact DL hu I3 g ry rv fun s4 I4=>⟨σ,H4,I4,q3⟩
end
theorem EO {P:Program} {w:World} {H:Hp} (h:Heap) (hb:sysModules<h.objs.size):ObjOk P w H (h.push { cls:=.type "dict",data:=.dict #[] }) h.objs.size (.dK []) :=
 ⟨Nat.zero_le _,beq_eq_false_iff_ne.mpr (Ne.symm (Nat.ne_of_lt hb)),[],.nil,Heap.DictOf.new h⟩
def DV:TE:=fun _ H Q=>∀ p,H p=none→Q (.ref p) (upd H p (.dK []))
section
variable {X:Cx} {pos:Pos}
theorem Et:PE X (.Dict [] [] pos) DV:=fun pins s σ H Q I h =>
 wpAny_Dict_empty ⟨.ref s.heap.objs.size,_,I.laid (a:=s.heap.objs.size) (o:=.dK []) (t':=s.toks) (fun _ _ q=>Heap.get?_push_of_some _ q) (Nat.le_refl _) (EO s.heap I.big),rfl,h _ (I.hok.fresh (Nat.le_refl _))⟩
end
structure M1 (X:Cx) (o:Expr) (m:Str) (apos:Pos) (e:Expr) (cpos:Pos):Prop where
 base:attributeBase o m X.env (eval o X.env)=eval o X.env
 few:((backTo cpos (starEach [e] X.env)).all (fun x=>!x.1) && (backToKw cpos (keywordEach [] X.env)).all (fun x=>x.1.isSome)
  && decide (([e]:List Expr).length+([]:List Keyword).length+(if ([]:List Keyword).isEmpty then 0 else 1)<30))=true
 line:(apos.endLine == cpos.line)=true
 trees:backTo cpos (starEach [e] X.env)=[(false,eval e X.env)]
structure M2 (X:Cx) (o:Expr) (m:Str) (apos:Pos) (e f:Expr) (cpos:Pos):Prop where
 base:attributeBase o m X.env (eval o X.env)=eval o X.env
 few:((backTo cpos (starEach [e,f] X.env)).all (fun x=>!x.1) && (backToKw cpos (keywordEach [] X.env)).all (fun x=>x.1.isSome)
  && decide (([e,f]:List Expr).length+([]:List Keyword).length+(if ([]:List Keyword).isEmpty then 0 else 1)<30))=true
 line:(apos.endLine == cpos.line)=true
 trees:backTo cpos (starEach [e,f] X.env)=[(false,eval e X.env),(false,eval f X.env)]
def IsD (H:Hp) (a:Addr):Prop:=(∃ kvs,Rd H a (.dK kvs))∨∃ kvs,Rd H a (.dT kvs)
theorem C2 {X:Cx} {pins:List (Addr×Obj)} {σ:St} {H:Hp} {s:Shared} {a:Addr} (I:Inv X pins σ H s) (d:IsD H a) :
  s.TypeIs (.ref a) "dict"∧(∀ b,Value.ref a=.ref b→∃ ob,s.heap.get? b=some ob∧ob.dict=none)∧(a == sysModules)=false:=by
 rcases d with ⟨kvs,e⟩ | ⟨kvs,e⟩
 ·obtain⟨_,hd,vs,_,dd⟩:=vK I.hok e
  refine⟨dd.typeIs,fun b q=>?_,hd⟩
  cases q
  obtain⟨ob,_,_,h1,h2,_⟩:=dd
  exact⟨ob,h1,h2.2.1⟩
 ·obtain⟨_,hd,xs,_,dd⟩:=xw I.hok e
  refine⟨dd.typeIs,fun b q=>?_,hd⟩
  cases q
  obtain⟨ob,_,_,h1,h2,_⟩:=dd
  exact⟨ob,h1,h2.2.1⟩
section
variable {X:Cx} {pins:List (Addr×Obj)} {σ:St} {H:Hp} {s:Shared} {a:Addr} {y d:V} {u r:Value} {o:Option V} {A:Around} {E:Value→Shared→Prop}
theorem Hj {Q:Value→Shared→Prop} (hu:A.units+1<cLine) (I:Inv X pins σ H s) (g:DGet H a y o) (ry:RelV y u) (rd:RelV d r) (h:∀ w' s',Inv X pins σ H s'→RelV (o.getD d) w'→Q w' s') :
  wpAny (model X.prog X.w) A (call (.builtin "dict.get") [.ref a,u,r]) Q E s:=by
 rcases g with ⟨kvs,k,e,ey,l⟩ | ⟨kvs,k,b,e,ey,eb,l⟩
 ·subst ey
  obtain⟨z,hd,vs,rel,dd⟩:=vK I.hok e
  refine call_meetsIn PySem.F.slot_dict_get dd.typeIs PySem.F.entry_dict_get (PySem.F.args_dict_get_3 _ _ _) (meets_dict_get_default (mU X.prog X.w) a (wu ry) hd r) ⟨_,dd.mapOf,h _ _ (I.tok _) ?_⟩
  rw[l]
  exact (rel.val k).getD rd
 ·subst ey
  cases (show u=Value.ref b from ry)
  obtain⟨z,hd,xs,rel,dd⟩:=xw I.hok e
  refine call_meetsIn PySem.F.slot_dict_get dd.typeIs PySem.F.entry_dict_get (PySem.F.args_dict_get_3 _ _ _) (meetsH_dict_get_default (tupleKind (mU X.prog X.w)) a b hd r) ⟨tupleKind_room_in1 hu,k,xs,wB I.hok eb,dd,h _ _ (I.tok _) ?_⟩
  rw[l]
  exact (rel.val k).getD rd
end
def Ea (td ty tx:TE):TE:=fun σ H Q=>td σ H fun x H1=>∃ a,x=.ref a∧IsD H1 a∧ty σ H1 fun y H2=>tx σ H2 fun z H3=>∃ o,DGet H3 a y o∧Q (o.getD z) H3
section
variable {X:Cx} {o e f:Expr} {apos cpos:Pos} {td ty tx:TE}
theorem Ek (hu:X.A.units+1<cLine) (ho:PE X o td) (he:PE X e ty) (hf:PE X f tx) (m:M2 X o "get" apos e f cpos):PE X (.Call (.Attribute o "get" apos) [e,f] [] cpos) (Ea td ty tx):=by
 intro pins s σ H Q I h
 refine wpAny_Call_method m.base m.few m.line PySem.F.plainAttrs_dict PySem.F.slot_dict_get PySem.F.type_dict_get (thn (ho pins s σ H _ I h) fun u s1 ⟨x,H1,I1,rx,a,ex,d,q1⟩=>?_)
 subst ex
 obtain rfl:u=Value.ref a:=rx
 obtain⟨t1,t2,_⟩:=C2 I1 d
 refine⟨t1,t2,?_⟩
 rw[m.trees]
 refine Calls.callWith_builtin rfl (Calls.evalArgs_plain (Calls.spliced_cons (thn (he pins s1 σ H1 _ I1 q1) fun iv s2 ⟨y,H2,I2,ry,q2⟩ =>
  Calls.spliced_cons (thn (hf pins s2 σ H2 _ I2 q2) fun fv s3 ⟨z,H3,I3,rz,ov,g,q3⟩=>Calls.spliced_nil ?_))))
 exact Hj hu I3 g ry rz fun w' s4 I4 rw'=>⟨_,H3,I4,rw',q3⟩
end
section
variable {κ:Type} [DecidableEq κ]
theorem xS {kvs:List (κ×V)} {k:κ} (h:valV kvs k=none):¬ k∈kvs.map (·.1):=by
 intro m
 obtain⟨p,hp,e⟩:=List.mem_map.mp m
 have q:(kvs.any fun kv=>decide (kv.1=k))=true:=List.any_eq_true.mpr ⟨p,hp,decide_eq_true e⟩
 rw[uD,h] at q
 exact absurd q (by simp)
theorem zg {kvs:List (κ×V)} {k:κ} {v:V} (h:valV kvs k=some v):k∈kvs.map (·.1):=by
 have q:(kvs.any fun kv=>decide (kv.1=k))=true:=by
  rw[uD,h]
  all_goals rfl
 obtain⟨p,hp,e⟩:=List.any_eq_true.mp q
 exact List.mem_map.mpr ⟨p,hp,of_decide_eq_true e⟩
theorem xh:∀ {l:List κ} {k:κ},l.Nodup→¬ k∈l→(l++[k]).Nodup
 | [],k,_,_=>by simp
 | a::r,k,h,hk=>by
  obtain⟨h1,h2⟩:=List.nodup_cons.mp h
  show (a::(r++[k])).Nodup
  refine List.nodup_cons.mpr ⟨fun m=>?_,xh h2 fun m=>hk (List.mem_cons.mpr (Or.inr m))⟩
  rcases List.mem_append.mp m with q | q
  ·exact h1 q
  ·exact hk (List.mem_cons.mpr (Or.inl (List.mem_singleton.mp q).symm))
theorem GQ {kvs:List (κ×V)} {k:κ} (v:V) (hn:(kvs.map (·.1)).Nodup) (h:valV kvs k=none):((putK kvs k v).map (·.1)).Nodup:=by
 rw[vV v h,List.map_append]
 exact xh hn (xS h)
end
def KEnt (P:Params):List DictEntry→List (Str×V)→Prop
 | [],[]=>True
 | e::es,kv::r=>(∃ t,e.key=.str kv.1 t)∧e.hash=PyData.keyHash P kv.1∧RelV kv.2 e.val∧KEnt P es r
 | _,_=>False
structure KDct (P:Params) (K:PySem.W.Frag) (a:Addr) (kvs:List (Str×V)):Prop where
 sm:(a == sysModules)=false
 nd:(kvs.map (·.1)).Nodup
 ob:∃ es ep,K.lookup a=some ⟨.type "dict",none,.dict es ep,#[]⟩∧KEnt P es.toList kvs
end L2
namespace PySem
open Sem (wp)
namespace DictL
section
variable {prog:Program} {w:World} {A:Around} {E:Value→Shared→Prop} {s:Shared}
theorem Gd:typeLookup (.type "list") (Str.ofString "__getattribute__")=pure (some (.builtin "list.__getattribute__")):=by kernel_rfl
theorem zq:typeLookup (.type "list") (Str.ofString "keys")=pure none:=by kernel_rfl
theorem GP {l:Addr} {xs:Array Value} {n:Nat} {sl:Array (Option Value)} {t:Tok} {R:Result→Shared→Prop} (ho:s.heap.get? l=some { cls:=.type "list",dict:=none,data:=.seq xs n,slots:=sl }) (hh:A.handled=none)
  (h:∀ h' tk e,s.heap.NewAttrErr h' e (.ref l) (Str.ofString "keys")→R (.error (.ref e)) { s with heap:=h',toks:=tk }):codeAny (model prog w) A (.call (.builtin "list.__getattribute__") ⟨[.ref l,.str (Str.ofString "keys") t],[]⟩) R s :=
 codeAny_call_builtin F.slot_list_getattribute.plain am_entry_list_getattribute (F.slot_list_getattribute.check _ _ _ _ _ _ _ _ ⟨_,ho,rfl⟩ (F.args_list_getattribute_2 _ _)
  (meets_getattribute_miss_list l xs n sl (Str.ofString "keys") t zq (by decide) (by decide) prog w A R s ⟨ho,hh,h⟩))
theorem yY {l:Addr} {xs:Array Value} {n:Nat} {sl:Array (Option Value)} {Q:Option Value→Shared→Prop} (ho:s.heap.get? l=some { cls:=.type "list",dict:=none,data:=.seq xs n,slots:=sl }) (hh:A.handled=none)
  (h:∀ h' tk,(∀ b o,s.heap.get? b=some o→h'.get? b=some o)→Q none { s with heap:=h',toks:=tk }):wpAny (model prog w) A (getAttr? (.ref l) (Str.ofString "keys")) Q E s:=by
 have hT:s.TypeIs (.ref l) "list":=⟨_,ho,rfl⟩
 unfold getAttr? mkText getAttrBy? getAttrBy getAttrByItsOwn hookBefore callGetattribute getattributeRaised
 have h1:=Gd
 have h2:=zq
 wp_walk
 refine wpAny_of_eq (F.slot_list_getattribute.bind _) ?_
 dsimp only
 refine wpAny_call (GP ho hh fun h' tk e ne=>?_)
 obtain⟨kp,nw,t,u,he⟩:=ne
 have h3:=sub_AttributeError
 have h4:=am_list_getattr_none
 dsimp only
 unfold hookBehind hookOrError attributeErrorLeaves
 wp_walk
 exact h h' tk kp
end
theorem pair_items {M:Model} {A:Around} {E:Value→Shared→Prop} {s:Shared} {b:Addr} {o:Obj} {m:Nat} {x y:Value} {Q:List Value→Shared→Prop} (ho:s.heap.get? b=some o) (hc:o.cls=.type "tuple") (hd:o.data=.seq #[x,y] m) (h:Q [x,y] s):wpAny M A (Builtin.Dict.pairItems (.ref b)) Q E s:=by
 unfold Builtin.Dict.pairItems
 have hT:s.TypeIs (.ref b) "tuple":=⟨_,ho,hc⟩
 refine wpAny_bind (wpAny_typeOf hT ?_)
 rw[if_pos (by decide)]
 refine wpAny_bind (wpAny_seqItems ho hd (wpAny_pure h))
theorem sf:plainId "dict.update.loop"=true:=by decide +kernel
theorem uR:entryFor table "dict.update.loop"=some Builtin.«dict.update.loop»:=entryFor_of_tree (by kernel_rfl)
section
variable {prog:Program} {w:World} {A:Around} {R:Result→Shared→Prop} {I:Addr} {fp wr:List Addr} {n:Nat} {P:Nat→Value→Prop} {St:Nat→Heap→Prop} {K:Type} [DecidableEq K] {knd:KeyKind prog w K}
theorem Ck (kvs:List (K×Value)) (k:K) (v:Value):(stored kvs k v).length≤kvs.length+1:=by
 unfold stored
 split <;> simp
def BS (n:Nat) (tb:Nat→Addr) (ku u:Nat→Value) (h:Heap):Prop:=∀ i,i<n→∃ o m,h.get? (tb i)=some o∧o.cls=.type "tuple"∧o.data=.seq #[ku i,u i] m
theorem xB (W:Walks prog w A.in1 I fp wr n P St) (a:Addr) (ha:a ∉ fp) (hw:a ∉ wr) (tb:Nat→Addr) (ku u:Nat→Value) (kk:Nat→K) (hval:∀ i v,P i v→v=.ref (tb i)) (hk:∀ i,i<n→knd.is (kk i) (ku i)=true) (ht:∀ i,i<n→tb i ∉ a::wr) :
  ∀ (k i:Nat) (s:Shared) (kvs:List (K×Value)) (c:Int) (tk0:Tok),n-i=k→i≤n→St i s.heap→BS n tb ku u s.heap →
  s.heap.DictOf knd a kvs→kvs.length+k≤sizeLine →
  (∀ h' tk,h'.DictOf knd a (((List.range n).drop i).foldl (fun q j=>stored q (kk j) (u j)) kvs)→(∀ b o,b ∉ a::wr→s.heap.get? b=some o→h'.get? b=some o)→R (.ok (.ret .none)) { s with heap:=h',toks:=tk }) →
  codeAny (model prog w) A (.builtin "dict.update.loop" ⟨[.ref a,.ref I,.int c tk0,.none],[]⟩) R s:=by
 intro k
 induction k with
 | zero =>
  intro i s kvs c tk0 hk' hi hst hT hS hb hR
  have hin:i=n:=by omega
  subst hin
  refine codeAny_builtin uR ?_
  rw[Around.under_plainId sf _]
  show wpAny _ A.in1 (pyNext (.ref I) >>= _) _ _ s
  refine wpAny_bind (W.done s _ _ hst fun h' tk hk'=>?_)
  dsimp only
  unfold Builtin.Dict.addKeywords
  wp_walk
  obtain⟨o,es,ep,ho,r⟩:=hS
  refine hR h' tk ?_ fun b o hbw e=>hk' b o (fun z=>hbw (List.mem_cons_of_mem _ z)) e
  rw[List.drop_of_length_le (by simp)]
  exact⟨o,es,ep,hk' a o hw ho,r⟩
 | succ k ih =>
  intro i s kvs c tk0 hk' hi hst hT hS hb hR
  have hlt:i<n:=by omega
  have hd:(List.range n).drop i=i::(List.range n).drop (i+1):=by
   rw[List.drop_eq_getElem_cons (by simpa using hlt)]; simp
  refine codeAny_builtin uR ?_
  rw[Around.under_plainId sf _]
  show wpAny _ A.in1 (pyNext (.ref I) >>= _) _ _ s
  refine wpAny_bind (W.item i s _ _ hlt hst fun v h' tk hP hst' hkp=>?_)
  obtain rfl:=hval i v hP
  obtain⟨o,m,ho,hc,hd2⟩:=hT i hlt
  have ho':=hkp _ _ (fun z=>ht i hlt (List.mem_cons_of_mem _ z)) ho
  obtain⟨od,es,ep,hod,rr⟩:=hS
  have hS':h'.DictOf knd a kvs:=⟨od,es,ep,hkp a od hw hod,rr⟩
  dsimp only
  refine wpAny_bind (wpAny_holding (wpAny_bind (wpAny_tryCatch (pair_items ho' hc hd2 ?_))))
  dsimp only
  refine wpAny_holding (wpAny_dictSet_pairs (hk i hlt) hS' (fun h2 hS2 hsb=>?_) (by omega))
  refine wpAny_pure ⟨plainId_quiet sf _,ih (i+1) _ (stored kvs (kk i) (u i)) _ _ (by omega) hlt ?_ (fun j hj=>?_) hS2 ?_ fun h3 tk3 hS3 hk3=>?_⟩
  ·exact W.frame _ _ _ hst' fun b hbf o e=>hsb.2 b (fun z=>ha (z ▸ hbf)) ▸ e
  ·obtain⟨o,m,h1,h2,h3⟩:=hT j hj
   refine⟨o,m,?_,h2,h3⟩
   have e1:=hkp _ _ (fun z=>ht j hj (List.mem_cons_of_mem _ z)) h1
   exact (hsb.2 _ (fun z=>ht j hj (z ▸ List.mem_cons_self ..))).trans e1
  ·have:=Ck kvs (kk i) (u i)
   omega
  ·have:=hR h3 tk3
   rw[hd,List.foldl_cons] at this
   refine this hS3 fun b o hbw e=>hk3 b o hbw ((hsb.2 b (fun z=>hbw (z ▸ List.mem_cons_self ..))).trans (hkp b o (fun z=>hbw (List.mem_cons_of_mem _ z)) e))
end
section
variable {prog:Program} {w:World} {A:Around} {E:Value→Shared→Prop} {s:Shared} {K:Type} [DecidableEq K] {knd:KeyKind prog w K}
theorem A4 {l d:Addr} {xs:Array Value} {n:Nat} {sl:Array (Option Value)} {Q:PySem.Fin→Shared→Prop} (ho:s.heap.get? l=some { cls:=.type "list",dict:=none,data:=.seq xs n,slots:=sl }) (hh:A.handled=none)
  (h:∀ (h':Heap) (tk:Nat),(∀ b o,s.heap.get? b=some o→h'.get? b=some o)→True→Q (.again (.builtin "dict.update.loop" ⟨[.ref d,.ref h'.objs.size,rawInt 0,.none],[]⟩)) { s with heap:=h'.push { cls:=.type "list_iterator",data:=.fields #[.ref l,rawInt 0] },toks:=tk }) :
  wpAny (model prog w) A (Builtin.Dict.updateFrom "dict.__init__" d (.ref l) [] .none) Q E s:=by
 unfold Builtin.Dict.updateFrom
 refine wpAny_bind (wpAny_typeOf ⟨_,ho,rfl⟩ ?_)
 dsimp only
 rw[if_pos (by decide)]
 refine wpAny_bind (yY ho hh fun h' tk kp=>?_)
 rw[if_pos (by rfl)]
 have hl':h'.IsList l xs:=⟨_,kp _ _ ho,rfl,n,rfl⟩
 wp_walk using wpAny_pyIter_list hl'
 exact h h' tk kp trivial
theorem xH {M:Model} {self x:Value} {Q:Unit→Shared→Prop} (hT:s.TypeIs self "dict") (h:Q () s):wpAny M A (Builtin.Dict.notOrdered "__init__" ⟨[self,x],[]⟩) Q E s:=by
 unfold Builtin.Dict.notOrdered
 refine wpAny_bind (wpAny_typeOf (show s.TypeIs (([self,x]:List Value).headD .none) "dict" from hT) ?_)
 rw[if_neg (by decide)]
 exact wpAny_pure h
set_option maxHeartbeats 4000000 in
theorem call_dict_pairs {l:Addr} {its:List Value} {tb:Nat→Addr} {ku u:Nat→Value} {kk:Nat→K} {Q:Value→Shared→Prop} (hh:A.handled=none) (hl:∃ n sl,s.heap.get? l=some { cls:=.type "list",dict:=none,data:=.seq its.toArray n,slots:=sl }) (hi:∀ (j:Nat) (v:Value),its[j]?=some v→v=.ref (tb j)) (hp:BS its.length tb ku u s.heap) (hk:∀ i,i<its.length→knd.is (kk i) (ku i)=true) (hb:its.length≤sizeLine)
  (h:∀ h' tk,h'.DictOf knd s.heap.objs.size ((List.range its.length).foldl (fun q j=>stored q (kk j) (u j)) [])→(∀ b o,s.heap.get? b=some o→h'.get? b=some o)→Q (.ref s.heap.objs.size) { s with heap:=h',toks:=tk }) :
  wpAny (model prog w) A (call (.type "dict") [.ref l]) Q E s:=by
 obtain⟨n,sl,hl⟩:=hl
 obtain⟨c,tl,hmro⟩:=F.kt_called_dict.mro
 have hmade:=F.kt_called_dict.made
 have hsub:=F.kt_called_dict.sub
 refine wpAny_call (codeAny_of_tree ?_)
 show wpAny _ _ (callAny (.type "dict") _) _ _ _
 refine wpAny_pure ⟨Code.quiet_builtin _ (by decide +kernel),codeAny_builtin F.entry_type_call ?_⟩
 rw[Around.under_plain (weight_type_call_type "dict" [.ref l] []) rfl]
 have h1:=F.kt_called_dict.notType
 have h2:=F.kt_called_dict.canCreate
 have hct:=F.kt_typeCall_dict_1 (.ref l)
 repeat (any_goals (first | assumption | wp_step))
 refine codeAny_mono (kt_code_dict_new (E:=E) (.ref l) (Q₁:=fun obj s₁=>obj=.ref s.heap.objs.size∧s₁={ s with heap:=s.heap.push { cls:=.type "dict",data:=.dict #[] } }) ⟨rfl,rfl⟩) fun r s₁ hr=>?_
 cases r with
 | error e=>exact hr
 | ok fl =>
  cases fl with
  | ret obj =>
   obtain⟨rfl,rfl⟩:=hr
   have hS:(s.heap.push { cls:=.type "dict",data:=.dict #[] }).get? s.heap.objs.size=some { cls:=.type "dict",data:=.dict #[] }:=Heap.get?_push_size _ rfl
   have hT:Shared.TypeIs { s with heap:=s.heap.push { cls:=.type "dict",data:=.dict #[] } } (.ref s.heap.objs.size) "dict":=⟨_,hS,rfl⟩
   have hli:=F.kt_called_dict.init.lookup
   have hbi:=F.kt_called_dict.init.bind (.ref s.heap.objs.size)
   repeat (any_goals (first | assumption | wp_step))
   refine codeAny_mono (codeAny_call_builtin (R:=wants (fun r s₂=>r=.none∧Q (.ref s.heap.objs.size) s₂) E) F.kt_called_dict.init.plain F.entry_dict_init (F.slot_dict_init.check _ _ _ _ _ _ _ _ hT (F.args_dict_init_2 _ _) ?_)) fun r₂ s₂ hr₂=>?_
   ·have ho':(s.heap.push { cls:=.type "dict",data:=.dict #[] }).get? l=some { cls:=.type "list",dict:=none,data:=.seq its.toArray n,slots:=sl }:=Heap.get?_push_of_some _ hl
    have hlt:l<s.heap.objs.size:=Heap.lt_size hl
    have hsz:(s.heap.push { cls:=.type "dict",data:=.dict #[] }).objs.size=s.heap.objs.size+1:=Heap.size_push ..
    unfold Builtin.«dict.__init__» Builtin.Dict.selfAndRest Builtin.Dict.notOrdered Builtin.Dict.addrOf Builtin.Dict.updateCommon
    refine wpAny_bind (wpAny_bind (xH hT ?_))
    dsimp only
    refine wpAny_bind (wpAny_pure (wpAny_pure ?_))
    dsimp only
    refine A4 (d:=s.heap.objs.size) ho' hh fun h' tk kp _=>?_
    have kp':∀ b o,s.heap.get? b=some o→h'.get? b=some o:=fun b o e=>kp b o (Heap.get?_push_of_some _ e)
    have lt':s.heap.objs.size<h'.objs.size:=Heap.lt_size (kp _ _ hS)
    refine⟨plainId_quiet sf _,?_⟩
    refine xB (knd:=knd) (Walks.list (A:=A.in1.in1) hh _ l (show l≠h'.objs.size from Nat.ne_of_lt (Nat.lt_trans hlt lt')) its.toArray) s.heap.objs.size ?_ ?_ tb ku u kk (fun j v hP=>hi j v (by simpa using hP)) (fun i h=>hk i (by simpa using h)) ?_ its.toArray.size 0 _ [] 0 0 (Nat.sub_zero _) (Nat.zero_le _) ⟨⟨_,Heap.get?_push_size _ rfl,rfl,rfl⟩,?_⟩ ?_ ?_ ?_ ?_
    ·intro hm
     rcases List.mem_cons.mp hm with e | hm
     ·exact absurd e (Nat.ne_of_lt lt')
     ·exact absurd (List.mem_singleton.mp hm) (Nat.ne_of_gt hlt)
    ·exact fun hm=>absurd (List.mem_singleton.mp hm) (Nat.ne_of_lt lt')
    ·intro i hi2 hm
     obtain⟨o,m,ho2,_⟩:=hp i (by simpa using hi2)
     have lt2:=Heap.lt_size ho2
     rcases List.mem_cons.mp hm with e | hm
     ·exact absurd e (Nat.ne_of_lt lt2)
     ·exact absurd (List.mem_singleton.mp hm) (Nat.ne_of_lt (Nat.lt_trans lt2 lt'))
    ·exact⟨_,Heap.get?_push_of_some _ (kp' _ _ hl),rfl,n,rfl⟩
    ·exact fun i hi2=>let ⟨o,m,a,b,c⟩:=hp i (by simpa using hi2); ⟨o,m,Heap.get?_push_of_some _ (kp' _ _ a),b,c⟩
    ·exact⟨_,#[],0,Heap.get?_push_of_some _ (kp _ _ hS),⟨rfl,rfl,rfl⟩,rfl,fun e he=>by simp at he,.nil,.nil⟩
    ·simpa using hb
    ·intro h2 tk2 hD hk2
     refine⟨rfl,h h2 tk2 (by simpa using hD) fun b o e=>hk2 b o (fun hm=>?_) (Heap.get?_push_of_some _ (kp' _ _ e))⟩
     have lt2:=Heap.lt_size e
     rcases List.mem_cons.mp hm with z | hm
     ·exact absurd z (Nat.ne_of_lt lt2)
     ·exact absurd (List.mem_singleton.mp hm) (Nat.ne_of_lt (Nat.lt_trans lt2 lt'))
   ·cases r₂ with
    | error e=>exact hr₂
    | ok fl₂ =>
     cases fl₂ with
     | ret r =>
      obtain⟨rfl,hq⟩:=hr₂
      repeat (any_goals (first | assumption | wp_step))
     | _=>exact hr₂.elim
  | _=>exact hr.elim
end
end DictL
end PySem
namespace L2
open PySem PySem.Spec PyProof.Rows
def v8 (kvs:List (Key×V)):List (Key×V):=kvs.foldl (fun q kv=>putK q kv.1 kv.2) []
theorem Dh (kvs:List (Key×V)):(v8 kvs).length≤kvs.length:=by
 have:∀ (kvs q:List (Key×V)),(kvs.foldl (fun q kv=>putK q kv.1 kv.2) q).length≤q.length+kvs.length:=by
  intro kvs
  induction kvs with
  | nil=>intro q; exact Nat.le_refl _
  | cons a l ih =>
   intro q
   have h1:=ih (putK q a.1 a.2)
   have h2:=uA q a.1 a.2
   rw[List.foldl_cons,List.length_cons]
   omega
 have:=this kvs []
 simpa [v8] using this
section
variable {X:Cx}
theorem yq (hc:X.calm=true):qo X (.type "dict") (fun xs H Q=>∃ (p:Addr) (ps:List Addr) (kvs:List (Key×V)),xs=[.ref p]∧SqL X.K H p (ps.map V.ref)∧ps.length=kvs.length∧(∀ (j:Nat) (a:Addr) (kv:Key×V),ps[j]?=some a→kvs[j]?=some kv→SqT X.K H a [kV kv.1,kv.2])∧∀ d,H d=none→Q (.ref d) (upd H d (.dK (v8 kvs)))):=by
 intro pins s σ H xs us Q I r h
 obtain⟨p,ps,kvs,rfl,hq,hl,ht,q⟩:=h
 obtain⟨u,rfl,rx⟩:=vals1 r
 cases rx
 obtain⟨its,r',⟨o,n,e,c,dn,dt⟩,hz⟩:=I.list hq
 have len:=r'.length
 rw[List.length_map] at len hz
 obtain⟨g,hg⟩:=Classical.axiomOfChoice (r:=fun (j:Nat) (g:Addr×Key×Value×Value)=>∀ a kv,ps[j]?=some a→kvs[j]?=some kv→g.1=a∧g.2.1=kv.1∧(∃ o m,s.heap.get? a=some o∧o.cls=.type "tuple"∧o.data=.seq #[g.2.2.1,g.2.2.2] m)∧RelV (kV kv.1) g.2.2.1∧RelV kv.2 g.2.2.2) (fun j=>by
  by_cases hj:j<ps.length
  ·have e1:ps[j]?=some ps[j]:=List.getElem?_eq_getElem hj
   have e2:kvs[j]?=some (kvs[j]'(by omega)):=List.getElem?_eq_getElem (by omega)
   obtain⟨its2,rv,⟨o2,h1,h2,m2,h3⟩,_⟩:=I.tuple (ht j _ _ e1 e2)
   cases rv with
   | cons ra rv =>
    cases rv with
    | cons rb rv =>
     cases rv with
     | nil=>exact⟨(ps[j],(kvs[j]'(by omega)).1,_,_),fun a kv h4 h5=>by
       rw[e1] at h4
       rw[e2] at h5
       injection h4 with h4
       injection h5 with h5
       subst h4 h5
       exact⟨rfl,rfl,⟨o2,m2,h1,h2,h3⟩,ra,rb⟩⟩
  ·exact⟨(0,.inl 0,.none,.none),fun a kv h4=>absurd (List.getElem?_eq_some_iff.mp h4).1 hj⟩)
 have at_:∀ j,j<ps.length→∃ a kv,ps[j]?=some a∧kvs[j]?=some kv:=fun j hj=>⟨_,_,List.getElem?_eq_getElem hj,List.getElem?_eq_getElem (by omega)⟩
 have nn:its.length=ps.length:=len.symm
 obtain⟨cls,dd,data,sl⟩:=o
 simp only at c dn dt
 subst c dn dt
 refine PySem.DictL.call_dict_pairs (knd:=mU X.prog X.w) (tb:=fun j=>(g j).1) (ku:=fun j=>(g j).2.2.1) (u:=fun j=>(g j).2.2.2) (kk:=fun j=>(g j).2.1) (I.ok.hd hc) ⟨n,sl,e⟩ (fun j v ev=>?_) (fun j hj=>?_) (fun j hj=>?_) (by rw[nn]; exact hz) fun h' tk hD hk=>?_
 ·obtain⟨hj,e'⟩:=List.getElem?_eq_some_iff.mp ev
  obtain⟨a,kv,h1,h2⟩:=at_ j (by omega)
  obtain⟨x,hx,rv⟩:=vm r' hj
  rw[List.getElem?_map,h1] at hx
  injection hx with hx
  subst hx
  rw[← e',(show its[j]=Value.ref a from rv),(hg j a kv h1 h2).1]
 ·obtain⟨a,kv,h1,h2⟩:=at_ j (by omega)
  obtain⟨g1,_,⟨o,m,h3,h4,h5⟩,_⟩:=hg j a kv h1 h2
  exact⟨o,m,(show s.heap.get? (g j).1=some o by rw[g1]; exact h3),h4,h5⟩
 ·obtain⟨a,kv,h1,h2⟩:=at_ j (by omega)
  obtain⟨_,g2,_,g3,_⟩:=hg j a kv h1 h2
  show (mU X.prog X.w).is (g j).2.1 (g j).2.2.1=true
  rw[g2]
  exact wu g3
 ·have rel:∀ m,m≤kvs.length→KV ((kvs.take m).foldl (fun q kv=>putK q kv.1 kv.2) []) ((List.range m).foldl (fun q j=>stored q (g j).2.1 (g j).2.2.2) []):=by
   intro m
   induction m with
   | zero=>intro _; exact .nil
   | succ m ih =>
    intro hm
    have e2:kvs[m]?=some (kvs[m]'(by omega)):=List.getElem?_eq_getElem (by omega)
    obtain⟨_,g2,_,_,g4⟩:=hg m (ps[m]'(by omega)) _ (List.getElem?_eq_getElem (by omega)) e2
    rw[List.range_succ,List.foldl_append,List.take_succ,e2,List.foldl_append]
    show KV (putK _ _ _) (stored _ _ _)
    rw[g2]
    exact (ih (by omega)).put _ g4
  have rel':KV (v8 kvs) ((List.range its.length).foldl (fun q j=>stored q (g j).2.1 (g j).2.2.2) []):=by
   have:=rel kvs.length (Nat.le_refl _)
   rw[List.take_length] at this
   rw[nn,hl]
   exact this
  have hd:(s.heap.objs.size == sysModules)=false:=by
   have:=I.big
   exact beq_false_of_ne fun z=>by rw[z] at this; exact absurd this (Nat.lt_irrefl _)
  exact⟨.ref s.heap.objs.size,_,I.laid (o:=.dK (v8 kvs)) hk (Nat.le_refl _) (Al (by have:=Dh kvs; omega) hd rel' hD),rfl,q _ (I.hok.fresh (Nat.le_refl _))⟩
end
end L2
namespace PySem
open Sem (wp)
namespace DictE
section
variable {prog:Program} {w:World} {A:Around} {E:Value→Shared→Prop} {s:Shared} {K:Type} [DecidableEq K] {knd:KeyKind prog w K}
theorem xH {M:Model} {self x:Value} {Q:Unit→Shared→Prop} (hT:s.TypeIs self "dict") (h:Q () s):wpAny M A (Builtin.Dict.notOrdered "__eq__" ⟨[self,x],[]⟩) Q E s:=by
  unfold Builtin.Dict.notOrdered
  first
    | (refine wpAny_bind (wpAny_typeOf (show s.TypeIs (([self,x]:List Value).headD .none) "dict" from hT) ?_)
       rw[if_neg (by decide)]
       exact wpAny_pure h)
    | (rw[if_neg (by decide)]
       exact wpAny_pure h)
    | (rw[if_pos (by decide)]
       refine wpAny_bind (wpAny_typeOf (show s.TypeIs (([self,x]:List Value).headD .none) "dict" from hT) ?_)
       rw[if_neg (by decide)]
       exact wpAny_pure h)
    | exact wpAny_pure h
end
end DictE
end PySem
namespace PySem
open Sem (wp)
open PyProof.Rows
namespace SortD
section
variable {prog:Program} {w:World} {A:Around} {E:Value→Shared→Prop} {s:Shared} {K:Type} [DecidableEq K] {knd:KeyKind prog w K}
theorem Ah {M:Model} {x:Value} {Q:Unit→Shared→Prop} (h:Q () s):wpAny M A (checkBuiltinCall "sorted" ⟨[x],[]⟩) Q E s:=by
 unfold checkBuiltinCall
 rw[kind_sorted]
 exact wpAny_of_eq (args_sorted1 x) h
end
end SortD
end PySem
namespace L2
open PySem PySem.Spec PyProof.Rows
theorem C1:bootBuiltins "dict"=some (.type "dict"):=by decide +kernel
theorem xF {X:Cx} {K:PySem.W.Frag} (h:X.K=K):qo X (.type "list") (fun xs H Q=>∃ p ys,xs=[.ref p]∧SqL K H p ys∧∀ l,H l=none→Q (.ref l) (upd H l (.lst ys))):=by
 subst h
 exact pZ
end L2
namespace L2
open PySem PySem.Spec PyProof.Rows
open PySem.Builtin PySem.Builtin.ObjectAttr PySem.Builtin.Getset_descriptor
open PySem.W (Frag Looks InstAt looks_findIn looks_specialIn looks_takesIn looks_mroIn looks_subIn looks_typeIn looks_clsIn)
def C5:List Value→Bool
 | .ref _::r=>C5 r
 | l=>l == bmVE
def xOver (K:Frag) (C:Addr):Bool:=(PySem.W.clsIn K C).any fun cd=>C5 cd.mro && cd.hasDict
structure XFld (K:Frag) (C:Addr):Prop where
 sa:PySem.W.findIn K (.ref C) "__setattr__"=some (some (.builtin "object.__setattr__"))
 ov:xOver K C=true
 xc:XCls K C
end L2
namespace L2
open PySem PySem.Spec PyProof.Rows
open PySem.W (Frag Looks InstAt looks_findIn looks_specialIn looks_takesIn looks_mroIn looks_subIn looks_typeIn looks_clsIn tailIn nsOkIn nsIn)
def excInI (K:Frag) (C fI:Addr):Bool:=match K.lookup C with
 | some ⟨.type "type",_,.cls cd,sl⟩=>(match cd.mro,sl.toList with
  | .ref C'::bm,[_,_,_,_,some (.builtin n),_]=>C' == C && n == "ValueError.__new__" && !cd.hasDel && tailIn K bmVE bm && nsOkIn K cd.ns && nsIn K cd.ns "__init__" == some (some (.ref fI))
  | _,_=>false)
 | _=>false
end L2
namespace L2
open PySem PySem.Spec PyProof.Rows
open PySem.W (Frag)
def loose:HO→Prop
 | .ext _=>True
 | .xd _=>True
 | _=>False
structure XUp (K:Frag) (mg:Str→Option Value) (x:Str) (T:Addr):Prop where
 at_:mg x=some (.ref T)
 ga:PySem.W.specialIn K (.ref T) "__getattribute__"=some (some (.builtin "type.__getattribute__"))
 rd:PySem.W.readsIn K T (.type "type")=true
 fi:PySem.W.findCls K (.ref T) (.type "type") "__init__"=some (.val (.builtin "ValueError.__init__"))
end L2
namespace L2
open PySem PySem.Spec PyProof.Rows
open PySem.W (Frag)
structure XMk (P:Program) (w:World) (K:Frag) (mg:Str→Option Value) (base:Heap) (x:Str) (C:Addr) (k:Nat) (ps:List Str) (sp:Sp):Prop where
 ex:∃ f fd,excInI K C f=true∧PySem.W.isFn K (.ref f)=true∧FnOk P w K mg base CX0 k f fd ps sp∧Binds K fd ps []
 at_:mg x=some (.ref C)
 kp:PySem.W.keepIn K (.ref C)=true
end L2
namespace L2
open PySem PySem.Spec PyProof.Rows
open PySem.W (Frag envX kla_fn kla_obj)
structure LamSc (sc:Scope) (x y:Str):Prop where
 kind:sc.kind=.function
 co:sc.isCoroutine=false
 gen:sc.isGenerator=false
 own:sc.names.lookup x=some .local
 free:sc.names.lookup y=some .free
 nocell:∀ z∈sc.names,z.2≠.cell
 only:∀ z∈sc.names,z.2=.free→z.1=y
def Ie (c:Addr) (qual:Str):HO:=.ext (fun h=>h.CodeRec (.ref c) qual)
def LamTab (H:Hp) (P:Addr) (pos:Pos) (qual:Str):Prop:=H P=some (.tbl #[])∨∃ c,H P=some (.tbl #[rawInt pos.line,rawInt pos.col,.ref c])∧H c=some (Ie c qual)
end L2
namespace L2
open PySem PySem.Spec PyProof.Rows
open PySem.W (Frag envX kla_fn kla_obj)
def KpT (H H':Hp):Prop:=∀ b u,H b=some u→(∀ ps,u≠.tbl ps)→H' b=some u
theorem KpT.trans {H H' H'':Hp} (a:KpT H H') (b:KpT H' H''):KpT H H'':=fun x u h n=>b x u (a x u h n) n
theorem KpT.tup {K:Frag} {H H':Hp} {a:Addr} {xs:List V} (e:KpT H H') (h:SqT K H a xs):SqT K H' a xs:=by
 rcases h with (h | ⟨o,h⟩) | h
 ·exact .inl (.inl (e _ _ h fun _ z=>by cases z))
 ·exact .inl (.inr ⟨o,e _ _ h fun _ z=>by cases z⟩)
 ·exact .inr h
theorem KpT.none {H H':Hp} {b:Addr} (e:KpT H H') (n:H' b=none):H b=none∨∃ ps,H b=some (.tbl ps):=by
 cases q:H b with
 | none=>exact .inl rfl
 | some u =>
  by_cases z:∃ ps,u=.tbl ps
  ·obtain⟨ps,rfl⟩:=z
   exact .inr ⟨ps,rfl⟩
  ·rw[e b u q fun ps w=>z ⟨ps,w⟩] at n
   cases n
theorem LamTab.tbl {H:Hp} {P:Addr} {pos:Pos} {qual:Str} (h:LamTab H P pos qual):∃ ps,H P=some (.tbl ps):=by
 rcases h with z | ⟨c',z,_⟩
 ·exact⟨_,z⟩
 ·exact⟨_,z⟩
theorem LamTab.upd {H:Hp} {P l:Addr} {pos:Pos} {qual:Str} {xs:List V} {o:HO} (h:LamTab H P pos qual) (hl:H l=some (.lst xs)):LamTab (upd H l o) P pos qual:=by
 rcases h with z | ⟨c',z,zc⟩
 ·exact .inl (by rw[fj (fun e=>by rw[e,hl] at z; cases z)]; exact z)
 ·exact .inr ⟨c',by rw[fj (fun e=>by rw[e,hl] at z; cases z)]; exact z,by rw[fj (fun e=>by rw[e,hl] at zc; cases zc)]; exact zc⟩
end L2
namespace L2
open PySem PySem.Spec PyProof.Rows
def ItK (a:Addr) (o:Obj) (kvs:List (Key×V)):It:=⟨fun i H=>i<kvs.length∧H a=some (.frz o (.dK kvs)),fun i H x H'=>H'=H∧∃ k v,kvs[i]?=some (k,v)∧x=kV k,fun i H=>kvs.length≤i∧H a=some (.frz o (.dK kvs))⟩
theorem yX {k:Key} {u:Value} (h:vX k u=true):RelV (kV k) u:=by
 rcases nW h with ⟨i,t,rfl,rfl⟩ | ⟨x,t,rfl,rfl⟩
 ·exact⟨t,rfl⟩
 ·exact⟨t,rfl⟩
theorem KV.at {κ:Type}:∀ {kvs:List (κ×V)} {vs:List (κ×Value)},KV kvs vs→∀ {i:Nat} {k:κ} {v:Value},vs[i]?=some (k,v)→∃ x,kvs[i]?=some (k,x)∧RelV x v
 | _,_,.nil,_,_,_,h=>by simp at h
 | _,_,.cons (a:=p) r t,0,k,v,h=>by
  simp at h
  subst h
  have e:p.1=k:=r.1
  exact⟨p.2,by rw[← e]; rfl,r.2⟩
 | _,_,.cons r t,i+1,k,v,h=>KV.at t (by simpa using h)
theorem KV.len {κ:Type}:∀ {kvs:List (κ×V)} {vs:List (κ×Value)},KV kvs vs→kvs.length=vs.length
 | _,_,.nil=>rfl
 | _,_,.cons _ t=>congrArg Nat.succ (KV.len t)
theorem Ak {P:Program} {w:World} {H:Hp} {h:Heap} {a:Addr} {o:Obj} {kvs:List (Key×V)} (x:ObjOk P w H h a (.frz o (.dK kvs))):∃ (vs:List (Key×Value)) (es:Array DictEntry) (ep:Nat),o.data=.dict es ep∧KV kvs vs∧h.DictAt (mU P w) a vs ep:=by
 obtain⟨e,_,_,vs,r,o',es,ep,e',x',d',c⟩:=x
 rw[e] at e'
 cases e'
 exact⟨vs,es,ep,d',r,o,es,e,x',d',c⟩
theorem Ct {P:Program} {w:World} {K:PySem.W.Frag} {tg:Expr} (a it:Addr) (o:Obj) (kvs:List (Key×V)):Turn P w K tg (ItK a o kvs) [it] it (fun i h=>∃ es ep,o.data=.dict es ep∧h.IsKeyIter it a i kvs.length ep) where
 mem:=by simp
 obj:=fun i h st b hb=>by
  have e:b=it:=by simpa using hb
  subst e
  obtain⟨_,_,_,o,e,c,d⟩:=st
  exact⟨o,e,fun v z=>by rw[d] at z; cases z⟩
 keep:=fun i h h' st k=>by
  obtain⟨es,ep,e,st⟩:=st
  exact⟨es,ep,e,st.at fun o e=>k it (by simp) o e⟩
 item:=by
  intro X hP hw hK hc i pins s σ H E I hf st hg
  subst hP hw hK
  obtain⟨hi,hH⟩:=hg
  obtain⟨es,ep,ed,st⟩:=st
  obtain⟨vs,es',ep',ed',r,da⟩:=Ak (I.hok a _ hH)
  rw[ed] at ed'
  cases ed'
  have len:=KV.len r
  obtain⟨f0,f1,f2,f3,f4,f5⟩:=hf it (by simp)
  have hx:vs[i]?=some ((vs[i]'(by omega)).1,(vs[i]'(by omega)).2):=List.getElem?_eq_getElem _
  obtain⟨x,hx2,rx⟩:=KV.at r hx
  rw[len] at st
  refine wpAny_pyNext_dict_item st da hx fun key h' hkey st' sb=>?_
  have I1:Inv X pins σ H { s with heap:=h' }:=I.turned (t':=s.toks) (fun b o hb e=>(sb.2 b hb).trans e) f0 f1 f3 f4 f5
  obtain⟨oi,e,c,d⟩:=id st'
  exact⟨key,rfl,zQ (s:={ s with heap:=h' }) e c d (by decide) ⟨_,H,I1,yX hkey,⟨rfl,_,_,hx2,rfl⟩,⟨es,ep,ed,by rw[len]; exact st'⟩,fun b hb=>(hf b hb).1⟩⟩
 done:=by
  intro X hP hw hK hc i pins s σ H E I hf st hg
  subst hP hw hK
  obtain⟨hi,hH⟩:=hg
  obtain⟨es,ep,ed,st⟩:=st
  obtain⟨vs,es',ep',ed',r,da⟩:=Ak (I.hok a _ hH)
  rw[ed] at ed'
  cases ed'
  have len:=KV.len r
  rw[len] at st
  obtain⟨f0,f1,f2,f3,f4,f5⟩:=hf it (by simp)
  exact wpAny_pyNext_dict_end (I.ok.hd hc) st da (by simp; omega) fun h' eb=>⟨rfl,I.turned (t':=s.toks) (fun b o hb e=>eb b o hb e) f0 f1 f3 f4 f5⟩
 self:=fun _ _ _ _ _ st h=>by
  obtain⟨_,_,_,st⟩:=st
  exact wpAny_pyIter_keyiter st h
theorem Inv.frozen {X:Cx} {pins:List (Addr×Obj)} {σ:St} {H:Hp} {s:Shared} {a:Addr} {o:Obj} {kvs:List (Key×V)} (I:Inv X pins σ H s) (hd:H a=some (.dK kvs)) (ho:s.heap.get? a=some o):Inv X pins σ (upd H a (.frz o (.dK kvs))) s:=by
 have ne:∀ b u,H b=some u→u≠.dK kvs→b≠a:=fun b u q n z=>by rw[z,hd] at q; cases q; exact n rfl
 have J:=I.un (t':=s.toks) (h':=s.heap) (H':=upd H a (.frz o (.dK kvs))) ⟨fun b o e _ _ _=>e,fun b o e _ _ _=>⟨o.slots,e⟩,fun b o e n _=>by rw[fj (fun z=>by rw[z,hd] at n; cases n)]; exact n,fun b o e _=>⟨o,e⟩,fun b xs q=>by rw[fj (ne b _ q (by intro z; cases z))]; exact q,
  fun b ob u q=>by rw[fj (ne b _ q (by intro z; cases z))]; exact q,fun b ps q=>⟨#[],by rw[fj (ne b _ q (by intro z; cases z)),q]; simp⟩⟩ fun b u q=>?_
 ·exact J
 ·by_cases z:b=a
  ·subst z
   rw[er] at q
   cases q
   exact⟨ho,(I.hok b _ hd).stay (fun _ _ _ q=>q) (fun d q=>by rw[fj (ne d _ q (by intro z; cases z))]; exact q) fun d xs q=>by rw[fj (ne d _ q (by intro z; cases z))]; exact q⟩
  ·rw[fj z] at q
   exact (I.hok b u q).stay (fun _ _ _ q=>q) (fun d q=>by rw[fj (ne d _ q (by intro z; cases z))]; exact q) fun d xs q=>by rw[fj (ne d _ q (by intro z; cases z))]; exact q
def C3 (td:TE):TI:=fun σ H R=>td σ H fun x H1=>∃ a kvs,x=.ref a∧Rd H1 a (.dK kvs)∧∀ o H2,H2 a=some (.frz o (.dK kvs))→(∀ b,b≠a→H2 b=H1 b)→R (ItK a o kvs) H2
theorem xO {X:Cx} {tg l:Expr} {tl:TE} (hl:PE X l tl):PI X tg l (C3 tl):=by
 intro pins s σ H R I h
 refine thn (hl pins s σ H _ I h) fun v s1 ⟨x,H1,I1,r1,q1⟩=>?_
 obtain⟨a,kvs,e,hq,q⟩:=q1
 subst e
 cases r1
 have fz:∃ o H2,Inv X pins σ H2 s1∧H2 a=some (.frz o (.dK kvs))∧∀ b,b≠a→H2 b=H1 b:=by
  rcases hq with hq | ⟨o,hq⟩
  ·obtain⟨o,ho⟩:=(I1.hok a _ hq).here
   exact⟨o,_,I1.frozen hq ho,er,fun b hb=>fj hb⟩
  ·exact⟨o,H1,I1,hq,fun b _=>rfl⟩
 obtain⟨o,H2,I2,hH,hoth⟩:=fz
 have sa:(a == sysModules)=false:=(I2.hok a _ hH).2.2.1
 obtain⟨vs,es,ep,ed,r,da⟩:=Ak (I2.hok a _ hH)
 have len:=KV.len r
 refine wpAny_pyIter_dict sa da ?_
 refine⟨s1.heap.objs.size,[s1.heap.objs.size],_,_,H2,rfl,I2.kept (t':=s1.toks) fun b o e=>Heap.get?_push_of_some _ e,Ct a _ o kvs,⟨es,ep,ed,_,Heap.get?_push_size _ rfl,rfl,by rw[len]; rfl⟩,fun b hb=>?_,q o H2 hH hoth⟩
 have e:b=s1.heap.objs.size:=by simpa using hb
 subst e
 exact I2.fpOk (Nat.le_refl _) (I2.hok.fresh (Nat.le_refl _))
theorem CL {D:Ends} {σ:St} {H:Hp} {g:TG} {tb:TS} {a:Addr} {o:Obj} (kvs:List (Key×V)) (Pv:Nat→St→Hp→Prop) (h0:Pv 0 σ H) (hl:∀ i σ H,i≤kvs.length→Pv i σ H→H a=some (.frz o (.dK kvs)))
  (hs:∀ i k v σ H,kvs[i]?=some (k,v)→Pv i σ H→g (kV k) σ H fun σ2 H2=>tb { D with nx:=Pv (i+1),ct:=Pv (i+1),bk:=D.nx } σ2 H2) (hd:∀ σ H,Pv kvs.length σ H→D.nx σ H):Aw (ItK a o kvs) g tb D σ H:=by
 refine⟨fun i m σ H=>m=kvs.length-i∧i≤kvs.length∧Pv i σ H,⟨_,rfl,Nat.zero_le _,h0⟩,fun i m σ H ⟨hm,hi,p⟩=>?_⟩
 by_cases e:i=kvs.length
 ·subst e
  exact .inl ⟨⟨Nat.le_refl _,hl _ _ _ hi p⟩,hd _ _ p⟩
 ·refine .inr ⟨⟨by omega,hl _ _ _ hi p⟩,Pv (i+1),fun σ' H' p'=>⟨kvs.length-(i+1),by omega,rfl,by omega,p'⟩,fun x H' hy=>?_⟩
  obtain⟨rfl,k,v,hx,rfl⟩:=hy
  exact hs i k v σ H' hx p
end L2
namespace Srt
open PySem PyProof.Rows
structure MS where
 q:List Nat
 pd:List (Nat×Nat×Nat)
 g:Nat
structure SX where
 prog:Program
 w:World
 A:Around
 E:Value→Shared→Prop
 s:Shared
 κ:SortKind
 item:Nat→Keyed
 cmp:Nat→Nat→Bool
 n:Nat
 lt:∀ (i j:Nat),i<n→j<n→∀ (Q:Bool→Shared→Prop) (E':Value→Shared→Prop),Q (cmp i j) s→wpAny (model prog w) A (keyLt' κ (item i).1 (item j).1) Q E' s
def SX.arr (X:SX) (q:List Nat):Array Keyed:=(q.map X.item).toArray
def SX.emb (X:SX) (m:MS):SortSt:=SortSt.mk' X.κ (X.arr m.q) m.pd.toArray m.g none
structure FM (X:SX) {α β:Type} (c:StateT SortSt Sem α) (r:β→α) where
 p:MS→Option (β×MS)
 h:∀ m b m',p m=some (b,m')→∀ Q:α→SortSt→Prop,Q (r b) (X.emb m')→wpS (model X.prog X.w) X.A X.E X.s c Q (X.emb m)
section
variable {X:SX} {α β γ δ:Type}
def FM.mod {f:SortSt→SortSt} (f':MS→MS) (e:∀ m,f (X.emb m)=X.emb (f' m)):FM X (_root_.modify f:StateT SortSt Sem PUnit) (id:PUnit→PUnit) where
 p m:=some (⟨⟩,f' m)
 h m b m' hp Q hq:=by
  obtain⟨rfl,rfl⟩:=Prod.mk.inj (Option.some.inj hp)
  exact wpS_modify (by rw[e]; exact hq)
def CB (r:β→α):ForInStep β→ForInStep α
 | .done b=>.done (r b)
 | .yield b=>.yield (r b)
def FM.loopP {r:β→α} {f:Nat→α→StateT SortSt Sem (ForInStep α)} (F:∀ i b,FM X (f i (r b)) (CB r)):List Nat→β→MS→Option (β×MS)
 | [],b,m=>some (b,m)
 | i::l,b,m=>match (F i b).p m with
  | none=>none
  | some (.done b',m')=>some (b',m')
  | some (.yield b',m')=>FM.loopP F l b' m'
theorem FM.loopH {r:β→α} {f:Nat→α→StateT SortSt Sem (ForInStep α)} (F:∀ i b,FM X (f i (r b)) (CB r)):∀ (l:List Nat) (b:β) (m:MS) (b':β) (m':MS),FM.loopP F l b m=some (b',m')→∀ Q:α→SortSt→Prop,Q (r b') (X.emb m')→wpS (model X.prog X.w) X.A X.E X.s (forIn l (r b) f) Q (X.emb m)
 | [],b,m,b',m',hp,Q,hq=>by
  obtain⟨rfl,rfl⟩:=Prod.mk.inj (Option.some.inj hp)
  rw[List.forIn_nil]; exact wpS_pure hq
 | i::l,b,m,b',m',hp,Q,hq=>by
  rw[List.forIn_cons]
  unfold FM.loopP at hp
  cases hx:(F i b).p m with
  | none=>rw[hx] at hp; exact nomatch hp
  | some y =>
   obtain⟨z,m1⟩:=y
   rw[hx] at hp
   refine wpS_bind ((F i b).h m z m1 hx _ ?_)
   cases z with
   | done b1 =>
    obtain⟨rfl,rfl⟩:=Prod.mk.inj (Option.some.inj hp)
    exact wpS_pure hq
   | yield b1=>exact FM.loopH F l b1 m1 b' m' hp Q hq
def FM.range {r:β→α} {a e:Nat} {a0:α} {f:Nat→α→StateT SortSt Sem (ForInStep α)} (b0:β) (e0:a0=r b0) (F:∀ i b,FM X (f i (r b)) (CB r)):FM X (forIn [a:e] a0 f) r where
 p m:=FM.loopP F (List.range' a (e-a)) b0 m
 h m b m' hp Q hq:=by
  subst e0
  rw[Std.Legacy.Range.forIn_eq_forIn_range']
  have hsz:([a:e]:Std.Legacy.Range).size=e-a:=by simp [Std.Legacy.Range.size]
  show wpS (model X.prog X.w) X.A X.E X.s (forIn (List.range' a ([a:e]:Std.Legacy.Range).size 1) (r b0) f) Q (X.emb m)
  rw[hsz]
  exact FM.loopH F _ b0 m b m' hp Q hq
theorem Fd (q:List Nat) (k:Nat):(X.arr q).push (X.item k)=X.arr (q++[k]):=by
 unfold SX.arr; rw[List.push_toArray,List.map_append]; rfl
theorem Gv (p q:List Nat):X.arr p++X.arr q=X.arr (p++q):=by
 unfold SX.arr; rw[List.append_toArray,List.map_append]
theorem Gb (q:List Nat) (i j:Nat):(X.arr q).extract i j=X.arr ((q.drop i).take (j-i)):=by
 unfold SX.arr; rw[List.extract_toArray,List.extract_eq_take_drop,List.map_take,List.map_drop]
theorem GI (q:List Nat):(X.arr q).reverse=X.arr q.reverse:=by
 unfold SX.arr; rw[List.reverse_toArray,List.map_reverse]
abbrev Lr (X:SX) {ρ:Type} (b:Option (List Nat)×List Nat×ρ):Option (Array Keyed)×Array Keyed×ρ:=(b.1.map X.arr,X.arr b.2.1,b.2.2)
abbrev Hr (X:SX) {ρ:Type} (b:Option (List Nat)×Nat×Nat×List Nat×ρ):Option (Array Keyed)×Nat×Nat×Array Keyed×ρ:=(b.1.map X.arr,b.2.1,b.2.2.1,X.arr b.2.2.2.1,b.2.2.2.2)
theorem GB (x:Nat):#[X.item x]=X.arr [x]:=rfl
local macro_rules | `(tactic| decreasing_trivial)=>`(tactic| ((try simp only [Lr,Hr,Fd,Gb,GB,GI,Gv]) <;> with_reducible rfl))
local macro_rules | `(tactic| trivial)=>`(tactic| (repeat' first
 | refine FM.bind (FM.elem _ _) fun _=>?_
 | refine FM.bind (FM.lt _ _) fun _=>?_
 | refine FM.bind (FM.gallop _ _ _ _ _ _) fun _=>?_
 | refine FM.bind FM.rule fun _=>?_
 | refine FM.bind (FM.setG _) fun _=>?_
 | exact FM.doneS _ _ (by decreasing_trivial) (by decreasing_trivial)
 | exact FM.doneN _ (by decreasing_trivial)
 | exact FM.yieldN _ (by decreasing_trivial)
 | refine FM.ite ?_ ?_))
local macro_rules | `(tactic| trivial)=>`(tactic| (repeat' first
 | refine FM.bind (FM.elem _ _) fun _=>?_
 | refine FM.bind (FM.lt _ _) fun _=>?_
 | refine FM.bind (FM.gallop _ _ _ _ _ _) fun _=>?_
 | refine FM.bind FM.rule fun _=>?_
 | refine FM.bind (FM.setG _) fun _=>?_
 | exact FM.doneS' _ _ (by decreasing_trivial) (by decreasing_trivial)
 | exact FM.doneN' _ (by decreasing_trivial)
 | exact FM.yieldN' _ (by decreasing_trivial)
 | refine FM.ite ?_ ?_))
end
end Srt
namespace L2
open PySem PySem.Spec PyProof.Rows
def Ft (K:PySem.W.Frag):V→V→Hp→VK→Prop:=fun o i H Q=>∃ (p:Addr) (xs:List V) (k:Nat) (v:V),o=.ref p∧i=.int k∧SqL K H p xs∧xs[k]?=some v∧Q v H
theorem xX {X:Cx}:HC X (Ft X.K):=by
 intro pins s σ H o i ov iv Q I ro ri h
 obtain⟨p,xs,k,v,rfl,rfl,hq,hx,q⟩:=h
 cases ro
 obtain⟨t,rfl⟩:=ri
 obtain⟨its,r,pl,hz⟩:=I.list hq
 obtain⟨w,ew,rw'⟩:=r.get hx
 have hl:=r.length
 have hn:=vO
 have hk:k<its.length:=(List.getElem?_eq_some_iff.mp ew).1
 exact wpAny_getItem_list pl.isList (by omega) (by omega) (by simpa using ew) ⟨v,H,I,rw',q⟩
section
variable {X:Cx} {pins:List (Addr×Obj)} {σ:St} {H:Hp} {s:Shared} {a:Addr} {kvs:List (Key×V)} {k:Key} {u r:Value} {A:Around} {E:Value→Shared→Prop}
theorem E7 {x:V} {Q:Value→Shared→Prop} (I:Inv X pins σ H s) (e:H a=some (.dK kvs)) (ry:RelV (kV k) u) (rx:RelV x r) (hz:kvs.length<sizeLine) (h1:∀ v w' s',valV kvs k=some v→Inv X pins σ H s'→RelV v w'→Q w' s')
  (h2:valV kvs k=none→∀ s',Inv X pins σ (upd H a (.dK (putK kvs k x))) s'→Q r s'):wpAny (model X.prog X.w) A (call (.builtin "dict.setdefault") [.ref a,u,r]) Q E s:=by
 obtain⟨z,hd,vs,rel,dd⟩:=FT I.hok e
 have hl:(putK kvs k x).length≤sizeLine:=by have:=uA kvs k x; omega
 refine call_meetsIn PySem.F.slot_dict_setdefault dd.typeIs PySem.F.entry_dict_setdefault (PySem.F.args_dict_setdefault_3 _ _ _) (kt_meets_setdefault (mU X.prog X.w) a (wu ry) hd r) ⟨vs,dd,by rw[← rel.length]; exact z,fun w' hw=>?_,fun hn h' dd' hs=>?_⟩
 ·cases hv:valV kvs k with
  | none =>
   have:valueAt vs k=none:=RelO.none_of (by rw[← hv]; exact rel.val k)
   rw[this] at hw
   cases hw
  | some v =>
   obtain⟨w2,hw2,rw2⟩:=RelO.some_of (v:=v) (o:=valueAt vs k) (by rw[← hv]; exact rel.val k)
   rw[hw] at hw2
   cases hw2
   exact h1 v _ _ hv (I.tok _) rw2
 ·have hv:valV kvs k=none:=by
   cases hv:valV kvs k with
   | none=>rfl
   | some v =>
    obtain⟨w2,hw2,_⟩:=RelO.some_of (v:=v) (o:=valueAt vs k) (by rw[← hv]; exact rel.val k)
    rw[hn] at hw2
    cases hw2
  have he:∃ q,h'.get? a=some q:=let ⟨q,_,_,hq,_⟩:=dd'; ⟨q,hq⟩
  exact h2 hv _ (yH I (by rw[e]; exact True.intro) hs he (Al hl hd (rel.put k rx) dd'))
end
def Au (td ty tx:TE):TE:=fun σ H Q=>td σ H fun x H1=>∃ a,x=.ref a∧IsD H1 a∧ty σ H1 fun y H2=>tx σ H2 fun z H3=>∃ kvs k,H3 a=some (.dK kvs)∧y=kV k∧kvs.length<sizeLine ∧
 (∀ v,valV kvs k=some v→Q v H3)∧(valV kvs k=none→Q z (upd H3 a (.dK (putK kvs k z))))
section
variable {X:Cx} {o e f:Expr} {apos cpos:Pos} {td ty tx:TE}
theorem CN (ho:PE X o td) (he:PE X e ty) (hf:PE X f tx) (m:M2 X o "setdefault" apos e f cpos):PE X (.Call (.Attribute o "setdefault" apos) [e,f] [] cpos) (Au td ty tx):=by
 intro pins s σ H Q I h
 refine wpAny_Call_method m.base m.few m.line PySem.F.plainAttrs_dict PySem.F.slot_dict_setdefault PySem.F.type_dict_setdefault (thn (ho pins s σ H _ I h) fun u s1 ⟨x,H1,I1,rx,a,ex,d,q1⟩=>?_)
 subst ex
 obtain rfl:u=Value.ref a:=rx
 obtain⟨t1,t2,_⟩:=C2 I1 d
 refine⟨t1,t2,?_⟩
 rw[m.trees]
 refine Calls.callWith_builtin rfl (Calls.evalArgs_plain (Calls.spliced_cons (thn (he pins s1 σ H1 _ I1 q1) fun iv s2 ⟨y,H2,I2,ry,q2⟩ =>
  Calls.spliced_cons (thn (hf pins s2 σ H2 _ I2 q2) fun fv s3 ⟨z,H3,I3,rz,kvs,k,ea,ey,hz,qa,qb⟩=>Calls.spliced_nil ?_))))
 subst ey
 exact E7 I3 ea ry rz hz (fun v w' s4 hv I4 rw'=>⟨v,H3,I4,rw',qa v hv⟩) fun hn s4 I4=>⟨z,_,I4,rz,qb hn⟩
end
end L2
namespace PySem
open Sem (wp)
open PyProof.Rows
namespace SortD
section
variable {prog:Program} {w:World} {A:Around} {E:Value→Shared→Prop} {s:Shared} {K:Type} [DecidableEq K] {knd:KeyKind prog w K}
theorem Cn {B:Addr} {vs:List Value} {ns:List Int} {n:Nat} {Q:Value→Shared→Prop} (hB:s.heap.get? B=some (seqObj "list" vs.toArray n)) (hS:IntsAre vs ns) (hn:vs.length<64)
  (h:∀ out ns',IntsAre out.toList ns'→ns'.Perm ns→ns'.Pairwise (·≤·)→Q .none { s with heap:=sortedHeap s.heap B vs out }):wpAny (model prog w) A (call (.builtin "list.sort") [.ref B]) Q E s:=by
 refine wpAny_call (codeAny_call_builtin F.slot_list_sort.plain entry_list_sort (F.slot_list_sort.check _ _ _ _ _ _ _ _ ⟨_,hB,rfl⟩ (args_list_sort _) ?_))
 exact list_sort_tree hB hS hn fun out ns' h1 h2 h3=>h _ _ h1 h2 h3
theorem intsAre_of:∀ {vs:List Value} {ns:List Int},vs.length=ns.length→(∀ (i:Nat) (v:Value) (x:Int),vs[i]?=some v→ns[i]?=some x→∃ t,v=.int x t)→IntsAre vs ns
 | [],[],_,_=>.nil
 | v::vs,x::ns,hl,h=>by
  obtain⟨t,rfl⟩:=h 0 v x rfl rfl
  exact .cons x t (intsAre_of (by simpa using hl) fun i v x h1 h2=>h (i+1) v x (by simpa using h1) (by simpa using h2))
 | [],_::_,h,_=>by simp at h
 | _::_,[],h,_=>by simp at h
theorem call_sorted_dictI {d:Addr} {kvs:List (K×Value)} {ns:List Int} {Q:Value→Shared→Prop} (hh:A.handled=none) (hs:(d == sysModules)=false) (hD:s.heap.DictOf knd d kvs) (hl:ns.length=kvs.length) (hn:kvs.length<64)
  (hk:∀ (i:Nat) (k:K) (v x:Value) (y:Int),kvs[i]?=some (k,x)→ns[i]?=some y→knd.is k v=true→∃ t,v=.int y t)
  (h:∀ (h1 h':Heap) (tk:Nat) (out:Array Value) (e:Nat) (ns':List Int),(∀ b o,s.heap.get? b=some o→h1.get? b=some o)→(∀ b o,h1.get? b=some o→h'.get? b=some o)→h'.get? h1.objs.size=some (seqObj "list" out e)→IntsAre out.toList ns'→ns'.Perm ns→ns'.Pairwise (·≤·)→Q (.ref h1.objs.size) { s with heap:=h',toks:=tk }) :
  wpAny (model prog w) A (call (.builtin "sorted") [.ref d]) Q E s:=by
 obtain⟨o,es,ep,g1,x1,e1,k1,p1,nd⟩:=hD
 refine wpAny_call (codeAny_call_builtin plain_sorted entry_sorted (Ah ?_))
 unfold Builtin.sorted
 refine wpAny_bind (wpAny_of_eq (a:=()) rfl ?_)
 refine wpAny_bind (W.kdu_collect (W.kdl_dict (knd:=knd) (kvs:=kvs) (ep:=ep) hs) hh ⟨o,es,g1,x1,e1,k1,p1,nd⟩ (Nat.le_trans (Nat.le_of_lt hn) (by decide)) fun h1 tk1 acc kp hacc=>?_)
 obtain⟨za,ha⟩:=hacc
 have la:acc.toList.length=ns.length:=by rw[Array.length_toList,za,hl]
 have hS:IntsAre acc.toList ns:=intsAre_of la fun i v y h1 h2=>by
  rw[Array.getElem?_toList] at h1
  obtain⟨k,x,e2,e3⟩:=ha i v h1
  exact hk i k v x y e2 h2 e3
 refine wpAny_bind (wpAny_newList (hsz:=Nat.le_trans (m:=64) (by rw[la]; omega) (by decide)) ?_)
 have hB:(h1.push { cls:=Value.type "list",data:=Data.seq acc.toList.toArray }).get? h1.objs.size=some (seqObj "list" acc.toList.toArray 0):=Heap.get?_push_size _ rfl
 refine wpAny_bind (wpAny_holding (Cn (B:=h1.objs.size) hB hS (by rw[la]; omega) fun out ns' s1 s2 s3=>wpAny_pure ?_))
 obtain⟨e,he⟩:=sortedHeap_at (out:=out) hB
 refine h h1 _ _ out e ns' kp (fun b o hb1=>?_) he s1 s2 s3
 have lb:=Heap.lt_size hb1
 rw[sortedHeap_old (Nat.ne_of_lt lb) (by rw[Heap.size_push]; exact Nat.lt_succ_of_lt lb)]
 exact Heap.get?_push_of_some _ hb1
end
end SortD
end PySem
namespace L2
open PySem PySem.Spec PyProof.Rows
theorem Ay:∀ {xs:List V} {its:List Value},its.length=xs.length→(∀ (j:Nat) (v:Value),its[j]?=some v→∃ x,xs[j]?=some x∧RelV x v)→Vals xs its
 | [],[],_,_=>.nil
 | x::xs,v::its,hl,h=>by
  obtain⟨x',e,r⟩:=h 0 v rfl
  cases e
  exact .cons r (Ay (by simpa using hl) fun j u hu=>by simpa using h (j+1) u (by simpa using hu))
 | [],_::_,hl,_=>by simp at hl
 | _::_,[],hl,_=>by simp at hl
section
variable {X:Cx}
theorem Ba (hc:X.calm=true):qo X (.type "list") (fun xs H Q=>∃ (a:Addr) (kvs:List (Key×V)),xs=[.ref a]∧Rd H a (.dK kvs)∧∀ l,H l=none→Q (.ref l) (upd H l (.lst (kvs.map fun kv=>kV kv.1)))):=by
 intro pins s σ H xs us Q I r h
 obtain⟨a,kvs,rfl,hd,q⟩:=h
 obtain⟨u,rfl,rx⟩:=vals1 r
 cases rx
 obtain⟨z,sa,vs,rel,dd⟩:=vK I.hok hd
 obtain⟨ep,hat⟩:=dd.dictAt
 have len:=KV.len rel
 refine PySem.W.kdl_call (PySem.W.kdl_dict (knd:=mU X.prog X.w) (kvs:=vs) (ep:=ep) sa) (I.ok.hd hc) hat (by omega) fun h' tk acc c hk hS hacc=>?_
 refine⟨.ref _,_,I.laid (o:=.lst (kvs.map fun kv=>kV kv.1)) hk (Nat.le_refl _) ⟨by rw[List.length_map]; exact z,acc.toList,c,Ay (by rw[Array.length_toList,hacc.1,List.length_map]; omega) (fun j v hv=>?_),hS⟩,rfl,q _ (I.hok.fresh (Nat.le_refl _))⟩
 obtain⟨k,x,hx,hkey⟩:=hacc.2 j v (by rw[← Array.getElem?_toList]; exact hv)
 obtain⟨y,hy,_⟩:=KV.at rel hx
 exact⟨kV k,by rw[List.getElem?_map,hy]; rfl,yX hkey⟩
end
section
variable {X:Cx}
theorem Bl {ns:List Int} (h:0<ns.length):ns.getD (argBest (fun i j=>decide (ns.getD i 0<ns.getD j 0)) (ns.length-1)) 0∈ns∧(∀ a∈ns,ns.getD (argBest (fun i j=>decide (ns.getD i 0<ns.getD j 0)) (ns.length-1)) 0≤a)∧argBest (fun i j=>decide (ns.getD i 0<ns.getD j 0)) (ns.length-1)<ns.length:=by
 obtain⟨h1,h2⟩:=argBest_lt (fun i=>ns.getD i 0) (ns.length-1)
 have hb:argBest (fun i j=>decide (ns.getD i 0<ns.getD j 0)) (ns.length-1)<ns.length:=by
  have:argBest (fun i j=>decide (ns.getD i 0<ns.getD j 0)) (ns.length-1)≤ns.length-1:=h1
  omega
 refine⟨?_,fun a ha=>?_,hb⟩
 ·generalize argBest _ _=k at hb
  have e:ns.getD k 0=ns[k]:=by simp [List.getD,hb]
  rw[e]
  exact List.getElem_mem hb
 ·obtain⟨j,hj,rfl⟩:=List.getElem_of_mem ha
  have:=h2 j (by omega)
  have e:ns.getD j 0=ns[j]:=by simp [List.getD,hj]
  rw[← e]
  exact this
theorem DO (hc:X.calm=true):qo X (.builtin "min") (fun xs H Q=>∃ (p:Addr) (ns:List Int),xs=[.ref p]∧SqL X.K H p (ns.map V.int)∧0<ns.length∧∀ m,m∈ns→(∀ a∈ns,m≤a)→Q (.int m) H):=by
 intro pins s σ H xs us Q I r h
 obtain⟨p,ns,rfl,hq,hn,q⟩:=h
 obtain⟨u,rfl,rx⟩:=vals1 r
 cases rx
 obtain⟨b1,b2,b3⟩:=Bl hn
 obtain⟨its,r',pl,hz⟩:=I.list hq
 have hl:=pl.isList
 have hlt:p<s.heap.objs.size:=by obtain⟨_,e,_⟩:=hl; exact Heap.lt_size e
 have len:=r'.length
 rw[List.length_map] at len
 refine call_min_walk (wpAny_pyIter_list hl ⟨_,_,_,_,_,_,(fun i j=>decide (ns.getD i 0<ns.getD j 0)),rfl,Walks.list (A:=X.A.in1) (I.ok.hd hc) s.heap.objs.size p (Nat.ne_of_lt hlt) its.toArray,⟨⟨_,Heap.get?_push_size _ rfl,rfl,rfl⟩,hl.push _⟩,?_,?_,?_,?_⟩)
 ·intro b hb
  show b<(s.heap.push _).objs.size
  rw[Heap.size_push]
  rcases List.mem_cons.mp hb with rfl | hb
  ·exact Nat.lt_succ_self _
  ·rcases List.mem_cons.mp hb with rfl | hb
   ·exact Nat.lt_succ_of_lt hlt
   ·cases hb
 ·rw[List.size_toArray,← len]
  exact hn
 ·refine CmpOf.ints_lt (fun i=>ns.getD i 0) fun i v hP=>?_
  have hP':its[i]?=some v:=by simpa using hP
  obtain⟨hi,e⟩:=List.getElem?_eq_some_iff.mp hP'
  rw[← e]
  exact yz r' hi
 ·intro v h' tk hP hk
  have hP':its[argBest (fun i j=>decide (ns.getD i 0<ns.getD j 0)) (ns.length-1)]?=some v:=by
   rw[List.size_toArray,← len] at hP
   simpa using hP
  obtain⟨hi,e⟩:=List.getElem?_eq_some_iff.mp hP'
  obtain⟨t,e2⟩:=yz r' hi
  exact⟨.int _,H,I.kept (old_kept hk),⟨t,by rw[← e,e2]⟩,q _ b1 b2⟩
end
theorem xM {D a:Addr} {o:Obj} {g:TG} {tt:TT} {te:TE} {Q:VK} {τ:St} {H:Hp} (kvs:List (Key×V)) (Pv:Nat→St→Hp→Prop) (h0:Pv 0 τ H) (hl:∀ i τ H,i≤kvs.length→Pv i τ H→H a=some (.frz o (.dK kvs)))
  (hs:∀ i k v τ H (R:St→Hp→Prop),kvs[i]?=some (k,v)→Pv i τ H→(∀ τ' H',Pv (i+1) τ' H'→R τ' H')→uo D g tt te (kV k) τ H R) (hd:∀ τ H,Pv kvs.length τ H→Q (.ref D) H):u5 D (ItK a o kvs) g tt te Q τ H:=by
 refine⟨fun i m τ H=>m=kvs.length-i∧i≤kvs.length∧Pv i τ H,⟨kvs.length,by simp,Nat.zero_le _,h0⟩,?_⟩
 rintro i m τ H2 ⟨rfl,hi,p⟩
 by_cases e:i=kvs.length
 ·subst e
  exact .inl ⟨⟨Nat.le_refl _,hl _ _ _ hi p⟩,hd _ _ p⟩
 ·refine .inr ⟨⟨by omega,hl _ _ _ hi p⟩,fun x H' hy=>?_⟩
  obtain⟨rfl,k,v,hx,rfl⟩:=hy
  exact hs i k v τ _ (fun τ' H'=>∃ m',m'<kvs.length-i∧m'=kvs.length-(i+1)∧i+1≤kvs.length∧Pv (i+1) τ' H') hx p fun τ' H' p'=>⟨_,by omega,rfl,by omega,p'⟩
theorem yu:∀ {vs:List Value} {ns:List Int},IntsAre vs ns→Vals (ns.map V.int) vs
 | _,_,.nil=>.nil
 | _,_,.cons y t h=>.cons ⟨t,rfl⟩ (yu h)
section
variable {X:Cx}
theorem zF (hc:X.calm=true):qo X (.builtin "sorted") (fun xs H Q=>∃ (a:Addr) (kvs:List (Key×V)) (ns:List Int),xs=[.ref a]∧Rd H a (.dK kvs)∧kvs.map (·.1)=ns.map (Sum.inl:Int→Key)∧ns.length<64∧∀ (l:Addr) (ns':List Int),H l=none→ns'.Perm ns→ns'.Pairwise (·≤·)→Q (.ref l) (upd H l (.lst (ns'.map V.int)))):=by
 intro pins s σ H xs us Q I r h
 obtain⟨a,kvs,ns,rfl,hd,hk,hn,q⟩:=h
 obtain⟨u,rfl,rx⟩:=vals1 r
 cases rx
 obtain⟨_,sa,vs,rel,dd⟩:=vK I.hok hd
 have ek:=rel.keys
 have l1:ns.length=vs.length:=by
  have:=congrArg List.length (hk.symm.trans ek)
  simpa using this
 refine PySem.SortD.call_sorted_dictI (knd:=mU X.prog X.w) (ns:=ns) (I.ok.hd hc) sa dd l1 (by omega) (fun i k v x y h1 h2 h3=>?_) fun h1 h' tk out e ns' kp kp2 he hS hp hs=>?_
 ·have:(vs.map (·.1))[i]?=some (Sum.inl y:Key):=by rw[← ek,hk,List.getElem?_map,h2]; rfl
  rw[List.getElem?_map,h1] at this
  injection this with this
  have hk2:k=.inl y:=this
  subst hk2
  exact (yX (k:=.inl y) (u:=v) h3:RelV (kV (.inl y)) v)
 ·have I1:Inv X pins σ H { s with heap:=h1,toks:=tk }:=I.kept kp
  have len:ns'.length≤sizeLine:=Nat.le_trans (m:=64) (by rw[hp.length_eq]; omega) (by decide)
  exact⟨.ref h1.objs.size,_,I1.laid (t':=tk) (o:=.lst (ns'.map V.int)) kp2 (Nat.le_refl _) ⟨by rw[List.length_map]; exact len,out.toList,e,yu hS,by simpa using he⟩,rfl,q _ _ (I1.hok.fresh (Nat.le_refl _)) hp hs⟩
end
theorem DH (its:List Value):slicePick its.toArray none none (some (-1))=its.reverse.toArray:=by
 unfold slicePick
 rw[← HT.pick_turn its]
 congr 1
 simp only [sliceBounds,Option.getD_some,show ¬ ((-1:Int) > 0) by decide,if_false]
 unfold sliceRange
 simp only [show ¬ ((-1:Int) > 0) by decide,if_false]
 rw[List.filterMap_map]
 have e:(if ((its.toArray.size:Nat):Int)-1 > -1 then (((its.toArray.size:Nat):Int)-1 - -1 - -1-1) / (- -1) else 0).toNat=its.length:=by
  have e1:(-(-1):Int)=1:=by decide
  rw[e1,Int.ediv_one,List.size_toArray]
  split <;> omega
 rw[e]
 refine congrArg (fun f=>List.filterMap f (List.range its.length)) ?_
 funext k
 show its.toArray[(((its.toArray.size:Nat):Int)-1 + -1 * (k:Int)).toNat]?=_
 rw[List.size_toArray,Int.mul_comm]
def Ds (K:PySem.W.Frag):V→Hp→VK→Prop:=fun x H Q=>∃ a xs,x=.ref a∧SqL K H a xs∧∀ p,H p=none→Q (.ref p) (upd H p (.lst xs.reverse))
def DN (K:PySem.W.Frag) (te:TE) (ts:TO):TE:=fun σ H Q=>te σ H fun x H1=>ts σ H1 fun o H2=>o=some (-1)∧Ds K x H2 Q
theorem vB {X:Cx} {e st:Expr} {te:TE} {ts:TO} {pos p2:Pos} (he:PE X e te) (hs:PO X (some st) ts):PE X (.Subscript e (.Slice none none (some st) p2) pos) (DN X.K te ts):=by
 intro pins s σ H Q I h
 refine Subscript_ (thn (he pins s σ H _ I h) fun v s1 ⟨x,H1,I1,r1,q1⟩=>?_)
 refine wpAny_Slice ?_
 rw[evalPart_none]
 refine wpAny_pure ?_
 refine wpAny_pure ?_
 refine thn (hs pins s1 σ H1 _ I1 q1) fun vs s3 ⟨o,H3,I3,po,q3⟩=>?_
 obtain⟨rfl,a,xs,rfl,hx,q⟩:=q3
 cases r1
 have I4:Inv X pins σ H3 { s3 with heap:=s3.heap.push { cls:=.type "slice",data:=.fields #[.none,.none,vs] } }:=I3.kept (t':=s3.toks) fun b ob q=>Heap.get?_push_of_some _ q
 obtain⟨its,r,ht,hz⟩:=I4.list hx
 have hlen:=r.length
 show wpAny (model X.prog X.w) X.A (subscriptTail e (.Slice none none (some st) p2) (.ref a) (.ref s3.heap.objs.size)) (EP X pins σ Q) X.xe { s3 with heap:=s3.heap.push { cls:=.type "slice",data:=.fields #[.none,.none,vs] } }
 refine tail_any (ops:=[.ref a,.ref s3.heap.objs.size]) ht.isList.typeIs slot_list_getitem.lookup ?_ (by with_unfolding_all rfl)
 refine wpAny_getItem_list_slice ht.isList (Heap.IsSliceOf.new ..) .none .none po (by decide) ?_ (by rw[List.size_toArray]; omega)
 rw[DH]
 refine⟨.ref _,_,I4.laid (t':=s3.toks) (o:=.lst xs.reverse) (fun b ob q=>Heap.get?_push_of_some _ q) (Nat.le_refl _) ?_,rfl,q _ (I4.hok.fresh (Nat.le_refl _))⟩
 exact⟨by rw[List.length_reverse]; exact hz,_,0,r.reverse,Heap.get?_push_size _ rfl⟩
abbrev r9 (h:Heap) (T:Addr) (a b c:Value):Prop:=h.get? T=some { cls:=.type "tuple",data:=.seq #[a,b,c] }
structure Apart3 (z TI TO i1 i2 i3:Addr) (f1 f2 f3:List Addr):Prop where
 zTI:z≠TI
 zTO:z≠TO
 TITO:TI≠TO
 TI1:TI≠i1
 TI2:TI≠i2
 TI3:TI≠i3
 m1:i1∈f1
 m2:i2∈f2
 m3:i3∈f3
 z1:z ∉ f1
 z2:z ∉ f2
 z3:z ∉ f3
 t1:TO ∉ f1
 t2:TO ∉ f2
 t3:TO ∉ f3
 i12:i1 ∉ f2
 i13:i1 ∉ f3
 i21:i2 ∉ f1
 i23:i2 ∉ f3
 i31:i3 ∉ f1
 i32:i3 ∉ f2
section
variable {prog:Program} {w:World} {A:Around} {E:Value→Shared→Prop} {s:Shared} {z TI TO i1 i2 i3:Addr} {f1 f2 f3:List Addr} {n1 n2 n3 k:Nat} {P1 P2 P3:Nat→Value→Prop} {S1 S2 S3:Nat→Heap→Prop}
theorem zf {T:Addr} {a b c x:Value} {k:Nat} {Q:Unit→Shared→Prop} (hT:r9 s.heap T a b c) (h:∀ h',h'.get? T=some { cls:=.type "tuple",data:=.seq ((#[a,b,c]:Array Value).setIfInBounds k x) }→Heap.SameBut T s.heap h'→Q () { s with heap:=h' }) :
  wpAny (model prog w) A (updateSeq T (·.setIfInBounds k x)) Q E s:=by
 refine wpAny_updateSeq hT rfl (h _ ?_ (Heap.SameBut.update ..))
 rw[Heap.get?_update_self _ hT rfl]
 simp [Obj.mapSeq]
theorem Dy {a b c:Value} {Q:Value→Shared→Prop} (D1:Draws prog w A i1 f1 n1 P1 S1) (D2:Draws prog w A i2 f2 n2 P2 S2) (D3:Draws prog w A i3 f3 n3 P3 S3) (ap:Apart3 z TI TO i1 i2 i3 f1 f2 f3)
  (hz:IsZip s.heap z TI TO .none) (hTI:r9 s.heap TI (.ref i1) (.ref i2) (.ref i3)) (hTO:r9 s.heap TO a b c) (st1:S1 k s.heap) (st2:S2 k s.heap) (st3:S3 k s.heap) (h1:k<n1) (h2:k<n2) (h3:k<n3)
  (hQ:∀ h' tk x y v,P1 k x→P2 k y→P3 k v→IsZip h' z TI TO (rawInt s.heap.objs.size)→r9 h' TO x y v→S1 (k+1) h'→S2 (k+1) h'→S3 (k+1) h'→r9 h' s.heap.objs.size x y v →
   (∀ c o,c≠z→c≠TO→c≠i1→c≠i2→c≠i3→s.heap.get? c=some o→h'.get? c=some o)→Q (.ref s.heap.objs.size) { s with heap:=h',toks:=tk }) :
  wpAny (model prog w) A (Builtin.«zip.__next__» ⟨[.ref z],[]⟩) (fun fin s'=>∃ v,fin=.done (.ret v)∧Q v s') E s:=by
 show wpAny _ _ (field (.ref z) 2 >>= _) _ _ _
 refine wpAny_bind (wpAny_field hz rfl (x:=.bool false) rfl ?_)
 show wpAny _ _ (field (.ref z) 3 >>= _) _ _ _
 refine wpAny_bind (wpAny_field hz rfl (x:=.ref TI) rfl ?_)
 refine wpAny_bind (wpAny_seqItems hTI rfl ?_)
 show wpAny _ _ (Builtin.SmallTypes.ownedTupleIsFree (.ref z) >>= _) _ _ _
 refine wpAny_bind ?_
 unfold Builtin.SmallTypes.ownedTupleIsFree
 refine wpAny_bind (wpAny_field hz rfl (x:=.none) rfl (wpAny_pure ?_))
 simp only [if_true]
 refine wpAny_bind (wpAny_rule (wpAny_bind (wpAny_field hz rfl (x:=.ref TO) rfl (wpAny_bind (wpAny_setField_rec hz (by simp) fun g1 hz1 s1=>?_)))))
 replace hz1:IsZip g1 z TI TO .ellipsis:=hz1
 refine wpAny_bind ?_
 simp only [List.zipIdx_cons,List.zipIdx_nil,List.forIn_cons,List.forIn_nil]
 have nTO1:TO≠i1:=(kB ap.m1 ap.t1).symm
 have nTO2:TO≠i2:=(kB ap.m2 ap.t2).symm
 have nTO3:TO≠i3:=(kB ap.m3 ap.t3).symm
 have nz1:z≠i1:=(kB ap.m1 ap.z1).symm
 have nz2:z≠i2:=(kB ap.m2 ap.z2).symm
 have nz3:z≠i3:=(kB ap.m3 ap.z3).symm
 refine wpAny_bind (wpAny_bind (wpAny_onRaise ?_))
 show wpAny _ _ (Builtin.SmallTypes.nextOf (.ref i1) >>= _) _ _ _
 refine wpAny_bind (D1.item k _ _ _ h1 (gS D1 st1 s1.extBut ap.z1) fun x g2 tk2 px st1' s2=>wpAny_pure ?_)
 have hTO2:r9 g2 TO a b c:=s2.extBut _ _ nTO1 (s1.extBut _ _ ap.zTO.symm hTO)
 refine wpAny_bind (wpAny_seqItems hTO2 rfl (wpAny_bind (zf hTO2 fun g3 hTO3 s3=>wpAny_bind (wpAny_letGo (wpAny_pure ?_)))))
 replace hTO3:r9 g3 TO x b c:=hTO3
 refine wpAny_bind (wpAny_bind (wpAny_onRaise ?_))
 show wpAny _ _ (Builtin.SmallTypes.nextOf (.ref i2) >>= _) _ _ _
 refine wpAny_bind (D2.item k _ _ _ h2 (gS D2 (gS D2 (gS D2 st2 s1.extBut ap.z2) s2.extBut ap.i12) s3.extBut ap.t2) fun y g4 tk4 py st2' s4=>wpAny_pure ?_)
 have hTO4:r9 g4 TO x b c:=s4.extBut _ _ nTO2 hTO3
 refine wpAny_bind (wpAny_seqItems hTO4 rfl (wpAny_bind (zf hTO4 fun g5 hTO5 s5=>wpAny_bind (wpAny_letGo (wpAny_pure ?_)))))
 replace hTO5:r9 g5 TO x y c:=hTO5
 refine wpAny_bind (wpAny_bind (wpAny_onRaise ?_))
 show wpAny _ _ (Builtin.SmallTypes.nextOf (.ref i3) >>= _) _ _ _
 refine wpAny_bind (D3.item k _ _ _ h3 (gS D3 (gS D3 (gS D3 (gS D3 (gS D3 st3 s1.extBut ap.z3) s2.extBut ap.i13) s3.extBut ap.t3) s4.extBut ap.i23) s5.extBut ap.t3) fun v g6 tk6 pv st3' s6=>wpAny_pure ?_)
 have hTO6:r9 g6 TO x y c:=s6.extBut _ _ nTO3 hTO5
 refine wpAny_bind (wpAny_seqItems hTO6 rfl (wpAny_bind (zf hTO6 fun g7 hTO7 s7=>wpAny_bind (wpAny_letGo (wpAny_pure (wpAny_pure ?_))))))
 replace hTO7:r9 g7 TO x y v:=hTO7
 refine wpAny_bind (wpAny_seqItems hTO7 rfl (wpAny_bind (wpAny_newTuple ?_)))
 have hsz:g7.objs.size=s.heap.objs.size:=by rw[s7.1,s6.1,s5.1,s4.1,s3.1,s2.1,s1.1]
 have hz7:IsZip g7 z TI TO .ellipsis:=s7.extBut _ _ ap.zTO (s6.extBut _ _ nz3 (s5.extBut _ _ ap.zTO (s4.extBut _ _ nz2 (s3.extBut _ _ ap.zTO (s2.extBut _ _ nz1 hz1)))))
 have k7:∀ c o,c≠z→c≠TO→c≠i1→c≠i2→c≠i3→s.heap.get? c=some o→g7.get? c=some o:=fun c o c1 c2 c3 c4 c5 e =>
  s7.extBut _ _ c2 (s6.extBut _ _ c5 (s5.extBut _ _ c2 (s4.extBut _ _ c4 (s3.extBut _ _ c2 (s2.extBut _ _ c3 (s1.extBut _ _ c1 e))))))
 have u1:S1 (k+1) g7:=gS D1 (gS D1 (gS D1 (gS D1 (gS D1 st1' s3.extBut ap.t1) s4.extBut ap.i21) s5.extBut ap.t1) s6.extBut ap.i31) s7.extBut ap.t1
 have u2:S2 (k+1) g7:=gS D2 (gS D2 (gS D2 st2' s5.extBut ap.t2) s6.extBut ap.i32) s7.extBut ap.t2
 have u3:S3 (k+1) g7:=gS D3 st3' s7.extBut ap.t3
 have zlt:z<g7.objs.size:=Heap.lt_size hz7
 show wpAny _ _ (Builtin.SmallTypes.ownedTupleHandOut (.ref z) (.ref g7.objs.size) >>= _) _ _ _
 refine wpAny_bind ?_
 unfold Builtin.SmallTypes.ownedTupleHandOut
 have hz8:IsZip (g7.push { cls:=.type "tuple",data:=.seq #[x,y,v] }) z TI TO .ellipsis:=Heap.get?_push_of_some _ hz7
 refine wpAny_bind (wpAny_setField_rec hz8 (by simp) fun g9 hz9 s9=>?_)
 replace hz9:IsZip g9 z TI TO (rawInt g7.objs.size):=hz9
 refine wpAny_setField_rec hz9 (by simp) fun gA hzA sA=>?_
 replace hzA:IsZip gA z TI TO (rawInt g7.objs.size):=hzA
 have up:∀ c o,c≠z→g7.get? c=some o→gA.get? c=some o:=fun c o c1 e=>sA.extBut _ _ c1 (s9.extBut _ _ c1 (Heap.get?_push_of_some _ e))
 have hTA:r9 gA g7.objs.size x y v:=sA.extBut _ _ (Nat.ne_of_gt zlt) (s9.extBut _ _ (Nat.ne_of_gt zlt) (Heap.get?_push_size _ rfl))
 rw[hsz] at hzA hTA
 refine wpAny_pure ⟨_,rfl,?_⟩
 show Q (.ref g7.objs.size) _
 rw[hsz]
 exact hQ gA tk6 x y v px py pv hzA (up _ _ ap.zTO.symm hTO7) (D1.frame _ _ _ u1 fun b hb o q=>up b o (fun x=>ap.z1 (x ▸ hb)) q) (D2.frame _ _ _ u2 fun b hb o q=>up b o (fun x=>ap.z2 (x ▸ hb)) q) (D3.frame _ _ _ u3 fun b hb o q=>up b o (fun x=>ap.z3 (x ▸ hb)) q) hTA fun c o c1 c2 c3 c4 c5 e=>up c o c1 (k7 c o c1 c2 c3 c4 c5 e)
theorem E6 {a b c:Value} {Q:Fin→Shared→Prop} (D1:Draws prog w A i1 f1 n1 P1 S1) (ap:Apart3 z TI TO i1 i2 i3 f1 f2 f3)
  (hz:IsZip s.heap z TI TO .none) (hTI:r9 s.heap TI (.ref i1) (.ref i2) (.ref i3)) (hTO:r9 s.heap TO a b c) (st1:S1 k s.heap) (hk:k=n1)
  (hE:∀ h' tk e,(∀ c o,c≠z→c≠TO→c≠i1→c≠i2→c≠i3→s.heap.get? c=some o→h'.get? c=some o)→(∃ o,h'.get? e=some o∧o.cls=.type "StopIteration")→E (.ref e) { s with heap:=h',toks:=tk }) :
  wpAny (model prog w) A (Builtin.«zip.__next__» ⟨[.ref z],[]⟩) Q E s:=by
 show wpAny _ _ (field (.ref z) 2 >>= _) _ _ _
 refine wpAny_bind (wpAny_field hz rfl (x:=.bool false) rfl ?_)
 show wpAny _ _ (field (.ref z) 3 >>= _) _ _ _
 refine wpAny_bind (wpAny_field hz rfl (x:=.ref TI) rfl ?_)
 refine wpAny_bind (wpAny_seqItems hTI rfl ?_)
 show wpAny _ _ (Builtin.SmallTypes.ownedTupleIsFree (.ref z) >>= _) _ _ _
 refine wpAny_bind ?_
 unfold Builtin.SmallTypes.ownedTupleIsFree
 refine wpAny_bind (wpAny_field hz rfl (x:=.none) rfl (wpAny_pure ?_))
 simp only [if_true]
 refine wpAny_bind (wpAny_rule (wpAny_bind (wpAny_field hz rfl (x:=.ref TO) rfl (wpAny_bind (wpAny_setField_rec hz (by simp) fun g1 hz1 s1=>?_)))))
 replace hz1:IsZip g1 z TI TO .ellipsis:=hz1
 refine wpAny_bind ?_
 simp only [List.zipIdx_cons,List.zipIdx_nil,List.forIn_cons,List.forIn_nil]
 refine wpAny_bind (wpAny_bind (wpAny_onRaise ?_))
 show wpAny _ _ (Builtin.SmallTypes.nextOf (.ref i1) >>= _) _ _ _
 have nz1:z≠i1:=(kB ap.m1 ap.z1).symm
 subst hk
 refine wpAny_bind (D1.done _ _ _ (gS D1 st1 s1.extBut ap.z1) fun g2 e s2 he=>?_)
 obtain⟨oe,hoe,hce⟩:=he
 have hz2:IsZip g2 z TI TO .ellipsis:=s2 _ _ nz1 hz1
 have hez:e≠z:=fun x=>by subst x; rw[hz2] at hoe; cases hoe; simp at hce
 exact wpAny_setField_rec hz2 (by simp) fun g3 _ s3=>hE g3 _ e (fun c o c1 _ c3 _ _ x=>s3.extBut _ _ c1 (s2 _ _ c3 (s1.extBut _ _ c1 x))) ⟨oe,s3.extBut _ _ hez hoe,hce⟩
abbrev zqA (h:Heap) (l:Addr):Heap:=h.push { cls:=.type "list_iterator",data:=.fields #[.ref l,.int 0 0] }
abbrev zqD (h:Heap) (l1 l2 l3:Addr):Heap:=(zqA (zqA (zqA h l1) l2) l3).push { cls:=.type "tuple",data:=.seq #[.ref h.objs.size,.ref (zqA h l1).objs.size,.ref (zqA (zqA h l1) l2).objs.size] }
abbrev zqE (h:Heap) (l1 l2 l3:Addr):Heap:=(zqD h l1 l2 l3).push { cls:=.type "tuple",data:=.seq #[.none,.none,.none] }
abbrev zqF (h:Heap) (l1 l2 l3:Addr):Heap:=(zqE h l1 l2 l3).push { cls:=.type "zip",data:=.fields #[.none,.bool false,.bool false,.ref (zqA (zqA (zqA h l1) l2) l3).objs.size,.ref (zqD h l1 l2 l3).objs.size] }
def BF (h:Heap) (l1 l2 l3:Addr) (h':Heap):Prop:=IsZip h' (h.objs.size+5) (h.objs.size+3) (h.objs.size+4) .none∧r9 h' (h.objs.size+3) (.ref h.objs.size) (.ref (h.objs.size+1)) (.ref (h.objs.size+2))∧r9 h' (h.objs.size+4) .none .none .none ∧
 h'.IsListIter h.objs.size l1 0∧h'.IsListIter (h.objs.size+1) l2 0∧h'.IsListIter (h.objs.size+2) l3 0∧∀ c o,h.get? c=some o→h'.get? c=some o
theorem Ep (h:Heap) (l1 l2 l3:Addr):(zqE h l1 l2 l3).objs.size=h.objs.size+5∧BF h l1 l2 l3 (zqF h l1 l2 l3):=by
 have a:(zqA h l1).objs.size=h.objs.size+1:=Heap.size_push ..
 have b:(zqA (zqA h l1) l2).objs.size=h.objs.size+2:=by rw[Heap.size_push,a]
 have c:(zqA (zqA (zqA h l1) l2) l3).objs.size=h.objs.size+3:=by rw[Heap.size_push,b]
 have d:(zqD h l1 l2 l3).objs.size=h.objs.size+4:=by rw[Heap.size_push,c]
 have e:(zqE h l1 l2 l3).objs.size=h.objs.size+5:=by rw[Heap.size_push,d]
 have p6:(zqF h l1 l2 l3).get? (zqE h l1 l2 l3).objs.size=some _:=Heap.get?_push_size _ rfl
 have p5:(zqF h l1 l2 l3).get? (zqD h l1 l2 l3).objs.size=some _:=Heap.get?_push_of_some _ (Heap.get?_push_size _ rfl)
 have p4:(zqF h l1 l2 l3).get? (zqA (zqA (zqA h l1) l2) l3).objs.size=some _:=Heap.get?_push_of_some _ (Heap.get?_push_of_some _ (Heap.get?_push_size _ rfl))
 have p3:(zqF h l1 l2 l3).get? (zqA (zqA h l1) l2).objs.size=some _:=Heap.get?_push_of_some _ (Heap.get?_push_of_some _ (Heap.get?_push_of_some _ (Heap.get?_push_size _ rfl)))
 have p2:(zqF h l1 l2 l3).get? (zqA h l1).objs.size=some _:=Heap.get?_push_of_some _ (Heap.get?_push_of_some _ (Heap.get?_push_of_some _ (Heap.get?_push_of_some _ (Heap.get?_push_size _ rfl))))
 have p1:(zqF h l1 l2 l3).get? h.objs.size=some _:=Heap.get?_push_of_some _ (Heap.get?_push_of_some _ (Heap.get?_push_of_some _ (Heap.get?_push_of_some _ (Heap.get?_push_of_some _ (Heap.get?_push_size _ rfl)))))
 rw[c,d,e] at p6
 rw[d] at p5
 rw[a,b,c] at p4
 rw[b] at p3
 rw[a] at p2
 exact⟨e,p6,p4,p5,⟨_,p1,rfl,rfl⟩,⟨_,p2,rfl,rfl⟩,⟨_,p3,rfl,rfl⟩,fun c o x=>Heap.get?_push_of_some _ (Heap.get?_push_of_some _ (Heap.get?_push_of_some _ (Heap.get?_push_of_some _ (Heap.get?_push_of_some _ (Heap.get?_push_of_some _ x)))))⟩
theorem zK (l1 l2 l3:Addr) (xs ys zs:Array Value) :
  Meets (Builtin.«zip.__new__» ⟨[.type "zip",.ref l1,.ref l2,.ref l3],[]⟩) (fun _ R s=>s.heap.IsList l1 xs∧s.heap.IsList l2 ys∧s.heap.IsList l3 zs∧R (.ok (.ret (.ref (zqE s.heap l1 l2 l3).objs.size))) { s with heap:=zqF s.heap l1 l2 l3 }) :=
 .of_wp fun prog w A R s h=>by
  obtain⟨hp,g,d,tk,os⟩:=s
  obtain⟨hl1,hl2,hl3,h⟩:=h
  have hsub:=sub_zip
  have hL1:Heap.IsList (Shared.heap ⟨hp,g,d,tk,os⟩) l1 xs:=hl1
  have hL2:Heap.IsList (Shared.heap ⟨zqA hp l1,g,d,tk,os⟩) l2 ys:=by
   obtain⟨o,ho,q⟩:=hl2
   exact⟨o,Heap.get?_push_of_some _ ho,q⟩
  have hL3:Heap.IsList (Shared.heap ⟨zqA (zqA hp l1) l2,g,d,tk,os⟩) l3 zs:=by
   obtain⟨o,ho,q⟩:=hl3
   exact⟨o,Heap.get?_push_of_some _ (Heap.get?_push_of_some _ ho),q⟩
  wp_walk using wpAny_pyIter_list hL1,wpAny_pyIter_list hL2,wpAny_pyIter_list hL3
  exact⟨_,rfl,h⟩
theorem yy (a b c:Value):checkTypeCall "zip" ⟨[a,b,c],[]⟩=pure ():=by kernel_rfl
theorem zM (a b c:Value):checkBuiltinCall "zip.__new__" ⟨[.type "zip",a,b,c],[]⟩=pure ():=by kernel_rfl
theorem Ag (a b c d:Value):argsOk "object.__init__" ⟨[a,b,c,d],[]⟩:=by
 unfold argsOk
 rw[signature?_of (id:="object.__init__") (n:=['_','_','t','i','n','i','_','_']) (o:=['t','c','e','j','b','o']) (by kernel_rfl) F.owner_object]
 kernel_rfl
theorem AD {l1 l2 l3:Addr} {xs ys zs:Array Value} {Q:Value→Shared→Prop} (hl1:s.heap.IsList l1 xs) (hl2:s.heap.IsList l2 ys) (hl3:s.heap.IsList l3 zs) (h:∀ h',BF s.heap l1 l2 l3 h'→Q (.ref (s.heap.objs.size+5)) { s with heap:=h' }) :
  wpAny (model prog w) A (call (.type "zip") [.ref l1,.ref l2,.ref l3]) Q E s:=by
 obtain⟨e,N⟩:=Ep s.heap l1 l2 l3
 refine callType_new F.called_zip (by decide) (yy _ _ _) (zM _ _ _) (fun obj=>Ag obj _ _ _) F.entry_zip_new (zK l1 l2 l3 xs ys zs) ⟨hl1,hl2,hl3,?_⟩
 show _∧_
 rw[e]
 exact⟨⟨_,N.1,rfl⟩,h _ N⟩
end
theorem F0 {P:Program} {w:World} {H:Hp} {h:Heap} {T:Addr} {a b c:V} {u v x:Value} {n:Nat} (ra:RelV a u) (rb:RelV b v) (rc:RelV c x) (e:h.get? T=some { cls:=.type "tuple",data:=.seq #[u,v,x] n }):ObjOk P w H h T (.tup [a,b,c]) :=
 ⟨show 3≤sizeLine by decide,[u,v,x],.cons ra (.cons rb (.cons rc .nil)),⟨_,e,rfl,_,rfl⟩,_,e,rfl⟩
def It3 (K:PySem.W.Frag) (a b c:Addr):It:=⟨fun i H=>∃ xs ys zs x y v,SqL K H a xs∧SqL K H b ys∧SqL K H c zs∧xs[i]?=some x∧ys[i]?=some y∧zs[i]?=some v,
 fun i H x H'=>∃ T u v t,H T=none∧x=.ref T∧H'=upd H T (.tup [u,v,t])∧(∀ xs,SqL K H a xs→xs[i]?=some u)∧(∀ ys,SqL K H b ys→ys[i]?=some v)∧∀ zs,SqL K H c zs→zs[i]?=some t,
 fun i H=>∃ xs,SqL K H a xs∧xs.length=i⟩
theorem CZ {P:Program} {w:World} {K:PySem.W.Frag} {elts:List Expr} {kk:Nat} {pos:Pos} (a b c z TI TO i1 i2 i3:Addr) (ap:Apart3 z TI TO i1 i2 i3 [i1,a] [i2,b] [i3,c]) (ha:a≠i1) (hb:b≠i2) (hc3:c≠i3) :
  Turn P w K (.Tuple elts kk pos) (It3 K a b c) [z,TI,TO,i1,i2,i3] z (fun i h=>IsZip h z TI TO .none∧r9 h TI (.ref i1) (.ref i2) (.ref i3)∧(∃ u v t,r9 h TO u v t)∧h.IsListIter i1 a i∧h.IsListIter i2 b i∧h.IsListIter i3 c i) where
 mem:=by simp
 obj:=fun i h st d hd=>by
  obtain⟨hz,hTI,⟨u,v,t,hTO⟩,⟨o1,e1,_,d1⟩,⟨o2,e2,_,d2⟩,⟨o3,e3,_,d3⟩⟩:=st
  simp only [List.mem_cons,List.not_mem_nil,or_false] at hd
  rcases hd with rfl | rfl | rfl | rfl | rfl | rfl
  ·exact⟨_,hz,fun v z=>by cases z⟩
  ·exact⟨_,hTI,fun v z=>by cases z⟩
  ·exact⟨_,hTO,fun v z=>by cases z⟩
  ·exact⟨_,e1,fun v z=>by rw[d1] at z; cases z⟩
  ·exact⟨_,e2,fun v z=>by rw[d2] at z; cases z⟩
  ·exact⟨_,e3,fun v z=>by rw[d3] at z; cases z⟩
 keep:=fun i h h' st k=>by
  obtain⟨hz,hTI,⟨u,v,t,hTO⟩,h1,h2,h3⟩:=st
  exact⟨k _ (by simp) _ hz,k _ (by simp) _ hTI,⟨u,v,t,k _ (by simp) _ hTO⟩,h1.at fun o q=>k i1 (by simp) o q,h2.at fun o q=>k i2 (by simp) o q,h3.at fun o q=>k i3 (by simp) o q⟩
 item:=by
  intro X hP hw hK hc i pins s σ H E I hf st hg
  subst hP hw hK
  obtain⟨xs,ys,zs,x,y,v0,hq1,hq2,hq3,hx,hy,hv0⟩:=hg
  obtain⟨hz,hTI,⟨u,v,t,hTO⟩,h1,h2,h3⟩:=st
  obtain⟨t1,r1,p1,z1⟩:=I.list hq1
  obtain⟨t2,r2,p2,z2⟩:=I.list hq2
  obtain⟨t3,r3,p3,z3⟩:=I.list hq3
  obtain⟨u1,hu1,ru1⟩:=r1.get hx
  obtain⟨u2,hu2,ru2⟩:=r2.get hy
  obtain⟨u3,hu3,ru3⟩:=r3.get hv0
  have e1:t1.toArray[i]?=some u1:=by simpa using hu1
  have e2:t2.toArray[i]?=some u2:=by simpa using hu2
  have e3:t3.toArray[i]?=some u3:=by simpa using hu3
  have D1:=Draws.list (prog:=X.prog) (w:=X.w) (A:=X.A.in1) (show X.A.in1.handled=none from I.ok.hd hc) i1 a ha t1.toArray
  have D2:=Draws.list (prog:=X.prog) (w:=X.w) (A:=X.A.in1) (show X.A.in1.handled=none from I.ok.hd hc) i2 b hb t2.toArray
  have D3:=Draws.list (prog:=X.prog) (w:=X.w) (A:=X.A.in1) (show X.A.in1.handled=none from I.ok.hd hc) i3 c hc3 t3.toArray
  have hT:s.TypeIs (.ref z) "zip":=⟨_,hz,rfl⟩
  have lt:∀ {c:Addr} {o:Obj},s.heap.get? c=some o→c≠s.heap.objs.size:=fun e=>Nat.ne_of_lt (Heap.lt_size e)
  unfold pyNext
  refine wpAny_bind (wpAny_attempt (wpAny_callSpecial?_slot (name:=Str.ofString "__next__") hT F.slot_zip_next
   (wpAny_call_entry F.slot_zip_next hT F.entry_zip_next (Dy D1 D2 D3 ap hz hTI hTO ⟨h1,p1.isList⟩ ⟨h2,p2.isList⟩ ⟨h3,p3.isList⟩ (Array.getElem?_eq_some_iff.mp e1).1 (Array.getElem?_eq_some_iff.mp e2).1 (Array.getElem?_eq_some_iff.mp e3).1
    fun h' tk x' y' v' px py pv a1 a2 s1 s2 s3 a5 hk=>wpAny_pure ⟨_,rfl,?_⟩) (F.args_zip_next_1 _))))
  rw[e1] at px
  cases px
  rw[e2] at py
  cases py
  rw[e3] at pv
  cases pv
  refine wpAny_letOwnedTupleGo_zip a1 fun g2 hz2 hs2=>?_
  have hT2:g2.get? s.heap.objs.size=some { cls:=.type "tuple",data:=.seq #[u1,u2,u3] }:=(hs2.2 _ (lt hz).symm).trans a5
  have hf':H s.heap.objs.size=none:=I.hok.fresh (Nat.le_refl _)
  have nzTI:=ap.zTI
  have nzTO:=ap.zTO
  have nz1:z≠i1:=(kB ap.m1 ap.z1).symm
  have nz2:z≠i2:=(kB ap.m2 ap.z2).symm
  have nz3:z≠i3:=(kB ap.m3 ap.z3).symm
  refine⟨.ref s.heap.objs.size,upd H s.heap.objs.size (.tup [x,y,v0]),?_,rfl,⟨_,x,y,v0,hf',rfl,rfl,fun ys hy=>by rw[I.list_inj hy hq1]; exact hx,fun ys hy'=>by rw[I.list_inj hy' hq2]; exact hy,fun ys hy'=>by rw[I.list_inj hy' hq3]; exact hv0⟩,
   ⟨hz2,hs2.extBut _ _ nzTI.symm (hk _ _ nzTI.symm ap.TITO ap.TI1 ap.TI2 ap.TI3 hTI),⟨_,_,_,hs2.extBut _ _ nzTO.symm a2⟩,s1.1.at fun o q=>hs2.extBut _ _ nz1.symm q,s2.1.at fun o q=>hs2.extBut _ _ nz2.symm q,s3.1.at fun o q=>hs2.extBut _ _ nz3.symm q⟩,fun d hd=>?_⟩
  ·exact I.drew (ch:=[z,TI,TO,i1,i2,i3]) (tk:=tk) hf (fun c o hc q=>hs2.extBut _ _ (fun e=>hc (by simp [e])) (hk c o (fun e=>hc (by simp [e])) (fun e=>hc (by simp [e])) (fun e=>hc (by simp [e])) (fun e=>hc (by simp [e])) (fun e=>hc (by simp [e])) q)) (Nat.le_refl _) (F0 ru1 ru2 ru3 hT2)
  ·have hn:d≠s.heap.objs.size:=by
    obtain⟨o1,g1,_⟩:=h1
    obtain⟨o2,g2,_⟩:=h2
    obtain⟨o3,g3,_⟩:=h3
    simp only [List.mem_cons,List.not_mem_nil,or_false] at hd
    rcases hd with rfl | rfl | rfl | rfl | rfl | rfl
    ·exact lt hz
    ·exact lt hTI
    ·exact lt hTO
    ·exact lt g1
    ·exact lt g2
    ·exact lt g3
   rw[fj hn]
   exact (hf d hd).1
 done:=by
  intro X hP hw hK hc i pins s σ H E I hf st hg
  subst hP hw hK
  obtain⟨xs,hq1,hi⟩:=hg
  obtain⟨hz,hTI,⟨u,v,t,hTO⟩,h1,h2,h3⟩:=st
  obtain⟨t1,r1,p1,z1⟩:=I.list hq1
  have l1:=r1.length
  have D1:=Draws.list (prog:=X.prog) (w:=X.w) (A:=X.A.in1) (show X.A.in1.handled=none from I.ok.hd hc) i1 a ha t1.toArray
  have hT:s.TypeIs (.ref z) "zip":=⟨_,hz,rfl⟩
  unfold pyNext
  refine wpAny_bind (wpAny_attempt (wpAny_callSpecial?_slot (name:=Str.ofString "__next__") hT F.slot_zip_next
   (wpAny_call_entry F.slot_zip_next hT F.entry_zip_next (E6 D1 ap hz hTI hTO ⟨h1,p1.isList⟩ (by rw[List.size_toArray]; omega) fun h' tk e hk he=>?_) (F.args_zip_next_1 _))))
  obtain⟨o,ho,hc'⟩:=he
  refine wpAny_bind (wpAny_isInstance (T:="StopIteration") (b:=true) ⟨o,ho,hc'⟩ isSubtype_stop ?_)
  exact wpAny_pure ⟨rfl,I.turns (ch:=[z,TI,TO,i1,i2,i3]) (tk:=tk) hf fun c o hc q=>hk c o (fun e=>hc (by simp [e])) (fun e=>hc (by simp [e])) (fun e=>hc (by simp [e])) (fun e=>hc (by simp [e])) (fun e=>hc (by simp [e])) q⟩
 self:=fun A i s Q E st h=>wpAny_pyIter_zip st.1 h
theorem CI (n a b c:Nat) (ha:a<n) (hb:b<n) (hc:c<n):Apart3 (n+5) (n+3) (n+4) n (n+1) (n+2) [n,a] [n+1,b] [n+2,c]:=by
 constructor <;> first | simp only [List.mem_cons,List.not_mem_nil,or_false,true_or,not_or] | skip
 all_goals first | (exact trivial) | (intro h; have h':(_:Nat)=_:=h; omega) | (constructor <;> (intro h; have h':(_:Nat)=_:=h; omega))
def Fo (K:PySem.W.Frag) (ta:TA):TI:=fun σ H R=>ta σ H fun vs H1=>∃ a b c,vs=[.ref a,.ref b,.ref c]∧(∃ xs,SqL K H1 a xs)∧(∃ ys,SqL K H1 b ys)∧(∃ zs,SqL K H1 c zs)∧R (It3 K a b c) H1
theorem Gx {X:Cx} {elts:List Expr} {kk:Nat} {tpos:Pos} {a b c:Expr} {ta:TA} {p pos:Pos} (hg:Gl X "zip") (hm:X.mg "zip"=none) (ha:PA X [a,b,c] ta) (hs:starEach [a,b,c] X.env=(false,eval a X.env)::starEach [b,c] X.env:=by rfl) (hs2:(backTo pos (starEach [b,c] X.env)).any (·.1)=false:=by rfl) :
  PI X (.Tuple elts kk tpos) (.Call (.Name "zip" p) [a,b,c] [] pos) (Fo X.K ta):=by
 intro pins s σ H R I h
 refine Call_ (uz I hg hm FP (PyProof.Rows.callWith_type1 (thn (ha pos pins s σ H _ I h) fun us s1 ⟨vs,H1,I1,r1,q1⟩=>?_) hs hs2))
 obtain⟨l1,l2,l3,e,⟨xs,hq1⟩,⟨ys,hq2⟩,⟨zs,hq3⟩,q⟩:=q1
 subst e
 cases r1 with
 | cons r rr =>
  cases rr with
  | cons r' rr =>
   cases rr with
   | cons r'' rr =>
    cases rr
    cases r
    cases r'
    cases r''
    obtain⟨t1,v1,p1,z1⟩:=I1.list hq1
    obtain⟨t2,v2,p2,z2⟩:=I1.list hq2
    obtain⟨t3,v3,p3,z3⟩:=I1.list hq3
    have lt1:l1<s1.heap.objs.size:=by obtain⟨o,ho,_⟩:=p1.isList; exact Heap.lt_size ho
    have lt2:l2<s1.heap.objs.size:=by obtain⟨o,ho,_⟩:=p2.isList; exact Heap.lt_size ho
    have lt3:l3<s1.heap.objs.size:=by obtain⟨o,ho,_⟩:=p3.isList; exact Heap.lt_size ho
    refine AD p1.isList p2.isList p3.isList fun h' N=>?_
    obtain⟨hz,hTI,hTO,h1,h2,h3,hk⟩:=N
    refine wpAny_pyIter_zip hz ?_
    refine⟨_,[s1.heap.objs.size+5,s1.heap.objs.size+3,s1.heap.objs.size+4,s1.heap.objs.size,s1.heap.objs.size+1,s1.heap.objs.size+2],_,_,H1,rfl,I1.kept (t':=s1.toks) hk,
     CZ l1 l2 l3 _ _ _ _ _ _ (CI _ _ _ _ lt1 lt2 lt3) (Nat.ne_of_lt lt1) (Nat.ne_of_lt (Nat.lt_succ_of_lt lt2)) (Nat.ne_of_lt (Nat.lt_succ_of_lt (Nat.lt_succ_of_lt lt3))),⟨hz,hTI,⟨_,_,_,hTO⟩,h1,h2,h3⟩,fun d hd=>?_,q⟩
    have le:s1.heap.objs.size≤d:=by
     simp only [List.mem_cons,List.not_mem_nil,or_false] at hd
     rcases hd with rfl | rfl | rfl | rfl | rfl | rfl
     ·exact Nat.le_add_right _ _
     ·exact Nat.le_add_right _ _
     ·exact Nat.le_add_right _ _
     ·exact Nat.le_refl _
     ·exact Nat.le_add_right _ _
     ·exact Nat.le_add_right _ _
    exact I1.fpOk le (I1.hok.fresh le)
theorem CM {K:PySem.W.Frag} {D a b c:Addr} {g:TG} {tt:TT} {te:TE} {Q:VK} {τ:St} {H:Hp} (xs ys zs:List V) (len:xs.length=ys.length) (len3:xs.length=zs.length) (Pv:Nat→St→Hp→Prop) (h0:Pv 0 τ H)
  (hl:∀ i τ H,i≤xs.length→Pv i τ H→SqL K H a xs∧SqL K H b ys∧SqL K H c zs)
  (hs:∀ i x y v T τ H (R:St→Hp→Prop),xs[i]?=some x→ys[i]?=some y→zs[i]?=some v→Pv i τ H→H T=none→(∀ τ' H',Pv (i+1) τ' H'→R τ' H')→uo D g tt te (.ref T) τ (upd H T (.tup [x,y,v])) R) (hd:∀ τ H,Pv xs.length τ H→Q (.ref D) H):u5 D (It3 K a b c) g tt te Q τ H:=by
 refine⟨fun i m τ H=>m=xs.length-i∧i≤xs.length∧Pv i τ H,⟨xs.length,by simp,Nat.zero_le _,h0⟩,?_⟩
 rintro i m τ H2 ⟨rfl,hi,p⟩
 obtain⟨q1,q2,q3⟩:=hl i τ H2 hi p
 by_cases hlt:i<xs.length
 ·have hx:xs[i]?=some xs[i]:=by simp [hlt]
  have hlt2:i<ys.length:=by omega
  have hy:ys[i]?=some ys[i]:=by simp [hlt2]
  have hlt3:i<zs.length:=by omega
  have hv:zs[i]?=some zs[i]:=by simp [hlt3]
  refine .inr ⟨⟨xs,ys,zs,_,_,_,q1,q2,q3,hx,hy,hv⟩,fun x H' y=>?_⟩
  obtain⟨T,u,v,t,hT,e1,e2,y1,y2,y3⟩:=y
  subst e1 e2
  exact hs i _ _ _ T τ _ (fun τ' H'=>∃ m',m'<xs.length-i∧m'=xs.length-(i+1)∧i+1≤xs.length∧Pv (i+1) τ' H') (y1 xs q1) (y2 ys q2) (y3 zs q3) p hT fun τ' H' p'=>⟨_,by omega,rfl,hlt,p'⟩
 ·have e:i=xs.length:=by omega
  subst e
  exact .inl ⟨⟨xs,q1,rfl⟩,hd τ H2 p⟩
def Ai (ta:TA):TE:=fun σ H Q=>ta σ H fun vs H1=>∃ n:Nat,vs=[.int (n:Int)]∧n≤1000∧∀ l,H1 l=none→Q (.ref l) (upd H1 l (.lst ((List.range n).map fun j:Nat=>V.int (j:Int))))
theorem CQ {X:Cx} {e:Expr} {t:TA} {p1 p2 pos1 pos2:Pos} (hc:X.calm=true) (hg1:Gl X "list") (hm1:X.mg "list"=none) (hg2:Gl X "range") (hm2:X.mg "range"=none) (ha:PA X [e] t)
  (hst:starEach [e] X.env=(false,eval e X.env)::starEach [] X.env) (hst2:starEach [.Call (.Name "range" p2) [e] [] pos2] X.env=(false,eval (.Call (.Name "range" p2) [e] [] pos2) X.env)::starEach [] X.env)
  (pl:∀ pos,(backTo pos (starEach [] X.env)).any (·.1)=false):PE X (.Call (.Name "list" p1) [.Call (.Name "range" p2) [e] [] pos2] [] pos1) (Ai t):=by
 intro pins s σ H Q I h
 refine wpAny_Call_Name_kw (uz I hg1 hm1 r8 ?_)
 refine PyProof.Rows.callWith_type1 ?_ hst2 (pl _)
 rw[hst2]
 show wpAny _ _ (spliced ((false,eval (.Call (.Name "range" p2) [e] [] pos2) X.env)::backTo pos1 (starEach [] X.env))) _ _ s
 refine Calls.spliced_cons ?_
 refine wpAny_Call_Name_kw (uz I hg2 hm2 boot_range ?_)
 refine PyProof.Rows.callWith_type1 (thn (ha pos2 pins s σ H _ I h) fun us s1 ⟨vs,H1,I1,r1,n,e1,hn,q⟩=>?_) hst (pl _)
 subst e1
 obtain⟨u,rfl,rx⟩:=vals1 r1
 obtain⟨tk,rfl⟩:=rx
 refine call_range_1 (Calls.spliced_nil ?_)
 have I2:Inv X pins σ H1 { s1 with heap:=s1.heap.push { cls:=.type "range",data:=.fields #[.int 0 s1.toks,.int (n:Int) tk,.int 1 (s1.toks+1)] },toks:=s1.toks+1+1 }:=I1.kept fun b o e=>Heap.get?_push_of_some _ e
 refine call_list_range (n:=n) (I2.ok.hd hc) (IsRange.new ..) (small_one (by decide) (by decide) (by omega) (by omega)) (by rw[rangeSize_one]; split <;> omega) (Nat.le_trans hn (by decide)) fun h' tk' acc c hk hS hI=>?_
 have hf:=I2.hok.fresh (Nat.le_refl _)
 refine⟨.ref _,_,I2.laid (t':=tk') (o:=.lst ((List.range n).map fun j:Nat=>V.int (j:Int))) hk (Nat.le_refl _) ⟨?_,acc.toList,c,?_,by simpa using hS⟩,rfl,q _ hf⟩
 ·rw[List.length_map,List.length_range]
  exact Nat.le_trans hn (by decide)
 ·refine Ay (by rw[Array.length_toList,hI.1,List.length_map,List.length_range]) fun j v hv=>?_
  have hj:j<n:=by
   have:=(List.getElem?_eq_some_iff.mp hv).1
   rw[Array.length_toList,hI.1] at this
   exact this
  obtain⟨t,et⟩:=hI.2 j v (by rw[← Array.getElem?_toList]; exact hv)
  refine⟨.int (j:Int),by rw[List.getElem?_map,List.getElem?_range hj]; rfl,t,?_⟩
  rw[et]
  congr 1
  omega
theorem yr {X:Cx} {K:PySem.W.Frag} (h:X.K=K):OpR X (compareOp .In) (rIn K false):=by subst h; exact Eb
end L2
namespace Tb
open PySem L2 PyProof.Rows
abbrev Dc:=List (Str×Int)
def ks (d:Dc):List Str:=d.map (·.1)
def gt:Dc→Str→Int
 | [],_=>0
 | p::d,k=>if p.1=k then p.2 else gt d k
def sm (d:Dc):Int:=(d.map (·.2)).sum
def cs (rows:Dc) (s:Str):Int:=(rows.map fun p=>if p.1=s then p.2 else 0).sum
end Tb
namespace MthL
theorem first {ws:List Int} {w:Int} (h:w∈ws):∃ i,i<ws.length∧ws.getD i 0=w∧∀ j,j<i→ws.getD j 0≠w:=by
 induction ws with
 | nil=>cases h
 | cons a ws ih =>
  by_cases e:a=w
  ·exact⟨0,Nat.zero_lt_succ _,e,fun j hj=>absurd hj (Nat.not_lt_zero _)⟩
  ·obtain⟨i,h1,h2,h3⟩:=ih ((List.mem_cons.mp h).resolve_left fun z=>e z.symm)
   refine⟨i+1,Nat.succ_lt_succ h1,h2,fun j hj=>?_⟩
   cases j with
   | zero=>exact e
   | succ j=>exact h3 j (Nat.lt_of_succ_lt_succ hj)
theorem below {ws:List Int} (w:Int):(∀ o∈ws,0<o→w≤o)∨∃ v∈ws,0<v∧v<w∧∀ o∈ws,o<w→o≤v:=by
 induction ws with
 | nil=>exact .inl fun o ho=>by cases ho
 | cons a ws ih =>
  by_cases ha:0<a∧a<w
  ·rcases ih with ih | ⟨v,h1,h2,h3,h4⟩
   ·refine .inr ⟨a,List.mem_cons_self ..,ha.1,ha.2,fun o ho hl=>?_⟩
    rcases List.mem_cons.mp ho with rfl | ho
    ·exact Int.le_refl _
    ·by_cases h0:0<o
     ·have:=ih o ho h0
      omega
     ·omega
   ·by_cases hv:a≤v
    ·refine .inr ⟨v,List.mem_cons_of_mem _ h1,h2,h3,fun o ho hl=>?_⟩
     rcases List.mem_cons.mp ho with rfl | ho
     ·exact hv
     ·exact h4 o ho hl
    ·refine .inr ⟨a,List.mem_cons_self ..,ha.1,ha.2,fun o ho hl=>?_⟩
     rcases List.mem_cons.mp ho with rfl | ho
     ·exact Int.le_refl _
     ·have:=h4 o ho hl
      omega
  ·rcases ih with ih | ⟨v,h1,h2,h3,h4⟩
   ·refine .inl fun o ho h0=>?_
    rcases List.mem_cons.mp ho with rfl | ho
    ·omega
    ·exact ih o ho h0
   ·refine .inr ⟨v,List.mem_cons_of_mem _ h1,h2,h3,fun o ho hl=>?_⟩
    rcases List.mem_cons.mp ho with rfl | ho
    ·omega
    ·exact h4 o ho hl
end MthL
namespace Mth
def cell (ns:List Int) (k:Int):Int :=
 if k<(ns.length:Int) then ns.getD k.toNat 0 % 10 ^ 60
 else (if 0<(ns.length:Int) then ns.getD (k * 7 % (ns.length:Int)).toNat 0 % 10 ^ 60 * 48271+k * k * 69621 else 7919 * k+5) % 2147483647 * 16807 % 2147483629
def gcd (a b:Int):Int:=(Int.gcd a b:Nat)
structure IsShare (t b x y:Int):Prop where
 pos:0<y
 low:gcd x y=1
 eq:x * b=t * y
 le1:x.natAbs≤t.natAbs
 le2:y.natAbs≤b.natAbs
structure Low (T:Int×Int) (x y:Int):Prop where
 pos:0<y
 low:gcd x y=1
 eq:x * T.2=T.1 * y
end Mth
set_option maxHeartbeats 4000000
open PySem L2
local macro_rules | `(tactic| trivial)=>`(tactic| simp only [BQ,Fz,DV,Ff,Ea,C3,HN,C8,Au,HL,Fx,ipI,Ft,DN,Ds,Fo,Ai,HH,Fy,DI,DS,iOr,Er,uo,slots,Option.getD_some,Option.getD_none,HM,lK,Cs,we,tOp,tUn,tC,Ew,tCB,Fi,Ia,zP,rI,rI0,rU,G0,Hs,FD,tB,Hf,tOr,GZ,FH,Hi,FS,DT,FF,FO,GS,GX,Fj,tSl,Fw,BB,ET,Fp,HP,Ht,Fv,tBM,BY,rEq,Hg,EB,EC,EV,CV,AS,Bj,Bq,Bv,Di,B5,Cb,CH,Cv,Cr,AL,Bh,A9,A0,CJ,AR,A6,A2,Bf,CC,AO,AU,AN,Br,Cq,Bt,AY,A3,AV,CW,Bm,Bu,Bk,Bg,GV,IC,GT,HW,CG,CD,Cw,Ec,Dq,CP,CO,Ca,Fc,B6,CA,B8,Dk,DJ,decide_true,decide_false,GG,FJ,HF,Fe,Gf,EL,Gy,EX,DF,L2.start,cxK,Int.reduceToNat,List.map_cons,List.map_nil,List.length_cons,List.length_nil,Nat.reduceAdd,Nat.reduceSub,Nat.zero_add,List.replicate_succ,List.replicate_zero,List.cons_append,List.nil_append,List.append_nil,List.getElem?_cons_zero,List.getElem?_cons_succ,List.set_cons_zero,List.set_cons_succ,Option.some.injEq,V.int.injEq,V.bl.injEq,V.ref.injEq,V.str.injEq,V.ty.injEq,List.cons.injEq,exists_eq_left',exists_eq_left,exists_eq_right,exists_and_left,exists_and_right,and_true,true_and,and_assoc,exists_const,decide_eq_true_eq,Bool.not_eq_true',Bool.not_true,Bool.not_false,Bool.not_not,decide_eq_false_iff_not,ite_not,Bool.false_eq_true,if_true,if_false,reduceCtorEq,and_false,false_and,exists_false,or_false,false_or,↓reduceIte,eq_self,reduceIte])
local macro_rules | `(tactic| decreasing_trivial)=>`(tactic| first | exact Or.inl rfl | exact Or.inr (Or.inl rfl) | exact Or.inr (Or.inr rfl))
namespace My
open PySem L2
def zR (K:PySem.W.Frag):Sp:=fun vs H Q _=>∃ (a:Addr) (ns:List Int),vs=[.ref a]∧SqL K H a (ns.map V.int)∧ns.length≤63∧∀ H',Q (.bl true) H'
theorem ux {ns:List Int} {k:Int} (h0:0≤k) (h1:k<ns.length):atI (ns.map V.int) k=some (.int (ns.getD k.toNat 0)):=by
 have e:k=((k.toNat:Nat):Int):=by omega
 have h2:k.toNat<ns.length:=by omega
 have q:(ns.map V.int)[k.toNat]?=some (.int (ns.getD k.toNat 0)):=by
  rw[List.getElem?_map,List.getElem?_eq_getElem h2]
  simp [List.getD,h2]
 have:=nM q
 rw[← e] at this
 exact this
theorem Cd {n:Nat} {i:Int} (lo:-(10 ^ 61)≤i) (hi:i≤10 ^ 61) (hn:204≤n:=by decide):Bits n i:=(Bits.of (n:=204) (b:=10 ^ 61) lo hi (by decide)).mono hn
theorem fS {H:Hp} {p:Addr} (h:H p=none) (o:HO):Same H (upd H p o):=fun b u q=>by rw[fj (lu q h)]; exact q
theorem Same.tup {K:PySem.W.Frag} {H H':Hp} {a:Addr} {xs:List V} (e:Same H H') (h:SqT K H a xs):SqT K H' a xs:=by
 rcases h with (h | ⟨o,h⟩) | h
 ·exact .inl (.inl (e _ _ h))
 ·exact .inl (.inr ⟨o,e _ _ h⟩)
 ·exact .inr h
theorem GY {n:Int} (h0:0≤n:=by decide) (h1:n≤1000000:=by decide):HK 10 n:=⟨h0,h1,by decide⟩
theorem ze {i j:Int} (a:-(10 ^ 61)≤i) (b:i≤10 ^ 61) (c:-(10 ^ 61)≤j) (d:j≤10 ^ 61):CMulB i j:=⟨Cd a b,Cd c d⟩
theorem cdiv {i j:Int} (a:0<j) (b:j≤10 ^ 61):CDivB i j:=⟨a,Cd (by omega) b⟩
theorem getD_at {α:Type} {ws:List α} {j:Nat} {d:α} (h:j<ws.length):ws.getD j d=ws[j]:=by simp only [List.getD,List.getElem?_eq_getElem h,Option.getD_some]
theorem vR {n j:Nat} (h:j<n):ixN n (j:Int)=some j:=by
 unfold ixN
 rw[if_pos (by omega),if_pos (by omega)]
 rfl
theorem ji {K:PySem.W.Frag} {H:Hp} {p:Addr} (h:H p=none) (xs:List V):∃ H1,H1=upd H p (.tup xs)∧Same H H1∧SqT K H1 p xs:=⟨_,rfl,fS h _,SqT.of er⟩
theorem zB {K:PySem.W.Frag} {H:Hp} {p:Addr} (h:H p=none) (xs:List V):∃ H1,H1=upd H p (.lst xs)∧Same H H1∧SqL K H1 p xs:=⟨_,rfl,fS h _,SqL.of er⟩
theorem gu {H H':Hp} {l:Addr} (e:Same H H') (h:H l=none) (o:HO):Same H (upd H' l o):=fun b u hb=>by rw[fj (lu hb h)]; exact e _ _ hb
def top (i:Nat):Stmt:=PySem.Challenge.pw_tariffgate_k67_whole_no_other.main.body.getD i (.Pass ⟨0,0,0,0⟩)
theorem bC:(("line":Str) == ("__debug__":Str))=false:=by decide
theorem bE:(("line":Str) == ("__classdict__":Str))=false:=by decide
theorem bM:(("flows":Str) == ("__debug__":Str))=false:=by decide
theorem bN:(("flows":Str) == ("__classdict__":Str))=false:=by decide
theorem bK:(("place":Str) == ("__debug__":Str))=false:=by decide
theorem bL:(("place":Str) == ("__classdict__":Str))=false:=by decide
theorem fA:(("others":Str) == ("__debug__":Str))=false:=by decide
theorem fC:(("others":Str) == ("__classdict__":Str))=false:=by decide
theorem aZ:(("entry":Str) == ("__debug__":Str))=false:=by decide
theorem ba:(("entry":Str) == ("__classdict__":Str))=false:=by decide
theorem iH:(("flow":Str) == ("__debug__":Str))=false:=by decide
theorem iI:(("flow":Str) == ("__classdict__":Str))=false:=by decide
theorem eK:(("other":Str) == ("__debug__":Str))=false:=by decide
theorem eL:(("other":Str) == ("__classdict__":Str))=false:=by decide
abbrev aL:Stmt:=top 15
theorem dC:FnScope ["line","flows","place","others","entry","flow","other"] ["line","flows","place"] (defScope aL):=⟨rfl,rfl,rfl,by decide +kernel,rfl,by decide +kernel,by decide +kernel⟩
theorem oM:Vis (defScope aL) "line":=by decreasing_trivial
theorem oO:Vis (defScope aL) "flows":=by decreasing_trivial
theorem oP:Vis (defScope aL) "place":=by decreasing_trivial
theorem jA:Vis (defScope aL) "others":=by decreasing_trivial
theorem oQ:Loc (defScope aL) "others":=by first | exact Or.inl rfl | exact Or.inr rfl
theorem jB:Vis (defScope aL) "entry":=by decreasing_trivial
theorem oS:Loc (defScope aL) "entry":=by first | exact Or.inl rfl | exact Or.inr rfl
theorem oU:Vis (defScope aL) "flow":=by decreasing_trivial
theorem oV:Loc (defScope aL) "flow":=by first | exact Or.inl rfl | exact Or.inr rfl
theorem oW:Vis (defScope aL) "other":=by decreasing_trivial
theorem oX:Loc (defScope aL) "other":=by first | exact Or.inl rfl | exact Or.inr rfl
theorem iX:(defScope aL).names.lookup ("enumerate":Str)=some .globalImplicit:=by rfl
abbrev En:=List Nat×Int
def LnAt (K:PySem.W.Frag) (H:Hp) (l:Addr) (L:List En):Prop:=∃ us,SqL K H l us∧Paired (fun v (e:En)=>∃ t q,v=V.ref t∧SqT K H t [.ref q,.int e.2]∧SqL K H q (e.1.map fun j:Nat=>V.int (j:Int))) us L
theorem uq {K:PySem.W.Frag} {H H':Hp} (e:Same H H'):∀ {us:List V} {L:List En},Paired (fun v (e:En)=>∃ t q,v=V.ref t∧SqT K H t [.ref q,.int e.2]∧SqL K H q (e.1.map fun j:Nat=>V.int (j:Int))) us L→Paired (fun v (e:En)=>∃ t q,v=V.ref t∧SqT K H' t [.ref q,.int e.2]∧SqL K H' q (e.1.map fun j:Nat=>V.int (j:Int))) us L
 | _,_,.nil=>.nil
 | _,_,.cons ⟨t,q,a,b,c⟩ r=>.cons ⟨t,q,a,Same.tup e b,e.seq c⟩ (uq e r)
theorem LnAt.same {K:PySem.W.Frag} {H H':Hp} {l:Addr} {L:List En} (h:LnAt K H l L) (e:Same H H'):LnAt K H' l L:=by
 obtain⟨us,a,b⟩:=h
 exact⟨us,e.seq a,uq e b⟩
theorem sH {K:PySem.W.Frag} {H:Hp}:∀ {us:List V} {L:List En} {i:Nat} {en:En},Paired (fun v (e:En)=>∃ t q,v=V.ref t∧SqT K H t [.ref q,.int e.2]∧SqL K H q (e.1.map fun j:Nat=>V.int (j:Int))) us L→L[i]?=some en→∃ t q,us[i]?=some (.ref t)∧SqT K H t [.ref q,.int en.2]∧SqL K H q (en.1.map fun j:Nat=>V.int (j:Int))
 | _,_,_,_,.nil,h=>by cases h
 | _,_,0,_,.cons ⟨t,q,a,b,c⟩ _,h=>by
  cases h
  exact⟨t,q,by rw[a]; rfl,b,c⟩
 | _,_,i+1,_,.cons _ r,h=>by
  rw[List.getElem?_cons_succ] at h
  obtain⟨t,q,a,b,c⟩:=sH r h
  exact⟨t,q,by rw[List.getElem?_cons_succ]; exact a,b,c⟩
theorem LnAt.get {K:PySem.W.Frag} {H:Hp} {l:Addr} {L:List En} {i:Nat} {en:En} (h:LnAt K H l L) (hi:L[i]?=some en):∃ us t q,SqL K H l us∧us[i]?=some (.ref t)∧SqT K H t [.ref q,.int en.2]∧SqL K H q (en.1.map fun j:Nat=>V.int (j:Int)):=by
 obtain⟨us,a,b⟩:=h
 obtain⟨t,q,c,d,e⟩:=sH b hi
 exact⟨us,t,q,a,c,d,e⟩
structure FlAt (H:Hp) (g:Addr) (rs:List Addr) (F:List (List Int)):Prop where
 top:H g=some (.lst (rs.map V.ref))
 len:rs.length=F.length
 row:∀ (e:Nat) (r:Addr) (fl:List Int),rs[e]?=some r→F[e]?=some fl→H r=some (.lst (fl.map V.int))
 nd:rs.Nodup
 ne:∀ r∈rs,r≠g
theorem FlAt.same {H H':Hp} {g:Addr} {rs:List Addr} {F:List (List Int)} (h:FlAt H g rs F) (e:Same H H'):FlAt H' g rs F:=⟨e _ _ h.top,h.len,fun i r fl a b=>e _ _ (h.row i r fl a b),h.nd,h.ne⟩
def fl (F:List (List Int)) (e j:Nat):Int:=(F.getD e []).getD j 0
def pl (L:List En) (e:Nat):List Nat:=(L.getD e ([],0)).1
def Led (L:List En) (F:List (List Int)) (j e o:Nat):Prop:=e<F.length∧0<fl F e j∧o∈pl L e
structure LedS (S:Nat→Nat→Prop) (kvs:List (Key×V)):Prop where
 out:∀ k v,valV kvs k=some v→∃ o e:Nat,k=.inl (o:Int)∧v=.int (e:Int)∧S e o
 all:∀ e o,S e o→∃ v,valV kvs (.inl (o:Int))=some v
 nd:(kvs.map (·.1)).Nodup
theorem LedS.weak {S S':Nat→Nat→Prop} {kvs:List (Key×V)} (h:LedS S kvs) (a:∀ e o,S e o→S' e o) (b:∀ e o,S' e o→S e o):LedS S' kvs :=
 ⟨fun k v q=>by obtain⟨o,e,x,y,z⟩:=h.out k v q; exact⟨o,e,x,y,a _ _ z⟩,fun e o s=>h.all e o (b _ _ s),h.nd⟩
theorem LedS.put {S S':Nat→Nat→Prop} {kvs:List (Key×V)} {e o:Nat} (h:LedS S kvs) (hn:valV kvs (.inl (o:Int))=none) (a:∀ e o,S e o→S' e o) (s:S' e o) (b:∀ e' o',S' e' o'→S e' o'∨o'=o):LedS S' (putK kvs (.inl (o:Int)) (.int (e:Int))):=by
 refine⟨fun k v q=>?_,fun e' o' s'=>?_,GQ _ h.nd hn⟩
 ·rw[Af] at q
  by_cases z:k=.inl (o:Int)
  ·rw[if_pos z] at q
   cases q
   exact⟨o,e,z,rfl,s⟩
  ·rw[if_neg z] at q
   obtain⟨o',e',x,y,w⟩:=h.out k v q
   exact⟨o',e',x,y,a _ _ w⟩
 ·rw[Af]
  by_cases z:(Sum.inl (o':Int):Key)=.inl (o:Int)
  ·rw[if_pos z]
   exact⟨_,rfl⟩
  ·rw[if_neg z]
   rcases b _ _ s' with w | w
   ·exact h.all _ _ w
   ·exact absurd (by rw[w]) z
theorem LedS.stay {S S':Nat→Nat→Prop} {kvs:List (Key×V)} {o:Nat} {v:V} (h:LedS S kvs) (hv:valV kvs (.inl (o:Int))=some v) (a:∀ e o,S e o→S' e o) (b:∀ e' o',S' e' o'→S e' o'∨o'=o):LedS S' kvs :=
 ⟨fun k v q=>by obtain⟨o,e,x,y,z⟩:=h.out k v q; exact⟨o,e,x,y,a _ _ z⟩,fun e' o' s=>by
  rcases b _ _ s with w | w
  ·exact h.all _ _ w
  ·rw[w]
   exact⟨v,hv⟩,h.nd⟩
structure Siz (m:Nat) (L:List En) (F:List (List Int)):Prop where
 fl:F.length≤L.length
 l:L.length≤64
 row:∀ r∈F,r.length=m
 pl:∀ en∈L,en.1.length≤64∧∀ o∈en.1,o<m
 nd:∀ en∈L,en.1.Nodup
 m:m≤60
def CK (K:PySem.W.Frag):Sp:=fun vs H Q _=>∃ (l g:Addr) (j m:Nat) (L:List En) (rs:List Addr) (F:List (List Int)),vs=[.ref l,.ref g,.int j]∧LnAt K H l L∧FlAt H g rs F∧Siz m L F∧j<m ∧
 ∀ (D:Addr) (kvs:List (Key×V)) (H':Hp),Same H H'→H D=none→H' D=some (.dK kvs)→LedS (Led L F j) kvs→Q (.ref D) H'
section
variable {P:Program} {w:World} {K:PySem.W.Frag} {mg:Str→Option Value} {base:Heap} {f:Addr} {fd:FuncData}
theorem Bo (F:Fun K "led_over" "led_over" aL f fd) (M:Mg mg):FnOk P w K mg base CX0 1 f fd ["line","flows","place"] (CK K):=by
 refine F.ok dC (fun vs H Q E h=>?_) (fun cdv A outer s H vs Q E hr h=>?_)
 ·obtain⟨l,g,j,m,L,rs,F',rfl,_⟩:=h
  rfl
 obtain⟨l,g,j,m,L,rs,Fl,rfl,hL,hF,sz,hj,q⟩:=h
 refine⟨_,(@ff _ _ _ _ _ (@gI _ _ 3 _ _ _ _ dC.nd rfl oQ (@Et _ _) (gG rfl) (.inl rfl)) (@ff _ _ _ _ _ (@rB _ _ _ _ _ _ _ _ PassesOwn.never rfl (@wm _ _ _ _ _ _ _ _ iX M.m_enumerate (@cT _ _ _ _ _ (@cg _ 1 _ _ rfl oO bM bN) (@dB _) (di rfl)) (by rfl)) (@ve _ _ _ _ _ _ rfl (@ia _ _ _ _ _ (@fT _ _ 4 _ dC.nd rfl oS (.inl rfl)) (@ia _ _ _ _ _ (@fT _ _ 5 _ dC.nd rfl oV (.inl rfl)) (@pB _) (by rfl)) (by rfl)) (by rfl) (by rfl)) (@fL _ _ _ (@nS _ _ _ _ _ _ _ _ (@jj _ _ _ _ _ _ _ _ (@u0 _) (@gf _ _ _ _ _ _ _ (@gK _) (@cg _ 5 _ _ rfl oU iH iI) (@cg _ 2 _ _ rfl oP bK bL) (fun _ _=>rfl)) (@dR _ _ _ _) (iG _)) (@fL _ _ _ (@rB _ _ _ _ _ _ _ _ PassesOwn.never rfl (@m8 _ _ _ _ (@gf _ _ _ _ _ _ _ (@jl _) (@gf _ _ _ _ _ _ _ (@gK _) (@cg _ 0 _ _ rfl oM bC bE) (@cg _ 4 _ _ rfl jB aZ ba) (fun _ _=>rfl)) (@dR _ _ _ _) (fun _ _=>rfl))) (@fT _ _ 6 _ dC.nd rfl oX (.inl rfl)) (@fL _ _ _ (@tM _ _ _ _ (@CN _ _ _ _ _ _ _ _ _ (@cg _ 3 _ _ rfl jA fA fC) (@cg _ 6 _ _ rfl oW eK eL) (@cg _ 4 _ _ rfl jB aZ ba) ⟨rfl,rfl,rfl,rfl⟩) (gG rfl))) (by intro _; rfl))) (@kN _))) (by intro _; rfl)) (@fL _ _ _ (@ic _ _ _ _ (@cg _ 3 _ _ rfl jA fA fC))))),?_⟩
 trivial
 refine fun p hp=>⟨⟨_,SqL.of (fS hp _ _ _ hF.top)⟩,?_⟩
 obtain⟨Pv,hP⟩:∃ Pv:Nat→St→Hp→Prop,Pv=fun i σ H'=>∃ (kvs:List (Key×V)) (x y z:Option V),H' p=some (.dK kvs)∧LedS (fun e o=>e<i∧Led L Fl j e o) kvs∧kvs.length≤i * 64∧Same H H'∧σ=[some (.ref l),some (.ref g),some (.int j),some (.ref p),x,y,z]:=⟨_,rfl⟩
 refine Dj (rs.map V.ref) Pv ?_ (fun i σ H' _ h=>by rw[hP] at h; obtain⟨_,_,_,_,_,_,_,e,_⟩:=h; exact SqL.of (e _ _ hF.top)) ?_ ?_
 ·rw[hP]
  exact⟨[],_,_,_,er,⟨(fun k v z=>by cases z),(fun e o z=>by omega),List.nodup_nil⟩,Nat.zero_le _,fS hp _,rfl⟩
 ·intro i v T σ H' hi h hT
  rw[hP] at h
  obtain⟨kvs,x,y,z,d,led,lk,e,rfl⟩:=h
  rw[List.getElem?_map] at hi
  obtain⟨r,hr',rfl⟩:=Option.map_eq_some_iff.mp hi
  have li:i<Fl.length:=by rw[← hF.len]; exact (List.getElem?_eq_some_iff.mp hr').1
  trivial
  obtain⟨H2,gH,S2,T2⟩:=ji (K:=K) hT [V.int (i:Int),V.ref r]
  rw[← gH]
  clear gH
  have e2:=e.trans S2
  have d2:=S2 _ _ d
  obtain⟨row,hrow⟩:∃ row,Fl[i]?=some row:=⟨_,List.getElem?_eq_getElem li⟩
  have dr:=hF.row i r row hr' hrow
  have lrow:row.length=m:=sz.row row (List.mem_iff_getElem?.mpr ⟨_,hrow⟩)
  have hjr:atI (row.map V.int) (j:Int)=some (.int (row.getD j 0)):=ux (by omega) (by omega)
  have efl:fl Fl i j=row.getD j 0:=by
   unfold fl
   rw[show Fl.getD i []=row by simp [List.getD,hrow]]
  refine⟨_,T2,rfl,_,_,rfl,_,_,rfl,rfl,r,rfl,_,SqL.of (e2 _ _ dr),_,hjr,_,rfl,?_⟩
  by_cases hpos:0<row.getD j 0
  ·rw[if_pos hpos]
   have li2:i<L.length:=by have:=sz.fl; omega
   obtain⟨en,hen⟩:∃ en,L[i]?=some en:=⟨_,List.getElem?_eq_getElem li2⟩
   have epl:pl L i=en.1:=by
    unfold pl
    rw[show L.getD i ([],0)=en by simp [List.getD,hen]]
   obtain⟨us,t,q',a1,a2,a3,a4⟩:=hL.get hen
   obtain⟨len1,len2⟩:=sz.pl en (List.mem_iff_getElem?.mpr ⟨_,hen⟩)
   refine⟨us,(i:Int),rfl,e2.seq a1,_,nM a2,t,rfl,_,Same.tup e2 a3,_,rfl,q',rfl,⟨_,e2.seq a4⟩,?_⟩
   obtain⟨Pw,hW⟩:∃ Pw:Nat→St→Hp→Prop,Pw=fun k σ H3=>∃ (kvs:List (Key×V)) (z:Option V),H3 p=some (.dK kvs)∧LedS (fun e o=>(e<i∧Led L Fl j e o)∨(e=i∧o∈en.1.take k)) kvs∧kvs.length≤i * 64+k∧Same H H3∧σ=[some (.ref l),some (.ref g),some (.int j),some (.ref p),some (.int (i:Int)),some (.ref r),z]:=⟨_,rfl⟩
   refine uH (K:=K) (en.1.map fun j:Nat=>V.int (j:Int)) Pw ?_ (fun k σ H3 _ h=>by rw[hW] at h; obtain⟨_,_,_,_,_,e3,_⟩:=h; exact e3.seq a4) ?_ ?_
   ·rw[hW]
    exact⟨kvs,_,d2,led.weak (fun e o s=>.inl s) (fun e o s=>by
     rcases s with s | ⟨_,s⟩
     ·exact s
     ·rw[List.take_zero] at s; cases s),by omega,e2,rfl⟩
   ·intro k v σ H3 hk h
    rw[hW] at h
    obtain⟨kv3,z3,d3,led3,lk3,e3,rfl⟩:=h
    rw[List.getElem?_map] at hk
    obtain⟨o,ho,rfl⟩:=Option.map_eq_some_iff.mp hk
    have lk':k<en.1.length:=(List.getElem?_eq_some_iff.mp ho).1
    have et:en.1.take (k+1)=en.1.take k++[o]:=by
     rw[List.take_add_one,ho]
     rfl
    have up:∀ e o',((e<i∧Led L Fl j e o')∨(e=i∧o'∈en.1.take k))→((e<i∧Led L Fl j e o')∨(e=i∧o'∈en.1.take (k+1))):=fun e o' s=>by
     rcases s with s | ⟨s1,s2⟩
     ·exact .inl s
     ·exact .inr ⟨s1,by rw[et]; exact List.mem_append_left _ s2⟩
    have dn:∀ e o',((e<i∧Led L Fl j e o')∨(e=i∧o'∈en.1.take (k+1)))→((e<i∧Led L Fl j e o')∨(e=i∧o'∈en.1.take k))∨o'=o:=fun e o' s=>by
     rcases s with s | ⟨s1,s2⟩
     ·exact .inl (.inl s)
     ·rw[et] at s2
      rcases List.mem_append.mp s2 with s2 | s2
      ·exact .inl (.inr ⟨s1,s2⟩)
      ·exact .inr (List.mem_singleton.mp s2)
    have l6:=sz.l
    trivial
    refine⟨.inl ⟨_,.inl d3⟩,kv3,d3,.inl (o:Int),rfl,Nat.lt_of_lt_of_le (m:=5000) (by omega) (by decide),fun v hv=>?_,fun hn=>?_⟩
    ·rw[hW]
     exact⟨kv3,_,d3,led3.stay hv up dn,by omega,e3,rfl⟩
    ·rw[hW]
     refine⟨_,_,er,led3.put hn up (.inr ⟨rfl,by rw[et]; exact List.mem_append_right _ (List.mem_singleton.mpr rfl)⟩) dn,?_,gu e3 hp _,rfl⟩
     have:=uA kv3 (.inl (o:Int)) (.int (i:Int))
     omega
   ·intro σ H3 h
    rw[hW] at h
    obtain⟨kv3,z3,d3,led3,lk3,e3,rfl⟩:=h
    rw[List.length_map,List.take_of_length_le (Nat.le_refl _)] at led3
    rw[List.length_map] at lk3
    rw[hP]
    refine⟨kv3,_,_,_,d3,led3.weak (fun e o s=>?_) (fun e o s=>?_),by omega,e3,rfl⟩
    ·rcases s with s | ⟨rfl,s⟩
     ·exact⟨by omega,s.2⟩
     ·exact⟨by omega,li,by rw[efl]; exact hpos,by rw[epl]; exact s⟩
    ·by_cases z:e<i
     ·exact .inl ⟨z,s.2⟩
     ·have ee:e=i:=by omega
      subst ee
      exact .inr ⟨rfl,by rw[← epl]; exact s.2.2.2⟩
  ·rw[if_neg hpos,hP]
   refine⟨kvs,_,_,_,d2,led.weak (fun e o s=>⟨by omega,s.2⟩) (fun e o s=>⟨?_,s.2⟩),by omega,e2,rfl⟩
   by_cases z:e<i
   ·exact z
   ·have ee:e=i:=by omega
    subst ee
    have:=s.2.2.1
    rw[efl] at this
    exact absurd this hpos
 ·intro σ H' h
  rw[hP] at h
  obtain⟨kvs,x,y,z,d,led,lk,e,rfl⟩:=h
  trivial
  refine q _ _ _ e hp d (led.weak (fun e o s=>s.2) fun e o s=>⟨?_,s⟩)
  rw[List.length_map,hF.len]
  exact s.1
end
end My
namespace MyB
open My PySem L2
def top (i:Nat):Stmt:=PySem.Challenge.pw_tariffgate_k67_whole_no_other.main.body.getD i (.Pass ⟨0,0,0,0⟩)
theorem bU:(("reached":Str) == ("__debug__":Str))=false:=by decide
theorem bV:(("reached":Str) == ("__classdict__":Str))=false:=by decide
theorem iY:(("waiting":Str) == ("__debug__":Str))=false:=by decide
theorem iZ:(("waiting":Str) == ("__classdict__":Str))=false:=by decide
theorem lX:(("dict":Str) == ("__debug__":Str))=false:=by decide
theorem lY:("dict":Str)≠"__name__":=by decide
theorem bo:(("list":Str) == ("__debug__":Str))=false:=by decide
theorem bq:("list":Str)≠"__name__":=by decide
theorem aE:(("len":Str) == ("__debug__":Str))=false:=by decide
theorem aF:("len":Str)≠"__name__":=by decide
theorem qJ:(("led_over":Str) == ("__debug__":Str))=false:=by decide
abbrev ah:Stmt:=top 16
theorem cB:FnScope ["line","flows","entry","reached","waiting","place","others","other"] ["line","flows","entry"] (defScope ah):=⟨rfl,rfl,rfl,by decide +kernel,rfl,by decide +kernel,by decide +kernel⟩
theorem iJ:Vis (defScope ah) "line":=by decreasing_trivial
theorem lZ:Vis (defScope ah) "flows":=by decreasing_trivial
theorem md:Vis (defScope ah) "entry":=by decreasing_trivial
theorem dm:Vis (defScope ah) "reached":=by decreasing_trivial
theorem mf:Loc (defScope ah) "reached":=by first | exact Or.inl rfl | exact Or.inr rfl
theorem eM:Vis (defScope ah) "waiting":=by decreasing_trivial
theorem mq:Loc (defScope ah) "waiting":=by first | exact Or.inl rfl | exact Or.inr rfl
theorem iK:Vis (defScope ah) "place":=by decreasing_trivial
theorem mt:Loc (defScope ah) "place":=by first | exact Or.inl rfl | exact Or.inr rfl
theorem iL:Vis (defScope ah) "others":=by decreasing_trivial
theorem my:Loc (defScope ah) "others":=by first | exact Or.inl rfl | exact Or.inr rfl
theorem dy:Vis (defScope ah) "other":=by decreasing_trivial
theorem mz:Loc (defScope ah) "other":=by first | exact Or.inl rfl | exact Or.inr rfl
theorem ko:(defScope ah).names.lookup ("dict":Str)=some .globalImplicit:=by rfl
theorem kq:(defScope ah).names.lookup ("list":Str)=some .globalImplicit:=by rfl
theorem kK:(defScope ah).names.lookup ("len":Str)=some .globalImplicit:=by rfl
theorem iM:(defScope ah).names.lookup ("led_over":Str)=some .globalImplicit:=by rfl
abbrev Rc:=Nat×Nat×Option Nat
def vh:Option Nat→V
 | none=>.non
 | some b=>.int (b:Int)
def RcAt (K:PySem.W.Frag) (H:Hp) (kvs:List (Key×V)) (R:List Rc):Prop:=Paired (fun (kv:Key×V) (x:Rc)=>kv.1=.inl (x.1:Int)∧∃ t,kv.2=V.ref t∧SqT K H t [.int (x.2.1:Int),vh x.2.2]) kvs R
theorem RcAt.same {K:PySem.W.Frag} {H H':Hp} (e:Same H H'):∀ {kvs:List (Key×V)} {R:List Rc},RcAt K H kvs R→RcAt K H' kvs R
 | _,_,.nil=>.nil
 | _,_,.cons ⟨a,t,b,c⟩ r=>.cons ⟨a,t,b,Same.tup e c⟩ (RcAt.same e r)
theorem ur {K:PySem.W.Frag} {H:Hp} {D p:Addr} {o o':HO} {xs:List V} (hD:H D=some o) (n1:∀ ys,o≠.tup ys) (n2:∀ ob ys,o≠.frz ob (.tup ys)) (h:SqT K H p xs):SqT K (upd H D o') p xs:=by
 rcases h with (h | ⟨ob,h⟩) | h
 ·exact .inl (.inl (by rw[fj (fun z=>by rw[z,hD] at h; cases h; exact n1 _ rfl)]; exact h))
 ·exact .inl (.inr ⟨ob,by rw[fj (fun z=>by rw[z,hD] at h; cases h; exact n2 _ _ rfl)]; exact h⟩)
 ·exact .inr h
theorem RcAt.upd {K:PySem.W.Frag} {H:Hp} {D:Addr} {o o':HO} (hD:H D=some o) (n1:∀ ys,o≠.tup ys) (n2:∀ ob ys,o≠.frz ob (.tup ys)):∀ {kvs:List (Key×V)} {R:List Rc},RcAt K H kvs R→RcAt K (L2.upd H D o') kvs R
 | _,_,.nil=>.nil
 | _,_,.cons ⟨a,t,b,c⟩ r=>.cons ⟨a,t,b,ur hD n1 n2 c⟩ (RcAt.upd hD n1 n2 r)
theorem RcAt.snoc {K:PySem.W.Frag} {H:Hp} {p e:Nat} {b:Option Nat} {t:Addr} (h:SqT K H t [.int (e:Int),vh b]):∀ {kvs:List (Key×V)} {R:List Rc},RcAt K H kvs R→RcAt K H (kvs++[(.inl (p:Int),.ref t)]) (R++[(p,e,b)])
 | _,_,.nil=>.cons ⟨rfl,t,rfl,h⟩ .nil
 | _,_,.cons a r=>.cons a (RcAt.snoc h r)
theorem RcAt.keys {K:PySem.W.Frag} {H:Hp}:∀ {kvs:List (Key×V)} {R:List Rc},RcAt K H kvs R→kvs.map (·.1)=R.map fun x=>(Sum.inl (x.1:Int):Key)
 | _,_,.nil=>rfl
 | _,_,.cons ⟨a,_⟩ r=>by rw[List.map_cons,List.map_cons,RcAt.keys r,a]
theorem RcAt.len {K:PySem.W.Frag} {H:Hp} {kvs:List (Key×V)} {R:List Rc} (h:RcAt K H kvs R):kvs.length=R.length:=by
 have:=congrArg List.length h.keys
 simpa using this
theorem RcAt.mem {K:PySem.W.Frag} {H:Hp} {kvs:List (Key×V)} {R:List Rc} (h:RcAt K H kvs R) (p:Nat):(Sum.inl (p:Int):Key)∈kvs.map (·.1)↔p∈R.map (·.1):=by
 rw[h.keys]
 constructor
 ·intro z
  obtain⟨x,hx,e⟩:=List.mem_map.mp z
  have:x.1=p:=by
   have:=Sum.inl.inj e
   omega
  exact List.mem_map.mpr ⟨x,hx,this⟩
 ·intro z
  obtain⟨x,hx,e⟩:=List.mem_map.mp z
  exact List.mem_map.mpr ⟨x,hx,by rw[e]⟩
theorem vV {kvs:List (Key×V)} {k:Key} {v:V} (h:valV kvs k=none):putK kvs k v=kvs++[(k,v)]:=by
 unfold putK
 rw[if_neg]
 intro z
 obtain⟨kv,a,b⟩:=List.any_eq_true.mp z
 exact xS h (List.mem_map.mpr ⟨kv,a,of_decide_eq_true b⟩)
theorem z4:∀ (kvs q:List (Key×V)),(q.map (·.1)++kvs.map (·.1)).Nodup→kvs.foldl (fun q kv=>putK q kv.1 kv.2) q=q++kvs
 | [],q,_=>by simp
 | kv::kvs,q,h=>by
  have hn:valV q kv.1=none:=by
   cases hv:valV q kv.1 with
   | none=>rfl
   | some v =>
    have m1:=zg hv
    rw[List.map_cons,List.nodup_append] at h
    exact absurd rfl (h.2.2 _ m1 _ List.mem_cons_self)
  rw[List.foldl_cons,vV hn,z4 kvs (q++[(kv.1,kv.2)]) (by
   rw[List.map_append,List.append_assoc]
   exact h)]
  simp
theorem Av {kvs:List (Key×V)} (h:(kvs.map (·.1)).Nodup):v8 kvs=kvs:=by
 unfold v8
 rw[z4 kvs [] (by simpa using h)]
 rfl
theorem Ab:∀ {l:List Nat},l.Nodup→(l.map fun p:Nat=>(Sum.inl (p:Int):Key)).Nodup
 | [],_=>List.nodup_nil
 | a::l,h=>by
  rw[List.map_cons,List.nodup_cons] at *
  refine⟨fun z=>?_,Ab h.2⟩
  obtain⟨b,hb,e⟩:=List.mem_map.mp z
  have:b=a:=by
   have:=Sum.inl.inj e
   omega
  exact h.1 (this ▸ hb)
theorem uP:∀ (m:Nat) (l:List Nat),l.Nodup→(∀ x∈l,x<m)→l.length≤m
 | 0,[],_,_=>Nat.le_refl _
 | 0,x::l,_,h=>absurd (h x List.mem_cons_self) (Nat.not_lt_zero _)
 | m+1,l,nd,h=>by
  by_cases hm:m∈l
  ·have:=uP m (l.erase m) (nd.erase _) fun x hx=>by
    have h1:=(nd.mem_erase_iff.mp hx)
    have:=h x h1.2
    have:=h1.1
    omega
   rw[List.length_erase_of_mem hm] at this
   omega
  ·have:=uP m l nd fun x hx=>by
    have h1:=h x hx
    have:x≠m:=fun e=>hm (e ▸ hx)
    omega
   omega
theorem yK:∀ {kvs:List (Key×V)} {i:Nat} {k:Key} {v:V},(kvs.map (·.1)).Nodup→kvs[i]?=some (k,v)→valV kvs k=some v
 | [],_,_,_,_,h=>by cases h
 | kv::kvs,0,_,_,_,h=>by
  cases h
  exact pC rfl
 | kv::kvs,i+1,k,v,nd,h=>by
  rw[List.map_cons,List.nodup_cons] at nd
  rw[List.getElem?_cons_succ] at h
  have ih:=yK nd.2 h
  have ne:¬ kv.1=k:=fun e=>nd.1 (by rw[e]; exact zg ih)
  unfold valV
  rw[List.find?_cons_of_neg (by simpa using ne)]
  exact ih
theorem BE:∀ {kvs:List (Key×V)} {k:Key} {v:V},valV kvs k=some v→∃ i:Nat,kvs[i]?=some (k,v)
 | [],_,_,h=>by cases h
 | kv::kvs,k,v,h=>by
  by_cases e:kv.1=k
  ·rw[pC e] at h
   cases h
   exact⟨0,by rw[← e]; rfl⟩
  ·unfold valV at h
   rw[List.find?_cons_of_neg (by simpa using e)] at h
   obtain⟨i,hi⟩:=BE h
   exact⟨i+1,by rw[List.getElem?_cons_succ]; exact hi⟩
structure Way (L:List En) (F:List (List Int)) (e0:Nat) (R:List Rc):Prop where
 nd:(R.map (·.1)).Nodup
 ok:∀ (i:Nat) (x:Rc),R[i]?=some x→(x.2.2=none∧x.2.1=e0∧x.1∈pl L e0)∨∃ b,x.2.2=some b∧b∈(R.take i).map (·.1)∧Led L F b x.2.1 x.1
theorem Way.snoc {L:List En} {F:List (List Int)} {e0 p e b:Nat} {R:List Rc} (h:Way L F e0 R) (hp:p ∉ R.map (·.1)) (hb:b∈R.map (·.1)) (hl:Led L F b e p):Way L F e0 (R++[(p,e,some b)]):=by
 refine⟨?_,fun i x hx=>?_⟩
 ·rw[List.map_append]
  exact xh h.nd hp
 ·by_cases hi:i<R.length
  ·rw[List.getElem?_append_left hi] at hx
   rcases h.ok i x hx with z | ⟨b',z1,z2,z3⟩
   ·exact .inl z
   ·exact .inr ⟨b',z1,by rw[List.take_append_of_le_length (by omega)]; exact z2,z3⟩
  ·rw[List.getElem?_append_right (by omega)] at hx
   have hi2:i-R.length=0:=by
    by_cases z:i-R.length=0
    ·exact z
    ·rw[List.getElem?_eq_none (by simp; omega)] at hx
     cases hx
   rw[hi2] at hx
   cases hx
   refine .inr ⟨b,rfl,?_,hl⟩
   rw[show i=R.length by omega,List.take_left]
   exact hb
structure Reach (L:List En) (F:List (List Int)) (e0:Nat) (R:List Rc):Prop where
 way:Way L F e0 R
 base:∀ p∈pl L e0,p∈R.map (·.1)
 shut:∀ p∈R.map (·.1),∀ e o,Led L F p e o→o∈R.map (·.1)
theorem G6 {m:Nat} {L:List En} {F:List (List Int)} {j e o:Nat} (sz:Siz m L F) (h:Led L F j e o):o<m:=by
 obtain⟨h1,_,h3⟩:=h
 have h4:e<L.length:=Nat.lt_of_lt_of_le h1 sz.fl
 unfold pl at h3
 rw[show L.getD e ([],0)=L[e] by simp [List.getD,h4]] at h3
 exact (sz.pl _ (List.getElem_mem h4)).2 o h3
def Cc (K:PySem.W.Frag):Sp:=fun vs H Q _=>∃ (l g:Addr) (e0 m:Nat) (L:List En) (rs:List Addr) (F:List (List Int)),vs=[.ref l,.ref g,.int e0]∧LnAt K H l L∧FlAt H g rs F∧Siz m L F∧e0<L.length ∧
 ∀ (D:Addr) (kvs:List (Key×V)) (R:List Rc) (H':Hp),Same H H'→H D=none→H' D=some (.dK kvs)→RcAt K H' kvs R→Reach L F e0 R→(∀ p∈R.map (·.1),p<m)→Q (.ref D) H'
section
variable {P:Program} {w:World} {K:PySem.W.Frag} {mg:Str→Option Value} {base:Heap} {f:Addr} {fd:FuncData}
theorem zI (F:Fun K "reached_by" "reached_by" ah f fd) (M:Mg mg) (m_dict:mg "dict"=none) (i0:Cal P w K mg base CX0 "led_over" 1 ["line","flows","place"] (CK K)):FnOk P w K mg base CX0 2 f fd ["line","flows","entry"] (Cc K):=by
 refine F.ok cB (fun vs H Q E h=>?_) (fun cdv A outer s H vs Q E hr h=>?_)
 ·obtain⟨l,g,e0,m,L,rs,F',rfl,_⟩:=h
  rfl
 obtain⟨l,g,e0,m,L,rs,Fl,rfl,hL,hF,sz,he0,q⟩:=h
 refine⟨_,(@ff _ _ _ _ _ (@gI _ _ 3 _ _ _ _ cB.nd rfl mf (@nt _ _ _ _ _ _ _ _ _ (yq rfl) ko m_dict C1 (@cT _ _ _ _ _ (@lB _ _ _ _ _ _ _ _ _ _ _ _ _ _ _ rfl (CompOk.make (N':=["entry","place"]) (ix:=[2]) (nl:=1) (by rfl) (fm1 rfl fm0) (by rfl) (by decide +kernel) rfl (by decide +kernel) rfl (And.intro ⟨rfl,.inl rfl,.inl rfl⟩ True.intro)) (@m8 _ _ _ _ (@gf _ _ _ _ _ _ _ (@jl _) (@gf _ _ _ _ _ _ _ (@gK _) (@cg _ 0 _ _ rfl iJ bC bE) (@cg _ 2 _ _ rfl md aZ ba) (fun _ _=>rfl)) (@dR _ _ _ _) (fun _ _=>rfl))) (fun _ _ _ _ _=>(@fT _ _ 1 _ (show List.Nodup (["entry","place"]:List Str) from by decide) rfl (Or.inl rfl) (by first | exact .inl rfl | exact .inr rfl | assumption))) (fun _ _ _ _ _=>(@mH _)) (fun _ _ _ _ _=>(@qt _ _ _ _ _ (@cT _ _ _ _ _ (@pv _ 1 _ _ (by rfl) (by decreasing_trivial) (by decide) (by decide)) (@cT _ _ _ _ _ (@qt _ _ _ _ _ (@cT _ _ _ _ _ (@pv _ 0 _ _ (by rfl) (by decreasing_trivial) (by decide) (by decide)) (@cT _ _ _ _ _ (@vQ _ _ _) (@dB _) (di rfl)) (di rfl))) (@dB _) (di rfl)) (di rfl)))) (by intro _; rfl)) (@dB _) (di rfl)) lY lX (di rfl) fD) (gG rfl) (.inl rfl)) (@ff _ _ _ _ _ (@gI _ _ 4 _ _ _ _ cB.nd rfl mq (@nt _ _ _ _ _ _ _ _ _ (Ba rfl) kq M.m_list r8 (@cT _ _ _ _ _ (@cg _ 3 _ _ rfl dm bU bV) (@dB _) (di rfl)) bq bo (di rfl) fD) (gG rfl) (.inl rfl)) (@ff _ _ _ _ _ (@yd _ _ _ _ _ _ PassesOwn.never (@jj _ _ _ _ _ _ _ _ (@u0 _) (@fZ _ _ _ _ _ _ _ _ _ gJ kK M.m_len nj (@cT _ _ _ _ _ (@cg _ 4 _ _ rfl eM iY iZ) (@dB _) (di rfl)) aF aE (di rfl) fD) (@dR _ _ _ _) (iG _)) (@ff _ _ _ _ _ (@gI _ _ 5 _ _ _ _ cB.nd rfl mt (@uS _ _ _ _ _ _ _ _ _ _ _ _ PySem.F.plainAttrs_list PySem.F.slot_list_pop PySem.F.type_list_pop E2 (@cg _ 4 _ _ rfl eM iY iZ) (@cT _ _ _ _ _ (@dR _ _ _ _) (@dB _) (di rfl)) (by rfl) (by rfl) (by rfl) (by rfl) (by rfl)) (gG rfl) (.inl rfl)) (@ff _ _ _ _ _ (@gI _ _ 6 _ _ _ _ cB.nd rfl my (@gv _ _ _ _ _ _ _ _ _ _ _ i0 hr iM (@cT _ _ _ _ _ (@cg _ 0 _ _ rfl iJ bC bE) (@cT _ _ _ _ _ (@cg _ 1 _ _ rfl lZ bM bN) (@cT _ _ _ _ _ (@cg _ 5 _ _ rfl iK bK bL) (@dB _) (di rfl)) (di rfl)) (di rfl)) (by decide) qJ (di rfl) (gw rfl (gw rfl fD))) (gG rfl) (.inl rfl)) (@fL _ _ _ (@rB _ _ _ _ _ _ _ _ PassesOwn.never rfl (@xO _ _ _ _ (@cg _ 6 _ _ rfl iL fA fC)) (@fT _ _ 7 _ cB.nd rfl mz (.inl rfl)) (@fL _ _ _ (@nS _ _ _ _ _ _ _ _ (G7 (@DK _ _ _ _ _ (u6 hr) (@cg _ 7 _ _ rfl dy eK eL) (@cg _ 3 _ _ rfl dm bU bV)) (by rfl)) (@ff _ _ _ _ _ (@BI _ _ _ _ _ _ _ _ _ (u6 hr) (@cg _ 3 _ _ rfl dm bU bV) (@cg _ 7 _ _ rfl dy eK eL) (@qt _ _ _ _ _ (@cT _ _ _ _ _ (@yM _ _ _ _ _ _ (u6 hr) (@cg _ 6 _ _ rfl iL fA fC) (@cg _ 7 _ _ rfl dy eK eL) (fun _ _=>rfl)) (@cT _ _ _ _ _ (@cg _ 5 _ _ rfl iK bK bL) (@dB _) (di rfl)) (di rfl))) (gG rfl)) (@fL _ _ _ (@tM _ _ _ _ (@uS _ _ _ _ _ _ _ _ _ _ _ _ PySem.F.plainAttrs_list PySem.F.slot_list_append PySem.F.type_list_append pD (@cg _ 4 _ _ rfl eM iY iZ) (@cT _ _ _ _ _ (@cg _ 7 _ _ rfl dy eK eL) (@dB _) (di rfl)) (by rfl) (by rfl) (by rfl) (by rfl) (by rfl)) (gG rfl)))) (@kN _))) (by intro _; rfl)))))) (@fL _ _ _ (@ic _ _ _ _ (@cg _ 3 _ _ rfl dm bU bV)))))),?_⟩
 trivial
 obtain⟨en,hen⟩:∃ en,L[e0]?=some en:=⟨_,List.getElem?_eq_getElem he0⟩
 have epl:pl L e0=en.1:=by
  unfold pl
  rw[show L.getD e0 ([],0)=en by simp [List.getD,hen]]
 obtain⟨us,t,q',a1,a2,a3,a4⟩:=hL.get hen
 have men:en∈L:=List.mem_iff_getElem?.mpr ⟨_,hen⟩
 obtain⟨len1,len2⟩:=sz.pl en men
 have lnd:=sz.nd en men
 refine⟨us,a1,_,nM a2,t,rfl,_,a3,_,rfl,q',rfl,⟨_,a4⟩,fun D hD=>?_⟩
 obtain⟨Pc,hC⟩:∃ Pc:Nat→St→Hp→Prop,Pc=fun i τ H2=>∃ (as:List Addr) (kvs:List (Key×V)) (z:Option V),H2 D=some (.lst (as.map V.ref))∧as.length=kvs.length∧(∀ (j:Nat) (a:Addr) (kv:Key×V),as[j]?=some a→kvs[j]?=some kv→SqT K H2 a [kV kv.1,kv.2])∧RcAt K H2 kvs ((en.1.take i).map fun p=>(p,e0,none))∧Same H H2∧τ=[some (.int (e0:Int)),z]:=⟨_,rfl⟩
 refine mJ (K:=K) (en.1.map fun j:Nat=>V.int (j:Int)) Pc ?_ (fun k σ H3 _ h=>by rw[hC] at h; obtain⟨_,_,_,_,_,_,_,e3,_⟩:=h; exact e3.seq a4) ?_ ?_
 ·rw[hC]
  exact⟨[],[],_,er,rfl,(fun j a kv z=>by cases z),.nil,fS hD _,rfl⟩
 ·intro i v τ H2 R' hi h next
  rw[hC] at h
  obtain⟨as,kvs,z,d2,la,ta,ra,e2,rfl⟩:=h
  rw[List.getElem?_map] at hi
  obtain⟨o,ho,rfl⟩:=Option.map_eq_some_iff.mp hi
  have et:en.1.take (i+1)=en.1.take i++[o]:=by
   rw[List.take_add_one,ho]
   rfl
  have li:i<en.1.length:=(List.getElem?_eq_some_iff.mp ho).1
  have lk:kvs.length≤i:=by
   rw[ra.len,List.length_map,List.length_take]
   omega
  trivial
  refine⟨by decide,fun p hp=>⟨by decide,fun p1 hp1=>?_⟩⟩
  obtain⟨H3,g3,S3,T3⟩:=ji (K:=K) hp [V.int (e0:Int),V.non]
  rw[← g3] at hp1 ⊢
  clear g3
  obtain⟨H4,g4,S4,T4⟩:=ji (K:=K) hp1 [V.int (o:Int),V.ref p]
  rw[← g4]
  clear g4
  have S34:=S3.trans S4
  have d4:=S34 _ _ d2
  refine⟨_,d4,Nat.lt_of_lt_of_le (m:=1000) (by rw[List.length_map]; omega) (by decide),next _ _ ?_⟩
  rw[hC]
  refine⟨as++[p1],kvs++[(.inl (o:Int),.ref p)],_,by rw[er,List.map_append]; rfl,by simp [la],fun j a kv ha hk=>?_,?_,gu (e2.trans S34) hD _,rfl⟩
  ·by_cases hj:j<as.length
   ·rw[List.getElem?_append_left hj] at ha
    rw[List.getElem?_append_left (by omega)] at hk
    exact ur d4 (fun ys z=>by cases z) (fun _ _ z=>by cases z) (Same.tup S34 (ta j a kv ha hk))
   ·have hj2:j<(as++[p1]).length:=(List.getElem?_eq_some_iff.mp ha).1
    rw[List.length_append,List.length_singleton] at hj2
    have ej:j=as.length:=by omega
    subst ej
    rw[List.getElem?_append_right (Nat.le_refl _),Nat.sub_self] at ha
    rw[la,List.getElem?_append_right (Nat.le_refl _),Nat.sub_self] at hk
    cases ha
    cases hk
    exact ur d4 (fun ys z=>by cases z) (fun _ _ z=>by cases z) T4
  ·rw[et,List.map_append]
   exact RcAt.snoc (b:=none) (ur d4 (fun ys z=>by cases z) (fun _ _ z=>by cases z) (Same.tup S4 T3)) (RcAt.upd d4 (fun ys z=>by cases z) (fun _ _ z=>by cases z) (ra.same S34))
 ·intro τ H2 h
  rw[hC] at h
  obtain⟨as,kvs,z,d2,la,ta,ra,e2,rfl⟩:=h
  rw[List.length_map,List.take_of_length_le (Nat.le_refl _)] at ra
  refine⟨D,rfl,as,SqL.of d2,kvs,la,ta,fun d hd=>?_⟩
  rw[Av (by rw[ra.keys,List.map_map]; exact Ab lnd)]
  have hdH:H d=none:=e2.free hd
  refine⟨kvs,.inl er,fun w hw=>?_⟩
  have wd:w≠d:=fun z=>by rw[z,er] at hw; cases hw
  have hw2:H2 w=none:=by rw[fj wd] at hw; exact hw
  have hwH:H w=none:=e2.free hw2
  have R0p:((en.1.map fun p=>((p,e0,none):Rc)).map (·.1))=en.1:=by rw[List.map_map]; exact List.map_id _
  obtain⟨IV,hIV⟩:∃ IV:Nat→St→Hp→Prop,IV=fun M σ H'=>∃ (kvs:List (Key×V)) (R:List Rc) (W:List Nat) (x y z:Option V),H' d=some (.dK kvs)∧H' w=some (.lst (W.map fun p:Nat=>V.int (p:Int)))∧RcAt K H' kvs R∧Way L Fl e0 R∧(∀ p∈pl L e0,p∈R.map (·.1))∧(∀ p∈W,p∈R.map (·.1))∧(∀ p∈R.map (·.1),p∈W∨∀ e o,Led L Fl p e o→o∈R.map (·.1))∧(∀ p∈R.map (·.1),p<m)∧M+2 * R.length=2 * m+W.length∧W.length≤R.length∧Same H H'∧σ=[some (.ref l),some (.ref g),some (.int (e0:Int)),some (.ref d),some (.ref w),x,y,z]:=⟨_,rfl⟩
  refine⟨IV,⟨2 * m+en.1.length-2 * en.1.length,?_⟩,?_⟩
  ·rw[hIV]
   refine⟨kvs,en.1.map fun p=>(p,e0,none),en.1,_,_,_,by rw[fj (Ne.symm wd),er],?_,RcAt.same ((fS hd _).trans (fS hw _)) ra,⟨by rw[R0p]; exact lnd,fun i x hx=>?_⟩,fun p hp=>by rw[R0p,← epl]; exact hp,fun p hp=>by rw[R0p]; exact hp,fun p hp=>.inl (by rw[R0p] at hp; exact hp),fun p hp=>len2 p (by rw[R0p] at hp; exact hp),?_,by rw[List.length_map]; exact Nat.le_refl _,(e2.trans (fS hd _)).trans (fS hw _),rfl⟩
   ·rw[er]
    have:=congrArg (List.map kV) ra.keys
    rw[List.map_map,List.map_map,List.map_map] at this
    exact congrArg (fun z=>some (HO.lst z)) this
   ·rw[List.getElem?_map] at hx
    obtain⟨p,hp,rfl⟩:=Option.map_eq_some_iff.mp hx
    exact .inl ⟨rfl,rfl,by rw[epl]; exact List.mem_iff_getElem?.mpr ⟨_,hp⟩⟩
   ·have:=uP m en.1 lnd len2
    rw[List.length_map]
    omega
  intro M' σ H3 h3
  rw[hIV] at h3
  obtain⟨kv3,R,W,x,y,z,d3,w3,r3,way,bs,wi,sh,lt,hM,wr,e3,rfl⟩:=h3
  trivial
  refine⟨_,.inl (SqL.of w3),?_⟩
  cases W with
  | nil =>
   rw[if_neg (by simp)]
   exact q d kv3 R H3 e3 hdH d3 r3 ⟨way,bs,fun p hp=>(sh p hp).resolve_left (fun z=>by cases z)⟩ lt
  | cons p W =>
   rw[if_pos (by simp)]
   refine⟨fun σ' H'=>∃ m',m'<M'∧IV m' σ' H',fun _ _ h=>h,.inl ⟨rfl,_,SqL.of w3⟩,_,w3,by decide,by decide,0,by rw[List.length_map]; exact seqIndex_of (by decide) (by simp),_,rfl,?_⟩
   have pR:=wi p List.mem_cons_self
   have e4:Same H (upd H3 w (.lst (W.map fun p:Nat=>V.int (p:Int)))):=gu e3 hwH _
   refine⟨l,g,p,m,L,rs,Fl,rfl,hL.same e4,hF.same e4,sz,lt p pR,fun D2 kl H5 e5 hD2 dD2 led=>⟨D2,rfl,kl,.inl dD2,fun ob H6 h6 oth=>?_⟩⟩
   have s46:Same (upd H3 w (.lst (W.map fun p:Nat=>V.int (p:Int)))) H6:=fun b u hb=>by
    rw[oth b (lu hb hD2)]
    exact e5 b u hb
   have hD2H:H D2=none:=e4.free hD2
   have dD:d≠D2:=lu (show upd H3 w (.lst (W.map fun p:Nat=>V.int (p:Int))) d=some (.dK kv3) by rw[fj (Ne.symm wd)]; exact d3) hD2
   have wD:w≠D2:=lu (show upd H3 w (.lst (W.map fun p:Nat=>V.int (p:Int))) w=some (.lst (W.map fun p:Nat=>V.int (p:Int))) from er) hD2
   obtain⟨Pw,hW⟩:∃ Pw:Nat→St→Hp→Prop,Pw=fun i σ H7=>∃ (kvs:List (Key×V)) (R:List Rc) (W:List Nat) (z:Option V) (N:Nat),H7 d=some (.dK kvs)∧H7 w=some (.lst (W.map fun p:Nat=>V.int (p:Int)))∧RcAt K H7 kvs R∧Way L Fl e0 R∧(∀ q∈pl L e0,q∈R.map (·.1))∧(∀ q∈W,q∈R.map (·.1))∧(∀ q∈R.map (·.1),q∈W∨q=p∨∀ e o,Led L Fl q e o→o∈R.map (·.1))∧(∀ (k o:Nat) (v:V),k<i→kl[k]?=some (.inl (o:Int),v)→o∈R.map (·.1))∧(∀ q∈R.map (·.1),q<m)∧p∈R.map (·.1)∧N<M'∧N+2 * R.length=2 * m+W.length∧W.length≤R.length∧H7 D2=some (.frz ob (.dK kl))∧Same H H7∧σ=[some (.ref l),some (.ref g),some (.int (e0:Int)),some (.ref d),some (.ref w),some (.int (p:Int)),some (.ref D2),z]:=⟨_,rfl⟩
   refine CL kl Pw ?_ (fun i σ H7 _ h=>by rw[hW] at h; obtain⟨_,_,_,_,_,_,_,_,_,_,_,_,_,_,_,_,_,_,z,_⟩:=h; exact z) ?_ ?_
   ·rw[hW]
    refine⟨kv3,R,W,_,M' - 1,s46 _ _ (by rw[fj (Ne.symm wd)]; exact d3),s46 _ _ er,RcAt.same s46 (RcAt.upd w3 (fun ys z=>by cases z) (fun _ _ z=>by cases z) r3),way,bs,fun q hq=>wi q (List.mem_cons_of_mem _ hq),fun q hq=>?_,fun k o v z=>by omega,lt,pR,?_,?_,by rw[List.length_cons] at wr; omega,h6,e4.trans s46,rfl⟩
    ·rcases sh q hq with z | z
     ·rcases List.mem_cons.mp z with z | z
      ·exact .inr (.inl z)
      ·exact .inl z
     ·exact .inr (.inr z)
    ·have:=uP m (R.map (·.1)) way.nd lt
     rw[List.length_map] at this
     rw[List.length_cons] at hM
     omega
    ·have:=uP m (R.map (·.1)) way.nd lt
     rw[List.length_map] at this
     rw[List.length_cons] at hM
     omega
   ·intro i k v σ H7 hk h
    rw[hW] at h
    obtain⟨kv7,R7,W7,z7,N7,d7,w7,r7,way7,bs7,wi7,sh7,pr7,lt7,p7,n7,hM7,wr7,D7,e7,rfl⟩:=h
    have hv:=yK led.nd hk
    obtain⟨o,e,rfl,rfl,hled⟩:=led.out k v hv
    show we 7 (V.int (o:Int)) _ _ _
    have om:o<m:=G6 sz hled
    have prn:∀ (S:List Nat),(∀ z∈R7.map (·.1),z∈S)→o∈S→∀ (k o2:Nat) (v:V),k<i+1→kl[k]?=some (.inl (o2:Int),v)→o2∈S:=fun S h1 h2 k2 o2 v2 hk2 hk3=>by
     by_cases z:k2<i
     ·exact h1 _ (pr7 k2 o2 v2 z hk3)
     ·have ek:k2=i:=by omega
      subst ek
      rw[hk] at hk3
      have h4:((o:Nat):Int)=(o2:Int):=Sum.inl.inj (Prod.mk.inj (Option.some.inj hk3)).1
      have:o2=o:=by omega
      rw[this]
      exact h2
    have lenR:=uP m (R7.map (·.1)) way7.nd lt7
    rw[List.length_map] at lenR
    have m64:=sz.m
    trivial
    refine⟨valV kv7 (.inl (o:Int)),.inl ⟨kv7,.inl (o:Int),.inl d7,rfl,rfl⟩,?_⟩
    cases hv7:valV kv7 (.inl (o:Int)) with
    | some v' =>
     rw[if_neg (by simp)]
     have oR:=(r7.mem o).mp (zg hv7)
     rw[hW]
     exact⟨kv7,R7,W7,_,N7,d7,w7,r7,way7,bs7,wi7,sh7,prn _ (fun _ z=>z) oR,lt7,p7,n7,hM7,wr7,D7,e7,rfl⟩
    | none =>
     rw[if_pos (by simp)]
     have oN:o ∉ R7.map (·.1):=fun z=>xS hv7 ((r7.mem o).mpr z)
     refine⟨.int (e:Int),.inl ⟨kl,.inl (o:Int),.inr ⟨ob,D7⟩,rfl,hv.symm⟩,by decide,fun T hT=>?_⟩
     obtain⟨H8,g8,S8,T8⟩:=ji (K:=K) hT [V.int (e:Int),V.int (p:Int)]
     rw[← g8]
     clear g8
     have d8:=S8 _ _ d7
     have way8:=way7.snoc oN p7 hled
     have lt8:∀ q∈(R7++[((o,e,some p):Rc)]).map (·.1),q<m:=fun q hq=>by
      rw[List.map_append] at hq
      rcases List.mem_append.mp hq with hq | hq
      ·exact lt7 q hq
      ·rw[List.mem_singleton.mp hq]
       exact om
     have lenR8:=uP m _ way8.nd lt8
     rw[List.length_map,List.length_append,List.length_singleton] at lenR8
     have old:∀ z∈R7.map (·.1),z∈(R7++[((o,e,some p):Rc)]).map (·.1):=fun z hz=>by
      rw[List.map_append]
      exact List.mem_append_left _ hz
     have oin:o∈(R7++[((o,e,some p):Rc)]).map (·.1):=by
      rw[List.map_append]
      exact List.mem_append_right _ (List.mem_singleton.mpr rfl)
     have w9:upd H8 d (.dK (putK kv7 (.inl (o:Int)) (.ref T))) w=some (.lst (W7.map fun p:Nat=>V.int (p:Int))):=by
      rw[fj wd]
      exact S8 _ _ w7
     refine⟨_,.inl ⟨kv7,.inl (o:Int),d8,rfl,Nat.lt_of_lt_of_le (m:=1000) (by rw[r7.len]; omega) (by decide),rfl⟩,.inl ⟨rfl,_,SqL.of w9⟩,_,w9,Nat.lt_of_lt_of_le (m:=1000) (by rw[List.length_map]; omega) (by decide),?_⟩
     rw[hW]
     refine⟨kv7++[(.inl (o:Int),.ref T)],R7++[(o,e,some p)],W7++[o],_,N7-1,by rw[fj (Ne.symm wd),er,vV hv7],by rw[er,List.map_append]; rfl,?_,way8,fun q hq=>old q (bs7 q hq),fun q hq=>?_,fun q hq=>?_,prn _ old oin,lt8,old p p7,by omega,by rw[List.length_append,List.length_append,List.length_singleton,List.length_singleton]; omega,by rw[List.length_append,List.length_append,List.length_singleton,List.length_singleton]; omega,by rw[fj (Ne.symm wD),fj (Ne.symm dD)]; exact S8 _ _ D7,gu (gu (e7.trans S8) hdH _) hwH _,rfl⟩
     ·refine RcAt.upd w9 (fun ys z=>by cases z) (fun _ _ z=>by cases z) (RcAt.upd d8 (fun ys z=>by cases z) (fun _ _ z=>by cases z) (RcAt.snoc (b:=some p) T8 (r7.same S8)))
     ·rcases List.mem_append.mp hq with hq | hq
      ·exact old q (wi7 q hq)
      ·rw[List.mem_singleton.mp hq]
       exact oin
     ·rw[List.map_append] at hq
      rcases List.mem_append.mp hq with hq | hq
      ·rcases sh7 q hq with z | z | z
       ·exact .inl (List.mem_append_left _ z)
       ·exact .inr (.inl z)
       ·exact .inr (.inr fun e o hl=>old _ (z e o hl))
      ·exact .inl (List.mem_append_right _ hq)
   ·intro σ H7 h
    rw[hW] at h
    obtain⟨kv7,R7,W7,z7,N7,d7,w7,r7,way7,bs7,wi7,sh7,pr7,lt7,p7,n7,hM7,wr7,D7,e7,rfl⟩:=h
    refine⟨N7,n7,?_⟩
    rw[hIV]
    refine⟨kv7,R7,W7,_,_,_,d7,w7,r7,way7,bs7,wi7,fun q hq=>?_,lt7,hM7,wr7,e7,rfl⟩
    rcases sh7 q hq with z | z | z
    ·exact .inl z
    ·subst z
     refine .inr fun e o hl=>?_
     obtain⟨v,hv⟩:=led.all e o hl
     obtain⟨k,hk⟩:=BE hv
     exact pr7 k o v (List.getElem?_eq_some_iff.mp hk).1 hk
    ·exact .inr z
end
end MyB
namespace MyC
open My MyB PySem L2
def top (i:Nat):Stmt:=PySem.Challenge.pw_tariffgate_k67_whole_no_other.main.body.getD i (.Pass ⟨0,0,0,0⟩)
theorem eN:(("moves":Str) == ("__debug__":Str))=false:=by decide
theorem eO:(("moves":Str) == ("__classdict__":Str))=false:=by decide
theorem mB:(("move":Str) == ("__debug__":Str))=false:=by decide
theorem mC:(("move":Str) == ("__classdict__":Str))=false:=by decide
abbrev bB:Stmt:=top 17
theorem fh:FnScope ["reached","place","moves","move"] ["reached","place"] (defScope bB):=⟨rfl,rfl,rfl,by decide +kernel,rfl,by decide +kernel,by decide +kernel⟩
theorem oY:Vis (defScope bB) "reached":=by decreasing_trivial
theorem gx:Vis (defScope bB) "place":=by decreasing_trivial
theorem oZ:Loc (defScope bB) "place":=by first | exact Or.inl rfl | exact Or.inr rfl
theorem jC:Vis (defScope bB) "moves":=by decreasing_trivial
theorem o5:Loc (defScope bB) "moves":=by first | exact Or.inl rfl | exact Or.inr rfl
theorem gy:Vis (defScope bB) "move":=by decreasing_trivial
theorem o6:Loc (defScope bB) "move":=by first | exact Or.inl rfl | exact Or.inr rfl
abbrev Mv:=Nat×Option Nat×Nat
def MvAt (K:PySem.W.Frag) (H:Hp) (vs:List V) (MV:List Mv):Prop:=Paired (fun (v:V) (x:Mv)=>∃ t,v=V.ref t∧SqT K H t [.int (x.1:Int),vh x.2.1,.int (x.2.2:Int)]) vs MV
theorem MvAt.same {K:PySem.W.Frag} {H H':Hp} (e:Same H H'):∀ {vs:List V} {MV:List Mv},MvAt K H vs MV→MvAt K H' vs MV
 | _,_,.nil=>.nil
 | _,_,.cons ⟨t,a,b⟩ r=>.cons ⟨t,a,Same.tup e b⟩ (MvAt.same e r)
theorem MvAt.upd {K:PySem.W.Frag} {H:Hp} {D:Addr} {o o':HO} (hD:H D=some o) (n1:∀ ys,o≠.tup ys) (n2:∀ ob ys,o≠.frz ob (.tup ys)):∀ {vs:List V} {MV:List Mv},MvAt K H vs MV→MvAt K (L2.upd H D o') vs MV
 | _,_,.nil=>.nil
 | _,_,.cons ⟨t,a,b⟩ r=>.cons ⟨t,a,ur hD n1 n2 b⟩ (MvAt.upd hD n1 n2 r)
theorem MvAt.snoc {K:PySem.W.Frag} {H:Hp} {e c:Nat} {b:Option Nat} {t:Addr} (h:SqT K H t [.int (e:Int),vh b,.int (c:Int)]):∀ {vs:List V} {MV:List Mv},MvAt K H vs MV→MvAt K H (vs++[.ref t]) (MV++[(e,b,c)])
 | _,_,.nil=>.cons ⟨t,rfl,h⟩ .nil
 | _,_,.cons a r=>.cons a (MvAt.snoc h r)
theorem MvAt.len {K:PySem.W.Frag} {H:Hp}:∀ {vs:List V} {MV:List Mv},MvAt K H vs MV→vs.length=MV.length
 | _,_,.nil=>rfl
 | _,_,.cons _ r=>by rw[List.length_cons,List.length_cons,MvAt.len r]
theorem De {K:PySem.W.Frag} {H:Hp}:∀ {kvs:List (Key×V)} {R:List Rc} {i:Nat} {x:Rc},RcAt K H kvs R→R[i]?=some x→∃ t,kvs[i]?=some (.inl (x.1:Int),.ref t)∧SqT K H t [.int (x.2.1:Int),vh x.2.2]
 | _,_,_,_,.nil,h=>by cases h
 | _,_,0,_,.cons (a:=kv) ⟨a,t,b,c⟩ _,h=>by
  cases h
  exact⟨t,by rw[← a,← b]; rfl,c⟩
 | _,_,i+1,_,.cons _ r,h=>by
  rw[List.getElem?_cons_succ] at h
  obtain⟨t,a,b⟩:=De r h
  exact⟨t,by rw[List.getElem?_cons_succ]; exact a,b⟩
structure Pre (L:List En) (F:List (List Int)) (e0 p:Nat) (MV:List Mv) (cur:Option Nat):Prop where
 hd:(MV=[]∧cur=some p)∨∃ x,MV[0]?=some x∧x.2.2=p
 ok:∀ (i:Nat) (x:Mv),MV[i]?=some x→(x.2.1=none∧i+1=MV.length∧cur=none∧x.1=e0∧x.2.2∈pl L e0)∨∃ b,x.2.1=some b∧Led L F b x.1 x.2.2∧((i+1=MV.length∧cur=some b)∨∃ y,MV[i+1]?=some y∧y.2.2=b)
 nd:(MV.map (·.2.2)).Nodup
def yL (K:PySem.W.Frag):Sp:=fun vs H Q _=>∃ (d:Addr) (p e0 m:Nat) (L:List En) (F:List (List Int)) (kvs:List (Key×V)) (R:List Rc),vs=[.ref d,.int p]∧Rd H d (.dK kvs)∧RcAt K H kvs R∧Way L F e0 R∧p∈R.map (·.1)∧R.length≤64 ∧
 ∀ (l:Addr) (vs:List V) (MV:List Mv) (H':Hp),Same H H'→H l=none→H' l=some (.lst vs)→MvAt K H' vs MV→Pre L F e0 p MV none→(∀ x∈MV,x.2.2∈R.map (·.1))→Q (.ref l) H'
section
variable {P:Program} {w:World} {K:PySem.W.Frag} {mg:Str→Option Value} {base:Heap} {f:Addr} {fd:FuncData}
theorem Bb (F:Fun K "moves_to" "moves_to" bB f fd) (M:Mg mg):FnOk P w K mg base CX0 1 f fd ["reached","place"] (yL K):=by
 refine F.ok fh (fun vs H Q E h=>?_) (fun cdv A outer s H vs Q E hr h=>?_)
 ·obtain⟨d,p,e0,m,L,F',kvs,R,rfl,_⟩:=h
  rfl
 obtain⟨d,p,e0,m,L,Fl,kvs,R,rfl,hd,hR,way,hp,l64,q⟩:=h
 refine⟨_,(@ff _ _ _ _ _ (@gI _ _ 2 _ _ _ _ fh.nd rfl o5 (@rC _ _ _ _ (@dB _)) (gG rfl) (.inl rfl)) (@ff _ _ _ _ _ (@yd _ _ _ _ _ _ PassesOwn.never (@jj _ _ _ _ _ _ _ _ yS (@cg _ 1 _ _ rfl gx bK bL) (@vQ _ _ _) (iG _)) (@ff _ _ _ _ _ (@gI _ _ 3 _ _ _ _ fh.nd rfl o6 (@yM _ _ _ _ _ _ (u6 hr) (@cg _ 0 _ _ rfl oY bU bV) (@cg _ 1 _ _ rfl gx bK bL) (fun _ _=>rfl)) (gG rfl) (.inl rfl)) (@ff _ _ _ _ _ (@tM _ _ _ _ (@uS _ _ _ _ _ _ _ _ _ _ _ _ PySem.F.plainAttrs_list PySem.F.slot_list_append PySem.F.type_list_append pD (@cg _ 2 _ _ rfl jC eN eO) (@cT _ _ _ _ _ (@qt _ _ _ _ _ (@cT _ _ _ _ _ (@gf _ _ _ _ _ _ _ (@jl _) (@cg _ 3 _ _ rfl gy mB mC) (@dR _ _ _ _) (fun _ _=>rfl)) (@cT _ _ _ _ _ (@gf _ _ _ _ _ _ _ (@jl _) (@cg _ 3 _ _ rfl gy mB mC) (@dR _ _ _ _) (fun _ _=>rfl)) (@cT _ _ _ _ _ (@cg _ 1 _ _ rfl gx bK bL) (@dB _) (di rfl)) (di rfl)) (di rfl))) (@dB _) (di rfl)) (by rfl) (by rfl) (by rfl) (by rfl) (by rfl)) (gG rfl)) (@fL _ _ _ (@gI _ _ 1 _ _ _ _ fh.nd rfl oZ (@gf _ _ _ _ _ _ _ (@jl _) (@cg _ 3 _ _ rfl gy mB mC) (@dR _ _ _ _) (fun _ _=>rfl)) (gG rfl) (.inl rfl)))))) (@fL _ _ _ (@ic _ _ _ _ (@cg _ 2 _ _ rfl jC eN eO))))),?_⟩
 trivial
 refine⟨by decide,fun l hl=>?_⟩
 obtain⟨IV,hIV⟩:∃ IV:Nat→St→Hp→Prop,IV=fun N σ H'=>∃ (vs:List V) (MV:List Mv) (cur:Option Nat) (z:Option V),H' l=some (.lst vs)∧MvAt K H' vs MV∧Pre L Fl e0 p MV cur∧(∀ x∈MV,x.2.2∈R.map (·.1))∧MV.length≤R.length∧(∀ c,cur=some c→∃ (j e:Nat) (b:Option Nat),R[j]?=some (c,e,b)∧N=j+1∧MV.length+j<R.length∧∀ y∈MV,∃ (jy:Nat) (ry:Rc),j<jy∧R[jy]?=some ry∧ry.1=y.2.2)∧Same H H'∧σ=[some (.ref d),some (vh cur),some (.ref l),z]:=⟨_,rfl⟩
 obtain⟨rp,hrp,erp⟩:=List.mem_map.mp hp
 obtain⟨j0,hj0⟩:=List.mem_iff_getElem?.mp hrp
 obtain⟨p',ep,bp⟩:=rp
 replace erp:p'=p:=erp
 subst erp
 refine⟨IV,⟨j0+1,?_⟩,?_⟩
 ·rw[hIV]
  refine⟨[],[],some p',_,er,.nil,⟨.inl ⟨rfl,rfl⟩,(fun i x z=>by cases z),List.nodup_nil⟩,(fun x z=>by cases z),Nat.zero_le _,fun c hc=>?_,fS hl _,rfl⟩
  cases hc
  exact⟨j0,ep,bp,hj0,rfl,by have:=(List.getElem?_eq_some_iff.mp hj0).1; simpa using this,fun y z=>by cases z⟩
 intro N σ H3 h3
 rw[hIV] at h3
 obtain⟨vs,MV,cur,z,d3,mv,pre,inR,lMR,idx,e3,rfl⟩:=h3
 cases cur with
 | none =>
  trivial
  rw[if_pos (show vh none=V.non from rfl)]
  exact q l vs MV H3 e3 hl d3 mv pre inR
 | some c =>
  obtain⟨j,e,b,hj,rfl,lj,idx2⟩:=idx c rfl
  obtain⟨t,hk,hT⟩:=De hR hj
  have knd:(kvs.map (·.1)).Nodup:=by
   rw[hR.keys]
   have:=Ab way.nd
   rwa [List.map_map] at this
  have hv:=yK knd hk
  have hT3:=Same.tup e3 hT
  have rd3:Rd H3 d (.dK kvs):=by
   rcases hd with h | ⟨o,h⟩
   ·exact .inl (e3 _ _ h)
   ·exact .inr ⟨o,e3 _ _ h⟩
  have cR:c∈R.map (·.1):=List.mem_map.mpr ⟨_,List.mem_iff_getElem?.mpr ⟨_,hj⟩,rfl⟩
  have cN:c ∉ MV.map (·.2.2):=fun z=>by
   obtain⟨y,hy,ey⟩:=List.mem_map.mp z
   obtain⟨jy,ry,h1,h2,h3⟩:=idx2 y hy
   have a1:(R.map (·.1))[j]?=some c:=by rw[List.getElem?_map,hj]; rfl
   have a2:(R.map (·.1))[jy]?=some c:=by rw[List.getElem?_map,h2]; show some ry.1=_; rw[h3,ey]
   have a3:j<(R.map (·.1)).length:=(List.getElem?_eq_some_iff.mp a1).1
   have:=(List.getElem?_inj a3 way.nd).mp (a1.trans a2.symm)
   omega
  have preN:∀ cur',((b=none∧cur'=none∧e=e0∧c∈pl L e0)∨∃ b',b=some b'∧cur'=some b'∧Led L Fl b' e c)→Pre L Fl e0 p' (MV++[(e,b,c)]) cur':=fun cur' hc=>by
   refine⟨.inr ?_,fun i x hx=>?_,?_⟩
   ·rcases pre.hd with ⟨h1,h2⟩ | ⟨x,h1,h2⟩
    ·cases h2
     rw[h1]
     exact⟨_,rfl,rfl⟩
    ·exact⟨x,by rw[List.getElem?_append_left (List.getElem?_eq_some_iff.mp h1).1]; exact h1,h2⟩
   ·rw[List.length_append,List.length_singleton]
    by_cases hi:i<MV.length
    ·rw[List.getElem?_append_left hi] at hx
     rcases pre.ok i x hx with ⟨_,_,z,_⟩ | ⟨b1,h1,h2,h3⟩
     ·cases z
     ·refine .inr ⟨b1,h1,h2,.inr ?_⟩
      rcases h3 with ⟨h4,h5⟩ | ⟨y,h4,h5⟩
      ·cases h5
       exact⟨(e,b,c),by rw[h4,List.getElem?_append_right (Nat.le_refl _),Nat.sub_self]; rfl,rfl⟩
      ·exact⟨y,by rw[List.getElem?_append_left (List.getElem?_eq_some_iff.mp h4).1]; exact h4,h5⟩
    ·have hi2:i<(MV++[((e,b,c):Mv)]).length:=(List.getElem?_eq_some_iff.mp hx).1
     rw[List.length_append,List.length_singleton] at hi2
     have ei:i=MV.length:=by omega
     subst ei
     rw[List.getElem?_append_right (Nat.le_refl _),Nat.sub_self] at hx
     cases hx
     rcases hc with ⟨h1,h2,h3,h4⟩ | ⟨b',h1,h2,h3⟩
     ·exact .inl ⟨h1,rfl,h2,h3,h4⟩
     ·exact .inr ⟨b',h1,h3,.inl ⟨rfl,h2⟩⟩
   ·rw[List.map_append]
    exact xh pre.nd cN
  have inN:∀ x∈MV++[((e,b,c):Mv)],x.2.2∈R.map (·.1):=fun x hx=>by
   rcases List.mem_append.mp hx with hx | hx
   ·exact inR x hx
   ·rw[List.mem_singleton.mp hx]
    exact cR
  trivial
  rw[if_neg (fun z=>by cases z)]
  refine⟨fun σ' H'=>∃ m',m'<j+1∧IV m' σ' H',fun _ _ h=>h,.ref t,.inl ⟨kvs,.inl (c:Int),rd3,rfl,hv.symm⟩,.inl ⟨rfl,_,SqL.of d3⟩,t,rfl,_,hT3,_,rfl,t,rfl,_,hT3,_,rfl,by decide,fun T hT'=>?_⟩
  obtain⟨H4,g4,S4,T4⟩:=ji (K:=K) hT' [V.int (e:Int),vh b,vh (some c)]
  rw[← g4]
  clear g4
  have d4:=S4 _ _ d3
  refine⟨vs,d4,Nat.lt_of_lt_of_le (m:=1000) (by rw[mv.len]; omega) (by decide),t,rfl,_,ur d4 (fun ys z=>by cases z) (fun _ _ z=>by cases z) (Same.tup S4 hT3),_,rfl,?_⟩
  have mvN:MvAt K (upd H4 l (.lst (vs++[V.ref T]))) (vs++[V.ref T]) (MV++[(e,b,c)]):=MvAt.upd d4 (fun ys z=>by cases z) (fun _ _ z=>by cases z) (MvAt.snoc T4 (mv.same S4))
  have lenN:(MV++[((e,b,c):Mv)]).length=MV.length+1:=by rw[List.length_append]; rfl
  rcases way.ok j _ hj with ⟨h1,h2,h3⟩ | ⟨b',h1,h2,h3⟩
  ·refine⟨0,by omega,?_⟩
   rw[hIV]
   replace h1:b=none:=h1
   subst h1
   exact⟨_,_,none,_,er,mvN,preN none (.inl ⟨rfl,rfl,h2,h3⟩),inN,by rw[lenN]; omega,(fun c hc=>by cases hc),gu (e3.trans S4) hl _,rfl⟩
  ·replace h1:b=some b':=h1
   subst h1
   obtain⟨x,hx,ex⟩:=List.mem_map.mp h2
   obtain⟨j',hj'⟩:=List.mem_iff_getElem?.mp hx
   have lj':j'<j:=by
    have:=(List.getElem?_eq_some_iff.mp hj').1
    rw[List.length_take] at this
    omega
   rw[List.getElem?_take_of_lt lj'] at hj'
   obtain⟨xb,xe,xo⟩:=x
   replace ex:xb=b':=ex
   subst ex
   refine⟨j'+1,by omega,?_⟩
   rw[hIV]
   refine⟨_,_,some xb,_,er,mvN,preN _ (.inr ⟨xb,rfl,rfl,h3⟩),inN,by rw[lenN]; omega,fun c' hc=>?_,gu (e3.trans S4) hl _,rfl⟩
   cases hc
   refine⟨j',xe,xo,hj',rfl,by rw[lenN]; omega,fun y hy=>?_⟩
   rcases List.mem_append.mp hy with hy | hy
   ·obtain⟨jy,ry,a1,a2,a3⟩:=idx2 y hy
    exact⟨jy,ry,by omega,a2,a3⟩
   ·rw[List.mem_singleton.mp hy]
    exact⟨j,_,lj',hj,rfl⟩
end
end MyC
namespace MyD
open My MyB MyC PySem L2
def top (i:Nat):Stmt:=PySem.Challenge.pw_tariffgate_k67_whole_no_other.main.body.getD i (.Pass ⟨0,0,0,0⟩)
theorem gk:(("left":Str) == ("__debug__":Str))=false:=by decide
theorem gm:(("left":Str) == ("__classdict__":Str))=false:=by decide
theorem hU:(("wanted":Str) == ("__debug__":Str))=false:=by decide
theorem hV:(("wanted":Str) == ("__classdict__":Str))=false:=by decide
theorem sg:(("end":Str) == ("__debug__":Str))=false:=by decide
theorem sj:(("end":Str) == ("__classdict__":Str))=false:=by decide
theorem sI:(("there":Str) == ("__debug__":Str))=false:=by decide
theorem sJ:(("there":Str) == ("__classdict__":Str))=false:=by decide
theorem fE:(("amount":Str) == ("__debug__":Str))=false:=by decide
theorem fF:(("amount":Str) == ("__classdict__":Str))=false:=by decide
theorem o7:(("min":Str) == ("__debug__":Str))=false:=by decide
theorem o8:("min":Str)≠"__name__":=by decide
theorem m7:(("before":Str) == ("__debug__":Str))=false:=by decide
theorem ng:(("before":Str) == ("__classdict__":Str))=false:=by decide
abbrev br:Stmt:=top 18
theorem eP:FnScope ["flows","left","wanted","moves","end","there","amount","entry","before","place"] ["flows","left","wanted","moves"] (defScope br):=⟨rfl,rfl,rfl,by decide +kernel,rfl,by decide +kernel,by decide +kernel⟩
theorem o9:Vis (defScope br) "flows":=by decreasing_trivial
theorem pc:Vis (defScope br) "left":=by decreasing_trivial
theorem sK:Vis (defScope br) "wanted":=by decreasing_trivial
theorem kL:Vis (defScope br) "moves":=by decreasing_trivial
theorem pe:Vis (defScope br) "end":=by decreasing_trivial
theorem sL:Loc (defScope br) "end":=by first | exact Or.inl rfl | exact Or.inr rfl
theorem sM:Vis (defScope br) "there":=by decreasing_trivial
theorem sO:Loc (defScope br) "there":=by first | exact Or.inl rfl | exact Or.inr rfl
theorem i4:Vis (defScope br) "amount":=by decreasing_trivial
theorem sP:Loc (defScope br) "amount":=by first | exact Or.inl rfl | exact Or.inr rfl
theorem ph:Vis (defScope br) "entry":=by decreasing_trivial
theorem sQ:Loc (defScope br) "entry":=by first | exact Or.inl rfl | exact Or.inr rfl
theorem pj:Vis (defScope br) "before":=by decreasing_trivial
theorem sR:Loc (defScope br) "before":=by first | exact Or.inl rfl | exact Or.inr rfl
theorem sU:Vis (defScope br) "place":=by decreasing_trivial
theorem sV:Loc (defScope br) "place":=by first | exact Or.inl rfl | exact Or.inr rfl
theorem rJ:(defScope br).names.lookup ("min":Str)=some .globalImplicit:=by rfl
def sd (F:List (List Int)) (e j:Nat) (a:Int):List (List Int):=F.set e ((F.getD e []).set j ((F.getD e []).getD j 0+a))
def ug (a:Int) (F:List (List Int)) (x:Mv):List (List Int):=sd (match x.2.1 with | none=>F | some b=>sd F x.1 b (-a)) x.1 x.2.2 a
def tF (a:Int) (F:List (List Int)) (MV:List Mv):List (List Int):=MV.foldl (ug a) F
def Rows (n m:Nat) (F:List (List Int)):Prop:=F.length=n∧∀ r∈F,r.length=m
theorem Rows.add {n m e j:Nat} {a:Int} {F:List (List Int)} (h:Rows n m F) (he:e<n):Rows n m (sd F e j a):=by
 refine⟨by unfold sd; rw[List.length_set]; exact h.1,fun r hr=>?_⟩
 unfold sd at hr
 rcases List.mem_or_eq_of_mem_set hr with hr | rfl
 ·exact h.2 r hr
 ·rw[List.length_set]
  have he':e<F.length:=by rw[h.1]; exact he
  rw[show F.getD e []=F[e] by simp [List.getD,he']]
  exact h.2 _ (List.getElem_mem he')
theorem Rows.step {n m:Nat} {a:Int} {F:List (List Int)} {x:Mv} (h:Rows n m F) (he:x.1<n):Rows n m (ug a F x):=by
 unfold ug
 cases x.2.1 with
 | none=>exact h.add he
 | some b=>exact (h.add he).add he
theorem Rows.led {n m:Nat} {a:Int}:∀ (MV:List Mv) {F:List (List Int)},Rows n m F→(∀ x∈MV,x.1<n)→Rows n m (tF a F MV)
 | [],_,h,_=>h
 | x::MV,_,h,hx=>Rows.led MV (h.step (hx x List.mem_cons_self)) fun y hy=>hx y (List.mem_cons_of_mem _ hy)
theorem zm (a:Int) (F:List (List Int)) (MV:List Mv) (x:Mv):tF a F (MV++[x])=ug a (tF a F MV) x:=by
 unfold tF
 rw[List.foldl_append]
 rfl
theorem uy {b r:Addr} {rs:List Addr} (h:b ∉ rs) (hr:r∈rs):b≠r:=fun z=>h (by rw[z]; exact hr)
theorem HA {H:Hp} {g:Addr} {rs:List Addr} {F:List (List Int)} {e:Nat} {r:Addr} {row':List Int} (h:FlAt H g rs F) (hr:rs[e]?=some r):FlAt (upd H r (.lst (row'.map V.int))) g rs (F.set e row'):=by
 have rg:r≠g:=h.ne r (List.mem_iff_getElem?.mpr ⟨_,hr⟩)
 have le:e<F.length:=by rw[← h.len]; exact (List.getElem?_eq_some_iff.mp hr).1
 refine⟨by rw[fj (Ne.symm rg)]; exact h.top,by rw[List.length_set]; exact h.len,fun i r2 fl a b=>?_,h.nd,h.ne⟩
 by_cases hi:i=e
 ·subst hi
  rw[hr] at a
  cases a
  rw[er]
  rw[List.getElem?_set_self le] at b
  cases b
  rfl
 ·have ne:r2≠r:=fun z=>by
   subst z
   exact hi ((List.getElem?_inj (List.getElem?_eq_some_iff.mp a).1 h.nd).mp (a.trans hr.symm))
  rw[fj ne]
  rw[List.getElem?_set_ne (Ne.symm hi)] at b
  exact h.row i r2 fl a b
theorem Ad {H:Hp} {g:Addr} {rs:List Addr} {F:List (List Int)} {n m e j:Nat} (h:FlAt H g rs F) (rw':Rows n m F) (he:e<n) (hj:j<m) (a:Int):∃ (r:Addr) (row:List Int),r∈rs∧(rs.map V.ref)[e]?=some (.ref r)∧H r=some (.lst (row.map V.int))∧row.length=m∧(row.map V.int)[j]?=some (.int (row.getD j 0))∧ixN (row.map V.int).length (j:Int)=some j∧FlAt (upd H r (.lst ((row.map V.int).set j (.int (row.getD j 0+a))))) g rs (sd F e j a):=by
 obtain⟨r,hr1⟩:∃ r,rs[e]?=some r:=⟨_,List.getElem?_eq_getElem (by rw[h.len,rw'.1]; exact he)⟩
 obtain⟨row,hrow⟩:∃ row,F[e]?=some row:=⟨_,List.getElem?_eq_getElem (by rw[rw'.1]; exact he)⟩
 have lrow:=rw'.2 row (List.mem_iff_getElem?.mpr ⟨_,hrow⟩)
 refine⟨r,row,List.mem_iff_getElem?.mpr ⟨_,hr1⟩,by rw[List.getElem?_map,hr1]; rfl,h.row _ r row hr1 hrow,lrow,?_,vR (by rw[List.length_map]; omega),?_⟩
 ·rw[List.getElem?_map,List.getElem?_eq_getElem (by omega),My.getD_at (show j<row.length by omega)]
  rfl
 ·have e1:F.getD e []=row:=by simp [List.getD,hrow]
  unfold sd
  rw[e1,← List.map_set]
  exact HA h hr1
def wA (n m:Nat) (MV:List Mv):Prop:=∀ x∈MV,x.1<n∧x.2.2<m∧∀ b,x.2.1=some b→b<m
def se (F:List (List Int)) (MV:List Mv):List Int:=MV.filterMap fun x=>x.2.1.map fun b=>fl F x.1 b
def z5 (K:PySem.W.Frag):Sp:=fun vs H Q _=>∃ (g f mo:Addr) (wn:Int) (n m:Nat) (rs:List Addr) (F:List (List Int)) (lf:List Int) (us:List V) (MV:List Mv) (x0:Mv),vs=[.ref g,.ref f,.int wn,.ref mo]∧FlAt H g rs F∧Rows n m F∧H f=some (.lst (lf.map V.int))∧lf.length=m∧f ∉ rs∧f≠g∧H mo=some (.lst us)∧mo ∉ rs∧mo≠f∧MvAt K H us MV∧wA n m MV∧MV[0]?=some x0∧MV.length≤64 ∧
 ∀ (a:Int) (H':Hp),a∈wn::lf.getD x0.2.2 0::se F MV→(∀ z∈wn::lf.getD x0.2.2 0::se F MV,a≤z)→(∀ b u,b ∉ rs→b≠f→H b=some u→H' b=some u)→FlAt H' g rs (tF a F MV)→H' f=some (.lst ((lf.set x0.2.2 (lf.getD x0.2.2 0-a)).map V.int))→Q (.int a) H'
theorem yt {K:PySem.W.Frag} {H:Hp}:∀ {vs:List V} {MV:List Mv} {i:Nat} {v:V},MvAt K H vs MV→vs[i]?=some v→∃ x t,MV[i]?=some x∧v=V.ref t∧SqT K H t [.int (x.1:Int),vh x.2.1,.int (x.2.2:Int)]
 | _,_,_,_,.nil,h=>by cases h
 | _,_,0,_,.cons ⟨t,a,b⟩ _,h=>by
  cases h
  exact⟨_,t,rfl,a,b⟩
 | _,_,i+1,_,.cons _ r,h=>by
  rw[List.getElem?_cons_succ] at h
  obtain⟨x,t,a,b,c⟩:=yt r h
  exact⟨x,t,by rw[List.getElem?_cons_succ]; exact a,b,c⟩
section
variable {P:Program} {w:World} {K:PySem.W.Frag} {mg:Str→Option Value} {base:Heap} {f:Addr} {fd:FuncData}
theorem Gr (F:Fun K "lead" "lead" br f fd) (M:Mg mg):FnOk P w K mg base CX0 1 f fd ["flows","left","wanted","moves"] (z5 K):=by
 refine F.ok eP (fun vs H Q E h=>?_) (fun cdv A outer s H vs Q E hr h=>?_)
 ·obtain⟨g,f,mo,wn,n,m,rs,F',lf,us,MV,x0,rfl,_⟩:=h
  rfl
 obtain⟨g,fa,mo,wn,n,m,rs,Fl,lf,us,MV,x0,rfl,hF,rows,hf,llf,frs,fg,hmo,mors,mof,hmv,ok,hx0,l64,q⟩:=h
 refine⟨_,(@ff _ _ _ _ _ (@gI _ _ 4 _ _ _ _ eP.nd rfl sL (@gf _ _ _ _ _ _ _ (@jl _) (@gf _ _ _ _ _ _ _ (@gK _) (@cg _ 3 _ _ rfl kL eN eO) (@dR _ _ _ _) (fun _ _=>rfl)) (@dR _ _ _ _) (fun _ _=>rfl)) (gG rfl) (.inl rfl)) (@ff _ _ _ _ _ (@uu _ _ _ _ _ _ _ _ _ _ _ _ _ _ _ 5 _ _ _ eP.nd rfl sO rfl (CompOk.make (N':=["flows","entry","before","place"]) (ix:=[0]) (nl:=3) (by rfl) (fm1 rfl fm0) (by rfl) (by decide +kernel) rfl (by decide +kernel) rfl (And.intro ⟨rfl,.inl rfl,.inl rfl⟩ True.intro)) (@m8 _ _ _ _ (@cg _ 3 _ _ rfl kL eN eO)) (fun _ _ _ _ _=>(@uI _ K _ _ 3 _ _ rfl rfl (@ia _ _ _ _ _ (@fT _ _ 1 _ (show List.Nodup (["flows","entry","before","place"]:List Str) from by decide) rfl (Or.inl rfl) (by first | exact .inl rfl | exact .inr rfl | assumption)) (@ia _ _ _ _ _ (@fT _ _ 2 _ (show List.Nodup (["flows","entry","before","place"]:List Str) from by decide) rfl (Or.inl rfl) (by first | exact .inl rfl | exact .inr rfl | assumption)) (@ia _ _ _ _ _ (@fT _ _ 3 _ (show List.Nodup (["flows","entry","before","place"]:List Str) from by decide) rfl (Or.inl rfl) (by first | exact .inl rfl | exact .inr rfl | assumption)) (@pB _) (by rfl)) (by rfl)) (by rfl)) (by rfl) (by rfl))) (fun _ _ _ _ _=>(@uZ _ _ _ (@jj _ _ _ _ _ _ _ _ yS (@pv _ 2 _ _ (by rfl) (by decreasing_trivial) (by decide) (by decide)) (@vQ _ _ _) (iG _)))) (fun _ _ _ _ _=>(@gf _ _ _ _ _ _ _ (@vZ _ K rfl) (@gf _ _ _ _ _ _ _ (@vZ _ K rfl) (@pv _ 0 _ _ (by rfl) (by decreasing_trivial) (by decide) (by decide)) (@pv _ 1 _ _ (by rfl) (by decreasing_trivial) (by decide) (by decide)) (fun _ _=>rfl)) (@pv _ 2 _ _ (by rfl) (by decreasing_trivial) (by decide) (by decide)) (fun _ _=>rfl))) (by rfl) (by intro _; rfl) (by first | exact .inl rfl | exact .inr rfl | assumption)) (@ff _ _ _ _ _ (@gI _ _ 6 _ _ _ _ eP.nd rfl sP (@fZ _ _ _ _ _ _ _ _ _ (DO rfl) rJ M.m_min FI (@cT _ _ _ _ _ (@gj _ _ _ _ _ _ _ _ (@DE _) (@rC _ _ _ _ (@cT _ _ _ _ _ (@cg _ 2 _ _ rfl sK hU hV) (@cT _ _ _ _ _ (@gf _ _ _ _ _ _ _ (@gK _) (@cg _ 1 _ _ rfl pc gk gm) (@cg _ 4 _ _ rfl pe sg sj) (fun _ _=>rfl)) (@dB _) (di rfl)) (di rfl))) (@cg _ 5 _ _ rfl sM sI sJ)) (@dB _) (di rfl)) o8 o7 (di rfl) fD) (gG rfl) (.inl rfl)) (@ff _ _ _ _ _ (@rB _ _ _ _ _ _ _ _ PassesOwn.never rfl (@m8 _ _ _ _ (@cg _ 3 _ _ rfl kL eN eO)) (@ve _ _ _ _ _ _ rfl (@ia _ _ _ _ _ (@fT _ _ 7 _ eP.nd rfl sQ (.inl rfl)) (@ia _ _ _ _ _ (@fT _ _ 8 _ eP.nd rfl sR (.inl rfl)) (@ia _ _ _ _ _ (@fT _ _ 9 _ eP.nd rfl sV (.inl rfl)) (@pB _) (by rfl)) (by rfl)) (by rfl)) (by rfl) (by rfl)) (@ff _ _ _ _ _ (@nS _ _ _ _ _ _ _ _ (@jj _ _ _ _ _ _ _ _ yS (@cg _ 8 _ _ rfl pj m7 ng) (@vQ _ _ _) (iG _)) (@fL _ _ _ (@yG _ _ _ _ _ _ _ _ _ _ _ _ _ (@gf _ _ _ _ _ _ _ (@gK _) (@cg _ 0 _ _ rfl o9 bM bN) (@cg _ 7 _ _ rfl ph aZ ba) (fun _ _=>rfl)) (@cg _ 8 _ _ rfl pj m7 ng) xX (@cg _ 6 _ _ rfl i4 fE fF) Ar set_list (by intros; rfl))) (@kN _)) (@fL _ _ _ (@yG _ _ _ _ _ _ _ _ _ _ _ _ _ (@gf _ _ _ _ _ _ _ (@gK _) (@cg _ 0 _ _ rfl o9 bM bN) (@cg _ 7 _ _ rfl ph aZ ba) (fun _ _=>rfl)) (@cg _ 9 _ _ rfl sU bK bL) xX (@cg _ 6 _ _ rfl i4 fE fF) Df set_list (by intros; rfl)))) (by intro _; rfl)) (@ff _ _ _ _ _ (@yG _ _ _ _ _ _ _ _ _ _ _ _ _ (@cg _ 1 _ _ rfl pc gk gm) (@cg _ 4 _ _ rfl pe sg sj) xX (@cg _ 6 _ _ rfl i4 fE fF) Ar set_list (by intros; rfl)) (@fL _ _ _ (@ic _ _ _ _ (@cg _ 6 _ _ rfl i4 fE fF)))))))),?_⟩
 trivial
 have l0:0<us.length:=by rw[hmv.len]; exact (List.getElem?_eq_some_iff.mp hx0).1
 obtain⟨v0,hv0⟩:∃ v0,us[0]?=some v0:=⟨_,List.getElem?_eq_getElem l0⟩
 obtain⟨x0',t0,e0,rfl,hT0⟩:=yt hmv hv0
 rw[hx0] at e0
 cases e0
 obtain⟨ok1,ok2,ok3⟩:=ok x0 (List.mem_iff_getElem?.mpr ⟨_,hx0⟩)
 refine⟨us,SqL.of hmo,_,nM hv0,t0,rfl,_,hT0,_,rfl,⟨_,SqL.of hmo⟩,fun D hD=>?_⟩
 obtain⟨Pc,hC⟩:∃ Pc:Nat→St→Hp→Prop,Pc=fun i τ H2=>∃ (x y z:Option V),H2 D=some (.lst ((se Fl (MV.take i)).map V.int))∧Same H H2∧τ=[some (.ref g),x,y,z]:=⟨_,rfl⟩
 refine mJ (K:=K) us Pc ?_ (fun k σ H3 _ h=>by rw[hC] at h; obtain⟨_,_,_,_,e3,_⟩:=h; exact SqL.of (e3 _ _ hmo)) ?_ ?_
 ·rw[hC]
  exact⟨_,_,_,by rw[er,List.take_zero]; rfl,fS hD _,rfl⟩
 ·intro i v τ H2 R' hi h next
  rw[hC] at h
  obtain⟨x1,y1,z1,d2,e2,rfl⟩:=h
  obtain⟨x,t,hx,rfl,hT⟩:=yt hmv hi
  have hT2:=Same.tup e2 hT
  have et:MV.take (i+1)=MV.take i++[x]:=by
   rw[List.take_add_one,hx]
   rfl
  obtain⟨o1,o2,o3⟩:=ok x (List.mem_iff_getElem?.mpr ⟨_,hx⟩)
  have li:i<MV.length:=(List.getElem?_eq_some_iff.mp hx).1
  have lti:(se Fl (MV.take i)).length≤i:=by
   refine Nat.le_trans (List.length_filterMap_le ..) ?_
   rw[List.length_take]
   omega
  trivial
  refine⟨_,hT2,rfl,_,_,rfl,_,_,rfl,_,_,rfl,rfl,?_⟩
  cases hb:x.2.1 with
  | none =>
   rw[if_pos (show vh none=V.non from rfl)]
   refine next _ _ ?_
   rw[hC]
   refine⟨_,_,_,?_,e2,rfl⟩
   rw[d2,et]
   unfold se
   rw[List.filterMap_append]
   simp [hb]
  | some b =>
   rw[if_neg (fun z=>by cases z)]
   have lb:=o3 b hb
   obtain⟨r,hr1⟩:∃ r,rs[x.1]?=some r:=⟨_,List.getElem?_eq_getElem (by rw[hF.len,rows.1]; exact o1)⟩
   obtain⟨row,hrow⟩:∃ row,Fl[x.1]?=some row:=⟨_,List.getElem?_eq_getElem (by rw[rows.1]; exact o1)⟩
   have lrow:=rows.2 row (List.mem_iff_getElem?.mpr ⟨_,hrow⟩)
   refine⟨rs.map V.ref,(x.1:Int),rfl,SqL.of (e2 _ _ hF.top),.ref r,nM (by rw[List.getElem?_map,hr1]; rfl),r,rfl,row.map V.int,(b:Int),rfl,SqL.of (e2 _ _ (hF.row _ r row hr1 hrow)),_,ux (by omega) (by omega),_,d2,Nat.lt_of_lt_of_le (m:=1000) (by rw[List.length_map]; omega) (by decide),next _ _ ?_⟩
   rw[hC]
   refine⟨_,_,_,?_,gu e2 hD _,rfl⟩
   rw[er,et]
   unfold se
   rw[List.filterMap_append,List.map_append]
   have ef:fl Fl x.1 b=row.getD b 0:=by
    unfold fl
    rw[show Fl.getD x.1 []=row by simp [List.getD,hrow]]
   simp [hb,ef]
 ·intro τ H2 h
  rw[hC] at h
  obtain⟨x1,y1,z1,d2,e2,rfl⟩:=h
  rw[hmv.len,List.take_length] at d2
  have lt:(se Fl MV).length≤MV.length:=List.length_filterMap_le ..
  have lfx:atI (lf.map V.int) (x0.2.2:Int)=some (.int (lf.getD x0.2.2 0)):=ux (by omega) (by omega)
  trivial
  refine⟨lf.map V.int,SqL.of (e2 _ _ hf),_,lfx,by decide,fun p hp=>?_⟩
  have d3:=fS hp (.lst [V.int wn,.int (lf.getD x0.2.2 0)]) _ _ d2
  refine⟨_,er,_,d3,Nat.le_trans (m:=1000) (by rw[List.length_map]; simp; omega) (by decide),fun p1 hp1=>?_⟩
  refine⟨wn::lf.getD x0.2.2 0::se Fl MV,SqL.of er,by simp,fun a ha hle=>?_⟩
  have S3:Same H (upd (upd H2 p (.lst [V.int wn,.int (lf.getD x0.2.2 0)])) p1 (.lst ([V.int wn,.int (lf.getD x0.2.2 0)]++(se Fl MV).map V.int))):=(e2.trans (fS hp _)).trans (fS hp1 _)
  obtain⟨H3,g3⟩:∃ H3,H3=upd (upd H2 p (.lst [V.int wn,.int (lf.getD x0.2.2 0)])) p1 (.lst ([V.int wn,.int (lf.getD x0.2.2 0)]++(se Fl MV).map V.int)):=⟨_,rfl⟩
  rw[← g3] at S3 ⊢
  refine⟨⟨us,SqL.of (S3 _ _ hmo)⟩,?_⟩
  obtain⟨Pv,hP⟩:∃ Pv:Nat→St→Hp→Prop,Pv=fun i σ H'=>∃ (x y z:Option V),FlAt H' g rs (tF a Fl (MV.take i))∧H' fa=some (.lst (lf.map V.int))∧H' mo=some (.lst us)∧MvAt K H' us MV∧(∀ b u,b ∉ rs→H b=some u→H' b=some u)∧σ=[some (.ref g),some (.ref fa),some (.int wn),some (.ref mo),some (.int (x0.2.2:Int)),some (.ref D),some (.int a),x,y,z]:=⟨_,rfl⟩
  refine uH (K:=K) us Pv ?_ (fun k σ H3 _ h=>by rw[hP] at h; obtain⟨_,_,_,_,_,z,_⟩:=h; exact SqL.of z) ?_ ?_
  ·rw[hP]
   exact⟨_,_,_,hF.same S3,S3 _ _ hf,S3 _ _ hmo,hmv.same S3,fun b u _ z=>S3 b u z,rfl⟩
  ·intro i v σ H4 hi h
   rw[hP] at h
   obtain⟨x1,y1,z1,F4,f4,m4,v4,fr4,rfl⟩:=h
   obtain⟨x,t,hx,rfl,hT⟩:=yt v4 hi
   obtain⟨o1,o2,o3⟩:=ok x (List.mem_iff_getElem?.mpr ⟨_,hx⟩)
   have et:MV.take (i+1)=MV.take i++[x]:=by
    rw[List.take_add_one,hx]
    rfl
   have R4:Rows n m (tF a Fl (MV.take i)):=Rows.led _ rows fun y hy=>(ok y (List.mem_of_mem_take hy)).1
   trivial
   refine⟨_,hT,rfl,_,_,rfl,_,_,rfl,_,_,rfl,rfl,?_⟩
   cases hb:x.2.1 with
   | none =>
    rw[if_pos (show vh none=V.non from rfl)]
    obtain⟨r,row,b1,b2,b3,b4,b5,b6,b7⟩:=Ad F4 R4 o1 o2 a
    refine⟨rs.map V.ref,(x.1:Int),rfl,SqL.of F4.top,_,nM b2,r,rfl,row.map V.int,x.2.2,rfl,SqL.of b3,_,b5,_,rfl,r,rfl,row.map V.int,(x.2.2:Int),rfl,b3,x.2.2,b6,?_⟩
    rw[hP]
    refine⟨_,_,_,?_,by rw[fj (uy frs b1)]; exact f4,by rw[fj (uy mors b1)]; exact m4,MvAt.upd b3 (fun ys z=>by cases z) (fun _ _ z=>by cases z) v4,fun b u hb' hu=>by rw[fj (uy hb' b1)]; exact fr4 b u hb' hu,rfl⟩
    rw[et,zm]
    unfold ug
    rw[hb]
    exact b7
   | some b =>
    rw[if_neg (fun z=>by cases z)]
    obtain⟨r,row,b1,b2,b3,b4,b5,b6,b7⟩:=Ad F4 R4 o1 (o3 b hb) (-a)
    rw[← Int.sub_eq_add_neg] at b7
    obtain⟨H5,g5⟩:∃ H5,H5=upd H4 r (.lst ((row.map V.int).set b (.int (row.getD b 0-a)))):=⟨_,rfl⟩
    have v5:MvAt K H5 us MV:=by rw[g5]; exact MvAt.upd b3 (fun ys z=>by cases z) (fun _ _ z=>by cases z) v4
    have f5:H5 fa=some (.lst (lf.map V.int)):=by rw[g5,fj (uy frs b1)]; exact f4
    have m5:H5 mo=some (.lst us):=by rw[g5,fj (uy mors b1)]; exact m4
    have fr5:∀ b u,b ∉ rs→H b=some u→H5 b=some u:=fun b u hb' hu=>by rw[g5,fj (uy hb' b1)]; exact fr4 b u hb' hu
    rw[← g5] at b7
    obtain⟨r',row',c1,c2,c3,c4,c5,c6,c7⟩:=Ad b7 (R4.add o1) o1 o2 a
    refine⟨rs.map V.ref,(x.1:Int),rfl,SqL.of F4.top,_,nM b2,r,rfl,row.map V.int,b,rfl,SqL.of b3,_,b5,_,rfl,r,rfl,row.map V.int,(b:Int),rfl,b3,b,b6,?_⟩
    rw[← g5]
    refine⟨rs.map V.ref,(x.1:Int),rfl,SqL.of b7.top,_,nM c2,r',rfl,row'.map V.int,x.2.2,rfl,SqL.of c3,_,c5,_,rfl,r',rfl,row'.map V.int,(x.2.2:Int),rfl,c3,x.2.2,c6,?_⟩
    rw[hP]
    refine⟨_,_,_,?_,by rw[fj (uy frs c1)]; exact f5,by rw[fj (uy mors c1)]; exact m5,MvAt.upd c3 (fun ys z=>by cases z) (fun _ _ z=>by cases z) v5,fun b u hb' hu=>by rw[fj (uy hb' c1)]; exact fr5 b u hb' hu,rfl⟩
    rw[et,zm]
    unfold ug
    rw[hb]
    exact c7
  ·intro σ H4 h
   rw[hP] at h
   obtain⟨x1,y1,z1,F4,f4,m4,v4,fr4,rfl⟩:=h
   rw[hmv.len,List.take_length] at F4
   trivial
   refine⟨lf.map V.int,x0.2.2,rfl,SqL.of f4,.int (lf.getD x0.2.2 0),?_,_,rfl,_,f4,x0.2.2,vR (by rw[List.length_map]; omega),?_⟩
   ·rw[List.getElem?_map,List.getElem?_eq_getElem (show x0.2.2<lf.length by omega),My.getD_at (show x0.2.2<lf.length by omega)]
    rfl
   ·refine q a _ ha hle (fun b u hb1 hb2 hu=>by rw[fj hb2]; exact fr4 b u hb1 hu) ⟨by rw[fj (Ne.symm fg)]; exact F4.top,F4.len,fun e r fl h1 h2=>?_,F4.nd,F4.ne⟩ (by rw[er,List.map_set])
    rw[fj (Ne.symm (uy frs (List.mem_iff_getElem?.mpr ⟨_,h1⟩)))]
    exact F4.row e r fl h1 h2
end
end MyD
namespace MyE
open My MyB MyC MyD PySem L2
theorem sum_set:∀ (l:List Int) (i:Nat) (x:Int),i<l.length→(l.set i x).sum=l.sum+x-l.getD i 0
 | [],i,x,h=>absurd h (Nat.not_lt_zero _)
 | y::l,0,x,_=>by
  rw[List.set_cons_zero,List.sum_cons,List.sum_cons]
  show x+l.sum=y+l.sum+x-y
  omega
 | y::l,i+1,x,h=>by
  rw[List.set_cons_succ,List.sum_cons,List.sum_cons,sum_set l i x (by simpa using h)]
  show y+(l.sum+x-l.getD i 0)=y+l.sum+x-l.getD i 0
  omega
def colS (F:List (List Int)) (j:Nat):Int:=(F.map fun r=>r.getD j 0).sum
def m9 (F:List (List Int)) (e:Nat):Int:=(F.getD e []).sum
theorem uE {α:Type} {l:List α} {i j:Nat} {x d:α} (h:i<l.length):(l.set i x).getD j d=if i=j then x else l.getD j d:=by
 unfold List.getD
 by_cases e:i=j
 ·subst e
  rw[List.getElem?_set_self h,if_pos rfl]
  rfl
 ·rw[List.getElem?_set_ne e,if_neg e]
section
variable {n m e j:Nat} {a:Int} {F:List (List Int)}
theorem xA (h:Rows n m F) (he:e<n):(F.getD e []).length=m:=by
 have he':e<F.length:=by rw[h.1]; exact he
 rw[show F.getD e []=F[e] by simp [List.getD,he']]
 exact h.2 _ (List.getElem_mem he')
theorem wK (h:Rows n m F) (he:e<n) (hj:j<m) (e' j':Nat):fl (sd F e j a) e' j'=fl F e' j'+(if e=e'∧j=j' then a else 0):=by
 have he':e<F.length:=by rw[h.1]; exact he
 have hl:=xA h he
 unfold fl sd
 rw[uE he']
 by_cases e1:e=e'
 ·subst e1
  rw[if_pos rfl,uE (by omega)]
  by_cases e2:j=j'
  ·subst e2
   rw[if_pos rfl,if_pos ⟨rfl,rfl⟩]
  ·rw[if_neg e2,if_neg fun z=>e2 z.2]
   omega
 ·rw[if_neg e1,if_neg fun z=>e1 z.1]
  omega
theorem yQ (h:Rows n m F) (he:e<n) (hj:j<m) (j':Nat):colS (sd F e j a) j'=colS F j'+(if j=j' then a else 0):=by
 have he':e<F.length:=by rw[h.1]; exact he
 have hl:=xA h he
 unfold colS sd
 rw[List.map_set,sum_set _ _ _ (by rw[List.length_map]; exact he')]
 have e1:(F.map fun r=>r.getD j' 0).getD e 0=(F.getD e []).getD j' 0:=by
  simp [List.getD,he']
 rw[e1,uE (by omega)]
 by_cases e2:j=j'
 ·subst e2
  rw[if_pos rfl,if_pos rfl]
  omega
 ·rw[if_neg e2,if_neg e2]
  omega
theorem y9 (h:Rows n m F) (he:e<n) (hj:j<m) (e':Nat):m9 (sd F e j a) e'=m9 F e'+(if e=e' then a else 0):=by
 have he':e<F.length:=by rw[h.1]; exact he
 have hl:=xA h he
 unfold m9 sd
 rw[uE he']
 by_cases e1:e=e'
 ·subst e1
  rw[if_pos rfl,if_pos rfl,sum_set _ _ _ (by omega)]
  omega
 ·rw[if_neg e1,if_neg e1]
  omega
end
inductive Chn (e0:Nat):Nat→List Mv→Prop
 | last (c:Nat):Chn e0 c [(e0,none,c)]
 | cons {b e c:Nat} {r:List Mv}:Chn e0 b r→Chn e0 c ((e,some b,c)::r)
theorem Dg {L:List En} {F:List (List Int)} {e0 p:Nat} {MV:List Mv} (h:Pre L F e0 p MV none):∀ (k i:Nat) (x:Mv),MV.length-i=k→MV[i]?=some x→Chn e0 x.2.2 (MV.drop i)
 | 0,i,x,hk,hx=>by
  have:=(List.getElem?_eq_some_iff.mp hx).1
  omega
 | k+1,i,x,hk,hx=>by
  have li:=(List.getElem?_eq_some_iff.mp hx).1
  have ed:MV.drop i=x::MV.drop (i+1):=by
   rw[List.drop_eq_getElem_cons li]
   congr 1
   exact (List.getElem?_eq_some_iff.mp hx).2
  rw[ed]
  obtain⟨xe,xb,xc⟩:=x
  rcases h.ok i _ hx with ⟨h1,h2,_,h3,_⟩ | ⟨b,h1,_,⟨_,h2⟩ | ⟨y,h2,h3⟩⟩
  ·replace h1:xb=none:=h1
   replace h3:xe=e0:=h3
   subst h1 h3
   rw[List.drop_of_length_le (by omega)]
   exact .last _
  ·cases h2
  ·replace h1:xb=some b:=h1
   subst h1
   have:=Dg h k (i+1) y (by omega) h2
   rw[h3] at this
   exact .cons this
theorem Chn.head {e0 c:Nat} {r:List Mv} (h:Chn e0 c r):c∈r.map (·.2.2):=by
 cases h with
 | last=>exact List.mem_singleton.mpr rfl
 | cons _=>exact List.mem_cons_self
theorem AZ {e0 c:Nat} {r:List Mv} (h:Chn e0 c r):∀ x∈r,∀ b,x.2.1=some b→∃ y∈r.tail,y.2.2=b:=by
 induction h with
 | last c =>
  intro x hx b hb
  rw[List.mem_singleton.mp hx] at hb
  cases hb
 | @cons b e c r hr ih =>
  intro x hx b2 hb2
  rcases List.mem_cons.mp hx with rfl | hx
  ·cases hb2
   obtain⟨y,hy,ey⟩:=List.mem_map.mp hr.head
   exact⟨y,hy,ey⟩
  ·obtain⟨y,hy,ey⟩:=ih x hx b2 hb2
   exact⟨y,List.mem_of_mem_tail hy,ey⟩
theorem AK {e0 c:Nat} {r:List Mv} (h:Chn e0 c r) (nd:(r.map (·.2.2)).Nodup):∀ x∈r,x.2.1≠some c:=fun x hx hb=>by
 obtain⟨y,hy,ey⟩:=AZ h x hx c hb
 cases h with
 | last=>cases hy
 | cons hr =>
  rw[List.map_cons,List.nodup_cons] at nd
  exact nd.1 (List.mem_map.mpr ⟨y,hy,ey⟩)
section
variable {n m e0:Nat} {a:Int}
theorem GD {c:Nat} {MV:List Mv} (h:Chn e0 c MV) (j:Nat):∀ {F:List (List Int)},Rows n m F→wA n m MV→colS (tF a F MV) j=colS F j+(if c=j then a else 0):=by
 induction h with
 | last c =>
  intro F R ok
  obtain⟨o1,o2,_⟩:=ok _ List.mem_cons_self
  exact yQ R o1 o2 j
 | @cons b e c r _ ih =>
  intro F R ok
  obtain⟨o1,o2,o3⟩:=ok _ List.mem_cons_self
  have R1:=R.add (j:=b) (a:=-a) o1
  have:=ih (F:=ug a F (e,some b,c)) (R.step o1) fun x hx=>ok x (List.mem_cons_of_mem _ hx)
  show colS (tF a (ug a F (e,some b,c)) r) j=_
  rw[this]
  show colS (sd (sd F e b (-a)) e c a) j+_=_
  rw[yQ R1 o1 o2,yQ R o1 (o3 b rfl)]
  by_cases e1:b=j <;> by_cases e2:c=j <;> simp [e1,e2] <;> omega
theorem Gs {c:Nat} {MV:List Mv} (h:Chn e0 c MV) (e':Nat):∀ {F:List (List Int)},Rows n m F→wA n m MV→m9 (tF a F MV) e'=m9 F e'+(if e0=e' then a else 0):=by
 induction h with
 | last c =>
  intro F R ok
  obtain⟨o1,o2,_⟩:=ok _ List.mem_cons_self
  exact y9 R o1 o2 e'
 | @cons b e c r _ ih =>
  intro F R ok
  obtain⟨o1,o2,o3⟩:=ok _ List.mem_cons_self
  have R1:=R.add (j:=b) (a:=-a) o1
  have:=ih (F:=ug a F (e,some b,c)) (R.step o1) fun x hx=>ok x (List.mem_cons_of_mem _ hx)
  show m9 (tF a (ug a F (e,some b,c)) r) e'=_
  rw[this]
  show m9 (sd (sd F e b (-a)) e c a) e'+_=_
  rw[y9 R1 o1 o2,y9 R o1 (o3 b rfl)]
  by_cases e1:e=e' <;> simp [e1] <;> omega
theorem xu {F:List (List Int)} {b e c:Nat} (R:Rows n m F) (o1:e<n) (o2:c<m) (o3:b<m) (e' j:Nat):fl (ug a F (e,some b,c)) e' j=fl F e' j+(if e=e'∧b=j then -a else 0)+(if e=e'∧c=j then a else 0):=by
 show fl (sd (sd F e b (-a)) e c a) e' j=_
 rw[wK (R.add o1) o1 o2,wK R o1 o3]
theorem HZ {c:Nat} {MV:List Mv} (h:Chn e0 c MV) (j:Nat):∀ {F:List (List Int)},Rows n m F→wA n m MV→j ∉ MV.map (·.2.2)→∀ e',fl (tF a F MV) e' j=fl F e' j:=by
 induction h with
 | last c =>
  intro F R ok hj e'
  obtain⟨o1,o2,_⟩:=ok _ List.mem_cons_self
  have:c≠j:=fun z=>hj (by rw[z]; exact List.mem_cons_self)
  show fl (sd F e0 c a) e' j=_
  rw[wK R o1 o2,if_neg fun z=>this z.2]
  omega
 | @cons b e c r hr ih =>
  intro F R ok hj e'
  obtain⟨o1,o2,o3⟩:=ok _ List.mem_cons_self
  have hj2:j ∉ r.map (·.2.2):=fun z=>hj (List.mem_cons_of_mem _ z)
  have cj:c≠j:=fun z=>hj (by rw[z]; exact List.mem_cons_self)
  have bj:b≠j:=fun z=>hj2 (z ▸ hr.head)
  have:=ih (F:=ug a F (e,some b,c)) (R.step o1) (fun x hx=>ok x (List.mem_cons_of_mem _ hx)) hj2 e'
  show fl (tF a (ug a F (e,some b,c)) r) e' j=_
  rw[this,xu R o1 o2 (o3 b rfl),if_neg fun z=>bj z.2,if_neg fun z=>cj z.2]
  omega
theorem tZ {c:Nat} {MV:List Mv} (h:Chn e0 c MV) (a0:0≤a):∀ {F:List (List Int)},Rows n m F→wA n m MV→(MV.map (·.2.2)).Nodup→(∀ e j,0≤fl F e j)→(∀ x∈MV,∀ b,x.2.1=some b→a≤fl F x.1 b)→∀ e j,0≤fl (tF a F MV) e j:=by
 induction h with
 | last c =>
  intro F R ok nd nn th e' j
  obtain⟨o1,o2,_⟩:=ok _ List.mem_cons_self
  show 0≤fl (sd F e0 c a) e' j
  rw[wK R o1 o2]
  have:=nn e' j
  split <;> omega
 | @cons b e c r hr ih =>
  intro F R ok nd nn th e' j
  obtain⟨o1,o2,o3⟩:=ok _ List.mem_cons_self
  have lb:=o3 b rfl
  rw[List.map_cons,List.nodup_cons] at nd
  have tb:=th _ List.mem_cons_self b rfl
  refine ih (F:=ug a F (e,some b,c)) (R.step o1) (fun x hx=>ok x (List.mem_cons_of_mem _ hx)) nd.2 (fun e2 j2=>?_) (fun x hx b2 hb2=>?_) e' j
  ·rw[xu R o1 o2 lb]
   have h1:=nn e2 j2
   by_cases z:e=e2∧b=j2
   ·obtain⟨rfl,rfl⟩:=z
    rw[if_pos ⟨rfl,rfl⟩]
    replace tb:a≤fl F e b:=tb
    split <;> omega
   ·rw[if_neg z]
    split <;> omega
  ·have h1:=th x (List.mem_cons_of_mem _ hx) b2 hb2
   rw[xu R o1 o2 lb]
   have nb:b≠b2:=fun z=>by
    subst z
    exact AK hr nd.2 x hx hb2
   rw[if_neg fun z=>nb z.2]
   split <;> omega
theorem HD {L:List En} {c:Nat} {MV:List Mv} (h:Chn e0 c MV) (a0:0≤a):∀ {F:List (List Int)},Rows n m F→wA n m MV→(∀ e j,0<fl F e j→j∈pl L e)→(∀ x∈MV,x.2.2∈pl L x.1)→∀ e j,0<fl (tF a F MV) e j→j∈pl L e:=by
 induction h with
 | last c =>
  intro F R ok su th e' j hp
  obtain⟨o1,o2,_⟩:=ok _ List.mem_cons_self
  replace hp:0<fl (sd F e0 c a) e' j:=hp
  rw[wK R o1 o2] at hp
  by_cases z:e0=e'∧c=j
  ·obtain⟨rfl,rfl⟩:=z
   exact th _ List.mem_cons_self
  ·rw[if_neg z] at hp
   exact su e' j (by omega)
 | @cons b e c r hr ih =>
  intro F R ok su th e' j hp
  obtain⟨o1,o2,o3⟩:=ok _ List.mem_cons_self
  refine ih (F:=ug a F (e,some b,c)) (R.step o1) (fun x hx=>ok x (List.mem_cons_of_mem _ hx)) (fun e2 j2 h2=>?_) (fun x hx=>th x (List.mem_cons_of_mem _ hx)) e' j hp
  rw[xu R o1 o2 (o3 b rfl)] at h2
  by_cases z:e=e2∧c=j2
  ·obtain⟨rfl,rfl⟩:=z
   exact th _ List.mem_cons_self
  ·rw[if_neg z] at h2
   refine su e2 j2 ?_
   split at h2 <;> omega
end
end MyE
namespace MyF
open My MyB MyC MyD MyE PySem L2
def top (i:Nat):Stmt:=PySem.Challenge.pw_tariffgate_k67_whole_no_other.main.body.getD i (.Pass ⟨0,0,0,0⟩)
theorem rD:(("ends":Str) == ("__debug__":Str))=false:=by decide
theorem rE:(("ends":Str) == ("__classdict__":Str))=false:=by decide
theorem nB:(("reached_by":Str) == ("__debug__":Str))=false:=by decide
theorem tG:(("lead":Str) == ("__debug__":Str))=false:=by decide
theorem sr:(("sorted":Str) == ("__debug__":Str))=false:=by decide
theorem sv:("sorted":Str)≠"__name__":=by decide
theorem qK:(("moves_to":Str) == ("__debug__":Str))=false:=by decide
abbrev aW:Stmt:=top 19
theorem gE:FnScope ["line","flows","left","entry","wanted","reached","ends"] ["line","flows","left","entry"] (defScope aW):=⟨rfl,rfl,rfl,by decide +kernel,rfl,by decide +kernel,by decide +kernel⟩
theorem nh:Vis (defScope aW) "line":=by decreasing_trivial
theorem nq:Vis (defScope aW) "flows":=by decreasing_trivial
theorem sw:Vis (defScope aW) "left":=by decreasing_trivial
theorem nr:Vis (defScope aW) "entry":=by decreasing_trivial
theorem nu:Vis (defScope aW) "wanted":=by decreasing_trivial
theorem nv:Loc (defScope aW) "wanted":=by first | exact Or.inl rfl | exact Or.inr rfl
theorem jD:Vis (defScope aW) "reached":=by decreasing_trivial
theorem sy:Loc (defScope aW) "reached":=by first | exact Or.inl rfl | exact Or.inr rfl
theorem ny:Vis (defScope aW) "ends":=by decreasing_trivial
theorem sA:Loc (defScope aW) "ends":=by first | exact Or.inl rfl | exact Or.inr rfl
theorem jE:(defScope aW).names.lookup ("reached_by":Str)=some .globalImplicit:=by rfl
theorem qL:(defScope aW).names.lookup ("len":Str)=some .globalImplicit:=by rfl
theorem mD:(defScope aW).names.lookup ("sorted":Str)=some .globalImplicit:=by rfl
theorem pq:(defScope aW).names.lookup ("lead":Str)=some .globalImplicit:=by rfl
theorem kM:(defScope aW).names.lookup ("moves_to":Str)=some .globalImplicit:=by rfl
structure Flo (L:List En) (n m:Nat) (rooms:List Int) (F:List (List Int)) (lf:List Int):Prop where
 rows:Rows n m F
 nn:∀ e j,0≤fl F e j
 su:∀ e j,0<fl F e j→j∈pl L e
 ln:lf.length=m
 l0:∀ j,0≤lf.getD j 0
 col:∀ j,j<m→colS F j+lf.getD j 0=rooms.getD j 0
def uW (L:List En) (F:List (List Int)) (lf:List Int) (S:Nat→Prop):Prop:=(∀ j,S j→lf.getD j 0=0)∧∀ j,S j→∀ e o,Led L F j e o→S o
theorem FW {L:List En} {n m e0 p:Nat} {rooms lf:List Int} {F:List (List Int)} {MV:List Mv} {a:Int} (h:Flo L n m rooms F lf) (pre:Pre L F e0 p MV none) (ok:wA n m MV) (a0:0≤a) (al:a≤lf.getD p 0) (pm:p<m) (th:∀ z∈se F MV,a≤z) :
  Flo L n m rooms (tF a F MV) (lf.set p (lf.getD p 0-a))∧(∀ e,m9 (tF a F MV) e=m9 F e+(if e0=e then a else 0))∧((0<lf.getD p 0)→∀ S,uW L F lf S→uW L (tF a F MV) (lf.set p (lf.getD p 0-a)) S):=by
 obtain⟨x0,hx0,ex0⟩:∃ x,MV[0]?=some x∧x.2.2=p:=by
  rcases pre.hd with ⟨_,z⟩ | z
  ·cases z
  ·exact z
 have chn:Chn e0 p MV:=by
  have:=Dg pre _ 0 x0 rfl hx0
  rw[ex0] at this
  exact this
 have lp:p<lf.length:=by rw[h.ln]; exact pm
 have th2:∀ x∈MV,∀ b,x.2.1=some b→a≤fl F x.1 b:=fun x hx b hb=>th _ (List.mem_filterMap.mpr ⟨x,hx,by rw[hb]; rfl⟩)
 have inp:∀ x∈MV,x.2.2∈pl L x.1:=fun x hx=>by
  obtain⟨i,hi⟩:=List.mem_iff_getElem?.mp hx
  rcases pre.ok i x hi with ⟨_,_,_,h1,h2⟩ | ⟨b,_,h1,_⟩
  ·rw[h1]; exact h2
  ·exact h1.2.2
 have R':=Rows.led (a:=a) MV h.rows fun x hx=>(ok x hx).1
 refine⟨⟨R',tZ chn a0 h.rows ok pre.nd h.nn th2,HD chn a0 h.rows ok h.su inp,by rw[List.length_set]; exact h.ln,fun j=>?_,fun j hj=>?_⟩,fun e=>Gs chn e h.rows ok,fun lpos S sh=>?_⟩
 ·rw[uE lp]
  split
  ·omega
  ·exact h.l0 j
 ·rw[GD chn j h.rows ok,uE lp]
  have:=h.col j hj
  by_cases z:p=j
  ·subst z
   rw[if_pos rfl,if_pos rfl]
   omega
  ·rw[if_neg z,if_neg z]
   omega
 ·have pS:¬ S p:=fun z=>by
   have:=sh.1 p z
   omega
  have out:∀ (k i:Nat) (x:Mv),i=k→MV[i]?=some x→¬ S x.2.2:=by
   intro k
   induction k with
   | zero =>
    intro i x hi hx
    subst hi
    rw[hx0] at hx
    cases hx
    rw[ex0]
    exact pS
   | succ k ih =>
    intro i x hi hx
    have li:=(List.getElem?_eq_some_iff.mp hx).1
    obtain⟨y,hy⟩:∃ y,MV[k]?=some y:=⟨_,List.getElem?_eq_getElem (by omega)⟩
    have hyS:=ih k y rfl hy
    rcases pre.ok k y hy with ⟨_,h2,_⟩ | ⟨b,_,h1,⟨_,h2⟩ | ⟨x',h2,h3⟩⟩
    ·omega
    ·cases h2
    ·rw[← hi,hx] at h2
     cases h2
     rw[h3]
     exact fun z=>hyS (sh.2 b z _ _ h1)
  have far:∀ j,S j→∀ e,fl (tF a F MV) e j=fl F e j:=fun j hj=>HZ chn j h.rows ok fun z=>by
   obtain⟨x,hx,ex⟩:=List.mem_map.mp z
   obtain⟨i,hi⟩:=List.mem_iff_getElem?.mp hx
   exact out i i x rfl hi (by rw[ex]; exact hj)
  refine⟨fun j hj=>?_,fun j hj e o hl=>?_⟩
  ·rw[uE lp,if_neg (fun z=>pS (by rw[z]; exact hj))]
   exact sh.1 j hj
  ·obtain⟨h1,h2,h3⟩:=hl
   rw[far j hj] at h2
   exact sh.2 j hj e o ⟨by rw[R'.1] at h1; rw[h.rows.1]; exact h1,h2,h3⟩
theorem zb {K:PySem.W.Frag} {H H':Hp} {D p:Addr} {o:HO} {xs:List V} (hD:H D=some o) (n1:∀ ys,o≠.tup ys) (n2:∀ ob ys,o≠.frz ob (.tup ys)) (e:∀ b,b≠D→H' b=H b) (h:SqT K H p xs):SqT K H' p xs:=by
 rcases h with (h | ⟨ob,h⟩) | h
 ·exact .inl (.inl (by rw[e p (fun z=>by rw[z,hD] at h; cases h; exact n1 _ rfl)]; exact h))
 ·exact .inl (.inr ⟨ob,by rw[e p (fun z=>by rw[z,hD] at h; cases h; exact n2 _ _ rfl)]; exact h⟩)
 ·exact .inr h
theorem Dw {K:PySem.W.Frag} {H H':Hp} {D:Addr} {o:HO} (hD:H D=some o) (n1:∀ ys,o≠.tup ys) (n2:∀ ob ys,o≠.frz ob (.tup ys)) (e:∀ b,b≠D→H' b=H b):∀ {kvs:List (Key×V)} {R:List Rc},RcAt K H kvs R→RcAt K H' kvs R
 | _,_,.nil=>.nil
 | _,_,.cons ⟨a,t,b,c⟩ r=>.cons ⟨a,t,b,zb hD n1 n2 e c⟩ (Dw hD n1 n2 e r)
theorem Iu {L:List En} {F:List (List Int)} {e0 p m:Nat} {MV:List Mv} (pre:Pre L F e0 p MV none) (hn:F.length=e0+1) (lt:∀ x∈MV,x.2.2<m):wA (e0+1) m MV:=fun x hx=>by
 obtain⟨i,hi⟩:=List.mem_iff_getElem?.mp hx
 rcases pre.ok i x hi with ⟨h1,_,_,h2,_⟩ | ⟨b,h1,h2,⟨_,h3⟩ | ⟨y,h3,h4⟩⟩
 ·exact⟨by omega,lt x hx,fun b hb=>by rw[h1] at hb; cases hb⟩
 ·cases h3
 ·refine⟨by have:=h2.1; omega,lt x hx,fun b' hb=>?_⟩
  rw[h1] at hb
  cases hb
  rw[← h4]
  exact lt y (List.mem_iff_getElem?.mpr ⟨_,h3⟩)
theorem Ef {L:List En} {F:List (List Int)} {e0 p:Nat} {MV:List Mv} (pre:Pre L F e0 p MV none):∀ z∈se F MV,0<z:=fun z hz=>by
 obtain⟨x,hx,e⟩:=List.mem_filterMap.mp hz
 obtain⟨i,hi⟩:=List.mem_iff_getElem?.mp hx
 rcases pre.ok i x hi with ⟨h1,_⟩ | ⟨b,h1,h2,_⟩
 ·rw[h1] at e
  cases e
 ·rw[h1] at e
  cases e
  exact h2.2.1
def yR (K:PySem.W.Frag):Sp:=fun vs H Q _=>∃ (l g fa:Addr) (e0 m:Nat) (L:List En) (rs:List Addr) (F:List (List Int)) (lf rooms:List Int) (en:En) (H0:Hp),vs=[.ref l,.ref g,.ref fa,.int e0]∧LnAt K H0 l L∧Same H0 H∧H0 fa=none∧(∀ r∈rs,H0 r=none)∧FlAt H g rs F∧Siz m L F∧Flo L (e0+1) m rooms F lf∧H fa=some (.lst (lf.map V.int))∧fa ∉ rs∧fa≠g∧L[e0]?=some en∧0≤en.2∧m9 F e0=0 ∧
 ∀ (F':List (List Int)) (lf':List Int) (H':Hp),Same H0 H'→(∀ b u,b ∉ rs→b≠fa→H b=some u→H' b=some u)→FlAt H' g rs F'→H' fa=some (.lst (lf'.map V.int))→Flo L (e0+1) m rooms F' lf'→(∀ e,e≠e0→m9 F' e=m9 F e)→(∀ S,uW L F lf S→uW L F' lf' S) →
  (m9 F' e0=en.2→Q .non H')∧∀ (c:Addr) (ns:List Int),H c=none→H' c=some (.lst (ns.map V.int))→m9 F' e0<en.2→ns.Pairwise (· < ·)→(∀ x∈ns,∃ j:Nat,x=(j:Int)∧j<m)→uW L F' lf' (fun j=>(j:Int)∈ns)→(∀ j∈pl L e0,(j:Int)∈ns)→Q (.ref c) H'
section
variable {P:Program} {w:World} {K:PySem.W.Frag} {mg:Str→Option Value} {base:Heap} {f:Addr} {fd:FuncData}
theorem Ei (F:Fun K "serve" "serve" aW f fd) (M:Mg mg) (gF:Cal P w K mg base CX0 "reached_by" 2 ["line","flows","entry"] (Cc K)) (i5:Cal P w K mg base CX0 "moves_to" 1 ["reached","place"] (yL K)) (pz:Cal P w K mg base CX0 "lead" 1 ["flows","left","wanted","moves"] (z5 K)):FnOk P w K mg base CX0 3 f fd ["line","flows","left","entry"] (yR K):=by
 refine F.ok gE (fun vs H Q E h=>?_) (fun cdv A outer s H vs Q E hr h=>?_)
 ·obtain⟨l,g,fa,e0,m,L,rs,F',lf,rooms,en,H0,rfl,_⟩:=h
  rfl
 obtain⟨l,g,fa,e0,m,L,rs,Fl,lf,rooms,en,H0,rfl,hL0,S0,hfa0,hrs0,hF,sz,flo,hf,frs,fg,hen,w0,row0,q⟩:=h
 refine⟨_,(@ff _ _ _ _ _ (@gI _ _ 4 _ _ _ _ gE.nd rfl nv (@gf _ _ _ _ _ _ _ (@jl _) (@gf _ _ _ _ _ _ _ (@gK _) (@cg _ 0 _ _ rfl nh bC bE) (@cg _ 3 _ _ rfl nr aZ ba) (fun _ _=>rfl)) (@dR _ _ _ _) (fun _ _=>rfl)) (gG rfl) (.inl rfl)) (@ff _ _ _ _ _ (@yd _ _ _ _ _ _ PassesOwn.never (@jj _ _ _ _ _ _ _ _ (@u0 _) (@cg _ 4 _ _ rfl nu hU hV) (@dR _ _ _ _) (iG _)) (@ff _ _ _ _ _ (@gI _ _ 5 _ _ _ _ gE.nd rfl sy (@gv _ _ _ _ _ _ _ _ _ _ _ gF hr jE (@cT _ _ _ _ _ (@cg _ 0 _ _ rfl nh bC bE) (@cT _ _ _ _ _ (@cg _ 1 _ _ rfl nq bM bN) (@cT _ _ _ _ _ (@cg _ 3 _ _ rfl nr aZ ba) (@dB _) (di rfl)) (di rfl)) (di rfl)) (by decide) nB (di rfl) (gw rfl (gw rfl fD))) (gG rfl) (.inl rfl)) (@ff _ _ _ _ _ (@uu _ _ _ _ _ _ _ _ _ _ _ _ _ _ _ 6 _ _ _ gE.nd rfl sA rfl (CompOk.make (N':=["left","place"]) (ix:=[2]) (nl:=1) (by rfl) (fm1 rfl fm0) (by rfl) (by decide +kernel) rfl (by decide +kernel) rfl (And.intro ⟨rfl,.inl rfl,.inl rfl⟩ True.intro)) (@xO _ _ _ _ (@cg _ 5 _ _ rfl jD bU bV)) (fun _ _ _ _ _=>(@fT _ _ 1 _ (show List.Nodup (["left","place"]:List Str) from by decide) rfl (Or.inl rfl) (by first | exact .inl rfl | exact .inr rfl | assumption))) (fun _ _ _ _ _=>(@uZ _ _ _ (@jj _ _ _ _ _ _ _ _ (@u0 _) (@gf _ _ _ _ _ _ _ (@vZ _ K rfl) (@pv _ 0 _ _ (by rfl) (by decreasing_trivial) (by decide) (by decide)) (@pv _ 1 _ _ (by rfl) (by decreasing_trivial) (by decide) (by decide)) (fun _ _=>rfl)) (@dR _ _ _ _) (iG _)))) (fun _ _ _ _ _=>(@pv _ 1 _ _ (by rfl) (by decreasing_trivial) (by decide) (by decide))) (by rfl) (by intro _; rfl) (by first | exact .inl rfl | exact .inr rfl | assumption)) (@ff _ _ _ _ _ (@nS _ _ _ _ _ _ _ _ (@jj _ _ _ _ _ _ _ _ (@t9 _) (@fZ _ _ _ _ _ _ _ _ _ gJ qL M.m_len nj (@cT _ _ _ _ _ (@cg _ 6 _ _ rfl ny rD rE) (@dB _) (di rfl)) aF aE (di rfl) fD) (@dR _ _ _ _) (iG _)) (@fL _ _ _ (@ic _ _ _ _ (@fZ _ _ _ _ _ _ _ _ _ (zF rfl) mD M.m_sorted Ez (@cT _ _ _ _ _ (@cg _ 5 _ _ rfl jD bU bV) (@dB _) (di rfl)) sv sr (di rfl) fD))) (@kN _)) (@fL _ _ _ (@C6 _ _ 4 _ _ _ _ _ _ gE.nd rfl nv (@gv _ _ _ _ _ _ _ _ _ _ _ pz hr pq (@cT _ _ _ _ _ (@cg _ 1 _ _ rfl nq bM bN) (@cT _ _ _ _ _ (@cg _ 2 _ _ rfl sw gk gm) (@cT _ _ _ _ _ (@cg _ 4 _ _ rfl nu hU hV) (@cT _ _ _ _ _ (@gv _ _ _ _ _ _ _ _ _ _ _ i5 hr kM (@cT _ _ _ _ _ (@cg _ 5 _ _ rfl jD bU bV) (@cT _ _ _ _ _ (@gf _ _ _ _ _ _ _ (@gK _) (@cg _ 6 _ _ rfl ny rD rE) (@dR _ _ _ _) (fun _ _=>rfl)) (@dB _) (di rfl)) (di rfl)) (by decide) qK (di rfl) (gw rfl fD)) (@dB _) (di rfl)) (di rfl)) (di rfl)) (di rfl)) (by decide) tG (di rfl) (gw rfl (gw rfl (gw rfl fD)))) Ar (.inl rfl))))))) (@fL _ _ _ (@ic _ _ _ _ (@vQ _ _ _))))),?_⟩
 obtain⟨us,t,q',a1,a2,a3,a4⟩:=(hL0.same S0).get hen
 trivial
 refine⟨us,a1,_,nM a2,t,rfl,_,a3,_,rfl,?_⟩
 obtain⟨IV,hIV⟩:∃ IV:Nat→St→Hp→Prop,IV=fun N σ H'=>∃ (F':List (List Int)) (lf':List Int) (wn:Int) (x y:Option V),Same H0 H'∧(∀ b u,b ∉ rs→b≠fa→H b=some u→H' b=some u)∧FlAt H' g rs F'∧H' fa=some (.lst (lf'.map V.int))∧Flo L (e0+1) m rooms F' lf'∧(∀ e,e≠e0→m9 F' e=m9 Fl e)∧(∀ S,uW L Fl lf S→uW L F' lf' S)∧m9 F' e0+wn=en.2∧0≤wn∧N=wn.toNat∧σ=[some (.ref l),some (.ref g),some (.ref fa),some (.int (e0:Int)),some (.int wn),x,y]:=⟨_,rfl⟩
 refine⟨IV,⟨en.2.toNat,?_⟩,?_⟩
 ·rw[hIV]
  exact⟨Fl,lf,en.2,_,_,S0,fun b u _ _ z=>z,hF,hf,flo,fun _ _=>rfl,fun _ z=>z,by omega,w0,rfl,rfl⟩
 intro N σ H3 h3
 rw[hIV] at h3
 obtain⟨F3,lf3,wn,x,y,S3,fr3,hF3,hf3,flo3,row3,sh3,sum3,wn0,rfl,rfl⟩:=h3
 obtain⟨qa,qb⟩:=q F3 lf3 H3 S3 fr3 hF3 hf3 flo3 row3 sh3
 trivial
 by_cases hw:0<wn
 ·rw[if_pos hw]
  have sz3:Siz m L F3:=⟨by rw[flo3.rows.1,← flo.rows.1]; exact sz.fl,sz.l,flo3.rows.2,sz.pl,sz.nd,sz.m⟩
  have hL3:=hL0.same S3
  refine⟨fun σ' H'=>∃ m',m'<wn.toNat∧IV m' σ' H',fun _ _ h=>h,l,g,e0,m,L,rs,F3,rfl,hL3,hF3,sz3,(List.getElem?_eq_some_iff.mp hen).1,fun D kvs R H4 e4 hD d4 r4 rch lt4=>?_⟩
  refine⟨D,rfl,kvs,.inl d4,fun ob H5 h5 oth C hC=>?_⟩
  have s35:Same H3 H5:=fun b u hb=>by
   rw[oth b (lu hb hD)]
   exact e4 b u hb
  have r5:RcAt K H5 kvs R:=Dw d4 (fun ys z=>by cases z) (fun _ _ z=>by cases z) oth r4
  have lR:R.length≤60:=by
   have:=uP m _ rch.way.nd lt4
   rw[List.length_map] at this
   have:=sz.m
   omega
  obtain⟨Pc,hPc⟩:∃ Pc:Nat→St→Hp→Prop,Pc=fun i τ H6=>∃ (z:Option V),H6 C=some (.lst ((((R.map (·.1)).take i).filter fun j=>decide (0<lf3.getD j 0)).map fun j:Nat=>V.int (j:Int)))∧Same H5 H6∧τ=[some (.ref fa),z]:=⟨_,rfl⟩
  refine xM kvs Pc ?_ (fun i τ H6 _ h=>by rw[hPc] at h; obtain⟨_,_,e6,_⟩:=h; exact e6 _ _ h5) ?_ ?_
  ·rw[hPc]
   exact⟨_,by rw[er]; rfl,fS hC _,rfl⟩
  ·intro i k v τ H6 R' hk h next
   rw[hPc] at h
   obtain⟨z,d6,e6,rfl⟩:=h
   have hki:(kvs.map (·.1))[i]?=some k:=by rw[List.getElem?_map,hk]; rfl
   rw[r5.keys,List.getElem?_map] at hki
   obtain⟨xr,hxr,rfl⟩:=Option.map_eq_some_iff.mp hki
   have hp:(R.map (·.1))[i]?=some xr.1:=by rw[List.getElem?_map,hxr]; rfl
   have et:(R.map (·.1)).take (i+1)=(R.map (·.1)).take i++[xr.1]:=by
    rw[List.take_add_one,hp]
    rfl
   have lm:xr.1<m:=lt4 _ (List.mem_iff_getElem?.mpr ⟨_,hp⟩)
   have lfl:=flo3.ln
   have hat:atI (lf3.map V.int) (xr.1:Int)=some (.int (lf3.getD xr.1 0)):=ux (by omega) (by omega)
   have lf6:((((R.map (·.1)).take i).filter fun j=>decide (0<lf3.getD j 0)).map fun j:Nat=>V.int (j:Int)).length≤60:=by
    rw[List.length_map]
    refine Nat.le_trans (List.length_filter_le ..) ?_
    rw[List.length_take,List.length_map]
    omega
   show uo C (we 1) _ _ (V.int (xr.1:Int)) _ _ _
   trivial
   refine⟨_,SqL.of (e6 _ _ (s35 _ _ hf3)),_,hat,_,rfl,?_⟩
   by_cases hpos:0<lf3.getD xr.1 0
   ·rw[if_pos hpos]
    refine⟨_,d6,Nat.lt_of_lt_of_le (m:=1000) (by omega) (by decide),next _ _ ?_⟩
    rw[hPc]
    refine⟨_,?_,gu e6 hC _,rfl⟩
    rw[er,et,List.filter_append,List.filter_cons_of_pos (by rw[decide_eq_true hpos]),List.map_append]
    rfl
   ·rw[if_neg hpos]
    refine next _ _ ?_
    rw[hPc]
    refine⟨_,?_,e6,rfl⟩
    rw[et,List.filter_append,List.filter_cons_of_neg (by rw[decide_eq_false hpos]; decide),List.filter_nil,List.append_nil]
    exact d6
  ·intro τ H6 h
   rw[hPc] at h
   obtain⟨z,d6,e6,rfl⟩:=h
   rw[r5.len,← List.length_map (f:=fun x:Rc=>x.1),List.take_length] at d6
   have s36:=s35.trans e6
   have h6D:=e6 _ _ h5
   have r6:=RcAt.same e6 r5
   obtain⟨es,hes⟩:∃ es:List Nat,es=(R.map (·.1)).filter fun j=>decide (0<lf3.getD j 0):=⟨_,rfl⟩
   rw[← hes] at d6
   have noH:∀ c,H6 c=none→H c=none:=fun c hc=>by
    have h3c:=s36.free hc
    cases hcH:H c with
    | none=>rfl
    | some u =>
     by_cases c1:c∈rs
     ·obtain⟨i,hi⟩:=List.mem_iff_getElem?.mp c1
      obtain⟨row,hrow⟩:∃ row,F3[i]?=some row:=⟨_,List.getElem?_eq_getElem (by rw[← hF3.len]; exact (List.getElem?_eq_some_iff.mp hi).1)⟩
      rw[hF3.row i c row hi hrow] at h3c
      cases h3c
     ·by_cases c2:c=fa
      ·rw[c2,hf3] at h3c
       cases h3c
      ·rw[fr3 c u c1 c2 hcH] at h3c
       cases h3c
   refine⟨C,rfl,_,.inl (SqL.of d6),?_⟩
   cases es with
   | nil =>
    rw[if_pos (by simp)]
    refine⟨D,rfl,kvs,.inr ⟨ob,h6D⟩,R.map fun x=>(x.1:Int),by rw[r6.keys,List.map_map]; rfl,by rw[List.length_map]; omega,fun c ns' hc hp hs=>?_⟩
    have inn:∀ j:Nat,(j:Int)∈ns'↔j∈R.map (·.1):=fun j=>by
     rw[hp.mem_iff]
     constructor
     ·intro z
      obtain⟨x,hx,e⟩:=List.mem_map.mp z
      exact List.mem_map.mpr ⟨x,hx,by omega⟩
     ·intro z
      obtain⟨x,hx,e⟩:=List.mem_map.mp z
      exact List.mem_map.mpr ⟨x,hx,by rw[e]⟩
    have nd9:ns'.Nodup:=by
     refine hp.nodup_iff.mpr ?_
     have e9:(R.map fun x=>(x.1:Int))=(R.map (·.1)).map fun j:Nat=>(j:Int):=by rw[List.map_map]; rfl
     rw[e9]
     exact List.pairwise_map.mpr (rch.way.nd.imp fun a b=>a (by omega))
    have hs9:ns'.Pairwise (· < ·):=(hs.and nd9).imp fun ab=>by have:=ab.1; have:=ab.2; omega
    have rg9:∀ x∈ns',∃ j:Nat,x=(j:Int)∧j<m:=fun x hx=>by
     obtain⟨y,hy,ey⟩:=List.mem_map.mp (hp.mem_iff.mp hx)
     exact⟨y.1,ey.symm,lt4 _ (List.mem_map.mpr ⟨y,hy,rfl⟩)⟩
    have s3c:=s36.trans (fS hc (.lst (ns'.map V.int)))
    refine (q F3 lf3 _ (S3.trans s3c) (fun b u b1 b2 z=>s3c _ _ (fr3 b u b1 b2 z)) (hF3.same s3c) (s3c _ _ hf3) flo3 row3 sh3).2 c ns' (noH c hc) er (by omega) hs9 rg9 ⟨fun j hj=>?_,fun j hj e o hl=>(inn o).mpr (rch.shut j ((inn j).mp hj) e o hl)⟩ fun j hj=>(inn j).mpr (rch.base j hj)
    have jR:=(inn j).mp hj
    have nn:=flo3.l0 j
    by_cases z:0<lf3.getD j 0
    ·have:j∈([]:List Nat):=by
      rw[hes]
      exact List.mem_filter.mpr ⟨jR,decide_eq_true z⟩
     cases this
    ·omega
   | cons p es =>
    rw[if_neg (by simp; omega)]
    have pf:p∈(R.map (·.1)).filter fun j=>decide (0<lf3.getD j 0):=by rw[← hes]; exact List.mem_cons_self
    obtain⟨pR,pp⟩:=List.mem_filter.mp pf
    have ppos:0<lf3.getD p 0:=of_decide_eq_true pp
    have at0:atI ((p::es).map fun j:Nat=>V.int (j:Int)) 0=some (V.int (p:Int)):=nM (j:=0) rfl
    refine⟨C,rfl,_,SqL.of d6,_,at0,D,p,e0,m,L,F3,kvs,R,rfl,.inr ⟨ob,h6D⟩,r6,rch.way,pR,by omega,fun lm vs MV H7 e7 hlm d7 mv7 pre7 in7=>?_⟩
    have s37:=s36.trans e7
    obtain⟨x0,hx0,ex0⟩:∃ x,MV[0]?=some x∧x.2.2=p:=by
     rcases pre7.hd with ⟨_,z⟩ | z
     ·cases z
     ·exact z
    have ltm:∀ x∈MV,x.2.2<m:=fun x hx=>lt4 _ (in7 x hx)
    have ok7:=Iu pre7 flo3.rows.1 ltm
    have lMV:MV.length≤64:=by
     have:=uP m _ pre7.nd fun c hc=>by
      obtain⟨x,hx,e⟩:=List.mem_map.mp hc
      rw[← e]
      exact ltm x hx
     rw[List.length_map] at this
     have:=sz.m
     omega
    have lmrs:lm ∉ rs:=fun c1=>by
     obtain⟨i,hi⟩:=List.mem_iff_getElem?.mp c1
     obtain⟨row,hrow⟩:∃ row,F3[i]?=some row:=⟨_,List.getElem?_eq_getElem (by rw[← hF3.len]; exact (List.getElem?_eq_some_iff.mp hi).1)⟩
     rw[s36 _ _ (hF3.row i lm row hi hrow)] at hlm
     cases hlm
    have lmfa:lm≠fa:=fun z=>by rw[z,s36 _ _ hf3] at hlm; cases hlm
    refine⟨g,fa,lm,wn,e0+1,m,rs,F3,lf3,vs,MV,x0,rfl,hF3.same s37,flo3.rows,s37 _ _ hf3,flo3.ln,frs,fg,d7,lmrs,lmfa,mv7,ok7,hx0,lMV,fun a H8 ha hle fr8 F8 f8=>?_⟩
    rw[ex0] at ha hle f8
    have apos:0<a:=by
     rcases List.mem_cons.mp ha with rfl | ha
     ·exact hw
     ·rcases List.mem_cons.mp ha with rfl | ha
      ·exact ppos
      ·exact Ef pre7 a ha
    have aw:a≤wn:=hle _ List.mem_cons_self
    obtain⟨L1,L2',L3⟩:=FW flo3 pre7 ok7 (by omega:0≤a) (hle _ (List.mem_cons_of_mem _ List.mem_cons_self)) (lt4 p pR) fun z hz=>hle z (List.mem_cons_of_mem _ (List.mem_cons_of_mem _ hz))
    refine⟨a,rfl,(wn-a).toNat,by omega,?_⟩
    rw[hIV]
    refine⟨tF a F3 MV,_,wn-a,_,_,fun b u hb=>fr8 b u (fun z=>by rw[hrs0 b z] at hb; cases hb) (fun z=>by rw[z,hfa0] at hb; cases hb) (s37 _ _ (S3 _ _ hb)),fun b u b1 b2 hb=>fr8 b u b1 b2 (s37 _ _ (fr3 b u b1 b2 hb)),F8,f8,L1,fun e he=>by rw[L2' e,if_neg (Ne.symm he),row3 e he]; omega,fun S hS=>L3 ppos S (sh3 S hS),by rw[L2' e0,if_pos rfl]; omega,by omega,rfl,rfl⟩
 ·rw[if_neg hw]
  exact qa (by omega)
end
end MyF
namespace MyG
open My MyB MyC MyD MyE MyF PySem L2
def top (i:Nat):Stmt:=PySem.Challenge.pw_tariffgate_k67_whole_no_other.main.body.getD i (.Pass ⟨0,0,0,0⟩)
abbrev cD:Stmt:=top 20
theorem qM:FnScope ["flow"] ["flow"] (defScope cD):=⟨rfl,rfl,rfl,by decide +kernel,rfl,by decide +kernel,by decide +kernel⟩
theorem jF:Vis (defScope cD) "flow":=by decreasing_trivial
theorem dS:(defScope cD).names.lookup ("enumerate":Str)=some .globalImplicit:=by rfl
theorem Cy {X:Cx} {K:PySem.W.Frag} (h:X.K=K) (hc:X.calm=true):qo X (.builtin "sum") (fun xs H Q=>∃ (p:Addr) (ns:List Int),xs=[.ref p]∧SqL K H p (ns.map V.int)∧Q (.int ns.sum) H):=by subst h; exact uJ hc
def rt (fw:List Int):List (Nat×Int):=((List.range fw.length).filter fun j=>decide (0<fw.getD j 0)).map fun j=>(j,fw.getD j 0)
def RtAt (K:PySem.W.Frag) (H:Hp) (us:List V) (xs:List (Nat×Int)):Prop:=Paired (fun (v:V) (x:Nat×Int)=>∃ t,v=V.ref t∧SqT K H t [.int (x.1:Int),.int x.2]) us xs
theorem RtAt.same {K:PySem.W.Frag} {H H':Hp} (e:Same H H'):∀ {us:List V} {xs:List (Nat×Int)},RtAt K H us xs→RtAt K H' us xs
 | _,_,.nil=>.nil
 | _,_,.cons ⟨t,a,b⟩ r=>.cons ⟨t,a,Same.tup e b⟩ (RtAt.same e r)
theorem RtAt.upd {K:PySem.W.Frag} {H:Hp} {D:Addr} {o o':HO} (hD:H D=some o) (n1:∀ ys,o≠.tup ys) (n2:∀ ob ys,o≠.frz ob (.tup ys)):∀ {us:List V} {xs:List (Nat×Int)},RtAt K H us xs→RtAt K (L2.upd H D o') us xs
 | _,_,.nil=>.nil
 | _,_,.cons ⟨t,a,b⟩ r=>.cons ⟨t,a,ur hD n1 n2 b⟩ (RtAt.upd hD n1 n2 r)
theorem RtAt.snoc {K:PySem.W.Frag} {H:Hp} {j:Nat} {x:Int} {t:Addr} (h:SqT K H t [.int (j:Int),.int x]):∀ {us:List V} {xs:List (Nat×Int)},RtAt K H us xs→RtAt K H (us++[.ref t]) (xs++[(j,x)])
 | _,_,.nil=>.cons ⟨t,rfl,h⟩ .nil
 | _,_,.cons a r=>.cons a (RtAt.snoc h r)
theorem RtAt.len {K:PySem.W.Frag} {H:Hp}:∀ {us:List V} {xs:List (Nat×Int)},RtAt K H us xs→us.length=xs.length
 | _,_,.nil=>rfl
 | _,_,.cons _ r=>by rw[List.length_cons,List.length_cons,RtAt.len r]
def yE (K:PySem.W.Frag):Sp:=fun vs H Q _=>∃ (r:Addr) (fw:List Int),vs=[.ref r]∧SqL K H r (fw.map V.int)∧fw.length≤64∧∀ (l:Addr) (us:List V) (H':Hp),Same H H'→H l=none→H' l=some (.lst us)→RtAt K H' us (rt fw)→Q (.ref l) H'
section
variable {P:Program} {w:World} {K:PySem.W.Frag} {mg:Str→Option Value} {base:Heap} {f:Addr} {fd:FuncData}
theorem Bs (F:Fun K "route_of" "route_of" cD f fd) (M:Mg mg):FnOk P w K mg base CX0 1 f fd ["flow"] (yE K):=by
 refine F.ok qM (fun vs H Q E h=>?_) (fun cdv A outer s H vs Q E hr h=>?_)
 ·obtain⟨r,fw,rfl,_⟩:=h
  rfl
 obtain⟨r,fw,rfl,hS,l64,q⟩:=h
 refine⟨_,(@fL _ _ _ (@ic _ _ _ _ (@lB _ _ _ _ _ _ _ _ _ _ _ _ _ _ _ rfl (CompOk.make (N':=["place","amount"]) (ix:=[]) (nl:=2) (by rfl) fm0 (by rfl) (by decide +kernel) rfl (by decide +kernel) rfl True.intro) (@CU _ _ _ _ _ (@wm _ _ _ _ _ _ _ _ dS M.m_enumerate (@cT _ _ _ _ _ (@cg _ 0 _ _ rfl jF iH iI) (@dB _) (di rfl)) (by rfl)) (@ya _ _ _ _ _ _ _ _ dS M.m_enumerate (@cT _ _ _ _ _ (@cg _ 0 _ _ rfl jF iH iI) (@dB _) (di rfl)) (by rfl))) (fun _ _ _ _ _=>(@uI _ K _ _ 2 _ _ rfl rfl (@ia _ _ _ _ _ (@fT _ _ 0 _ (show List.Nodup (["place","amount"]:List Str) from by decide) rfl (Or.inl rfl) (by first | exact .inl rfl | exact .inr rfl | assumption)) (@ia _ _ _ _ _ (@fT _ _ 1 _ (show List.Nodup (["place","amount"]:List Str) from by decide) rfl (Or.inl rfl) (by first | exact .inl rfl | exact .inr rfl | assumption)) (@pB _) (by rfl)) (by rfl)) (by rfl) (by rfl))) (fun _ _ _ _ _=>(@uZ _ _ _ (@jj _ _ _ _ _ _ _ _ (@u0 _) (@pv _ 1 _ _ (by rfl) (by decreasing_trivial) (by decide) (by decide)) (@dR _ _ _ _) (iG _)))) (fun _ _ _ _ _=>(@qt _ _ _ _ _ (@cT _ _ _ _ _ (@pv _ 0 _ _ (by rfl) (by decreasing_trivial) (by decide) (by decide)) (@cT _ _ _ _ _ (@pv _ 1 _ _ (by rfl) (by decreasing_trivial) (by decide) (by decide)) (@dB _) (di rfl)) (di rfl)))) (by intro _; rfl)))),?_⟩
 trivial
 obtain⟨Pc,hC⟩:∃ Pc:Addr→Nat→St→Hp→Prop,Pc=fun D i τ H'=>∃ (us:List V) (y z:Option V),H' D=some (.lst us)∧RtAt K H' us (((List.range i).filter fun j=>decide (0<fw.getD j 0)).map fun j=>(j,fw.getD j 0))∧Same H H'∧τ=[y,z]:=⟨_,rfl⟩
 refine xE (fw.map V.int) (.inl hS) _ Pc ?_ (fun D i τ H' hD h=>by rw[hC] at h; obtain⟨_,y,z,_,_,e,_⟩:=h; exact e) ?_ ?_
 ·intro D hD
  rw[hC]
  exact⟨[],_,_,er,.nil,fS hD _,rfl⟩
 ·intro D i x T τ H' R' hD hx h hT next
  rw[hC] at h
  obtain⟨us,y,z,d1,ra,d2,rfl⟩:=h
  rw[List.getElem?_map] at hx
  obtain⟨o,ho,rfl⟩:=Option.map_eq_some_iff.mp hx
  have li:=(List.getElem?_eq_some_iff.mp ho).1
  have eo:fw.getD i 0=o:=by rw[List.getD,ho]; rfl
  obtain⟨H2,g2,S2,T2⟩:=ji (K:=K) hT [.int i,.int o]
  rw[← g2]
  clear g2
  replace d1:=S2 _ _ d1
  replace ra:=ra.same S2
  replace d2:=d2.trans S2
  have ep:(List.range (i+1)).filter (fun j=>decide (0<fw.getD j 0))=(List.range i).filter (fun j=>decide (0<fw.getD j 0))++[i].filter (fun j=>decide (0<fw.getD j 0)):=by
   rw[List.range_succ,List.filter_append]
  have lp:us.length≤i:=by
   rw[ra.len,List.length_map]
   refine Nat.le_trans (List.length_filter_le ..) ?_
   rw[List.length_range]
   exact Nat.le_refl _
  trivial
  refine⟨_,T2,rfl,?_⟩
  trivial
  by_cases hz:0<o
  ·rw[if_pos hz]
   refine⟨by decide,fun t ht=>?_⟩
   obtain⟨H3,g3,S3,T3⟩:=ji (K:=K) ht [.int i,.int o]
   rw[← g3]
   clear g3
   have d3:=S3 _ _ d1
   refine⟨_,d3,Nat.lt_of_lt_of_le (m:=1000) (by omega) (by decide),next _ _ ?_⟩
   rw[hC]
   refine⟨_,_,_,er,?_,gu (d2.trans S3) hD _,rfl⟩
   rw[ep,List.filter_cons_of_pos (by rw[eo]; simp [hz]),List.filter_nil,List.map_append]
   exact RtAt.upd d3 (fun ys z=>by cases z) (fun _ _ z=>by cases z) (RtAt.snoc (by rw[eo]; exact T3) (ra.same S3))
  ·rw[if_neg hz]
   refine next _ _ ?_
   rw[hC]
   refine⟨us,_,_,d1,?_,d2,rfl⟩
   rw[ep,List.filter_cons_of_neg (by rw[eo]; simp; omega),List.filter_nil,List.append_nil]
   exact ra
 ·intro D τ H' hD h
  rw[hC] at h
  obtain⟨us,y,z,d1,ra,d2,rfl⟩:=h
  rw[List.length_map] at ra
  exact q D us H' d2 hD d1 ra
end
end MyG
namespace MyS
open My MyB MyC MyD MyE MyF MyG PySem L2
def jh (k:Nat) (g:Nat→Int):Int:=((List.range k).map g).sum
theorem iW (k:Nat) (g:Nat→Int):jh (k+1) g=jh k g+g k:=by
 unfold jh
 rw[List.range_succ,List.map_append,List.sum_append]
 simp
theorem jH {g h:Nat→Int}:∀ {k:Nat},(∀ i,i<k→g i=h i)→jh k g=jh k h
 | 0,_=>rfl
 | k+1,e=>by rw[iW,iW,jH fun i hi=>e i (by omega),e k (by omega)]
theorem vA (g h:Nat→Int):∀ k,jh k (fun i=>g i+h i)=jh k g+jh k h
 | 0=>rfl
 | k+1=>by
  rw[iW,iW,iW,vA g h k]
  omega
theorem vG:∀ k,jh k (fun _=>0)=0
 | 0=>rfl
 | k+1=>by rw[iW,vG k]; rfl
theorem uU {g:Nat→Int} {k:Nat} (h:∀ i,i<k→g i=0):jh k g=0:=(jH h).trans (vG k)
theorem zz (f:Nat→Nat→Int) (m:Nat):∀ n,jh m (fun j=>jh n fun e=>f e j)=jh n fun e=>jh m fun j=>f e j
 | 0=>by
  show jh m (fun _=>0)=0
  exact vG m
 | n+1=>by
  rw[iW,← zz f m n,← vA]
  exact jH fun j _=>iW n _
theorem vp {g h:Nat→Int}:∀ {k:Nat},(∀ i,i<k→g i≤h i)→jh k g≤jh k h
 | 0,_=>Int.le_refl _
 | k+1,e=>by
  rw[iW,iW]
  have:=vp (k:=k) fun i hi=>e i (by omega)
  have:=e k (by omega)
  omega
theorem xy {g:Nat→Int} {k:Nat} (h:∀ i,i<k→0≤g i):0≤jh k g:=by
 have:=vp (g:=fun _=>0) h
 rw[vG] at this
 exact this
theorem uV:∀ l:List Int,l.sum=jh l.length fun j=>l.getD j 0
 | []=>rfl
 | x::l=>by
  unfold jh
  rw[List.sum_cons,List.length_cons,List.range_succ_eq_map,List.map_cons,List.sum_cons,List.map_map,uV l]
  rfl
theorem xj {n m e:Nat} {F:List (List Int)} (h:Rows n m F) (he:e<n):m9 F e=jh m fun j=>fl F e j:=by
 unfold m9
 rw[uV,xA h he]
 rfl
theorem xg {n m j:Nat} {F:List (List Int)} (h:Rows n m F):colS F j=jh n fun e=>fl F e j:=by
 unfold colS
 rw[uV,List.length_map,h.1]
 refine jH fun e he=>?_
 unfold fl
 have he':e<F.length:=by rw[h.1]; exact he
 simp [List.getD,he']
def roomS (rooms:List Int) (m:Nat) (S:Nat→Bool):Int:=jh m fun j=>if S j=true then rooms.getD j 0 else 0
def sumG (L:List En) (G:Nat→Int) (S:Nat→Bool) (k:Nat):Int:=jh k fun e=>if (pl L e).all S=true then G e else 0
theorem BU {L:List En} {n m:Nat} {rooms lf:List Int} {F:List (List Int)} (h:Flo L n m rooms F lf) (S:Nat→Bool):roomS rooms m S=jh n (fun e=>jh m fun j=>if S j=true then fl F e j else 0)+jh m (fun j=>if S j=true then lf.getD j 0 else 0):=by
 unfold roomS
 rw[← zz (fun e j=>if S j=true then fl F e j else 0) m n,← vA]
 refine jH fun j hj=>?_
 have:=h.col j hj
 rw[xg h.rows] at this
 by_cases z:S j=true
 ·rw[if_pos z,if_pos z,← this]
  congr 1
  exact jH fun e _=>by rw[if_pos z]
 ·rw[if_neg z,if_neg z]
  have:(jh n fun e=>if S j=true then fl F e j else 0)=0:=uU fun e _=>by rw[if_neg z]
  omega
theorem tight {L:List En} {n m:Nat} {rooms lf:List Int} {F:List (List Int)} (h:Flo L n m rooms F lf) (S:Nat→Bool) (sh:uW L F lf fun j=>S j=true):roomS rooms m S=sumG L (m9 F) S n:=by
 rw[BU h S]
 have z0:(jh m fun j=>if S j=true then lf.getD j 0 else 0)=0:=by
  refine uU fun j _=>?_
  by_cases z:S j=true
  ·rw[if_pos z]
   exact sh.1 j z
  ·rw[if_neg z]
 rw[z0,Int.add_zero]
 unfold sumG
 refine jH fun e he=>?_
 by_cases ha:(pl L e).all S=true
 ·rw[if_pos ha,xj h.rows he]
  refine jH fun j _=>?_
  by_cases z:S j=true
  ·rw[if_pos z]
  ·rw[if_neg z]
   have nn:=h.nn e j
   by_cases p:0<fl F e j
   ·exact absurd (List.all_eq_true.mp ha j (h.su e j p)) z
   ·omega
 ·rw[if_neg ha]
  refine uU fun j _=>?_
  by_cases z:S j=true
  ·rw[if_pos z]
   have nn:=h.nn e j
   by_cases p:0<fl F e j
   ·exact absurd (List.all_eq_true.mpr fun o ho=>sh.2 j z e o ⟨by rw[h.rows.1]; exact he,p,ho⟩) ha
   ·omega
  ·rw[if_neg z]
theorem loose {L:List En} {n m:Nat} {rooms lf:List Int} {F:List (List Int)} (h:Flo L n m rooms F lf) (S:Nat→Bool) (k:Nat) (hk:k≤n):sumG L (m9 F) S k≤roomS rooms m S:=by
 rw[BU h S]
 have n0:0≤jh m (fun j=>if S j=true then lf.getD j 0 else 0):=by
  refine xy fun j _=>?_
  split
  ·exact h.l0 j
  ·exact Int.le_refl _
 have nn:∀ e,0≤jh m fun j=>if S j=true then fl F e j else 0:=fun e=>by
  refine xy fun j _=>?_
  split
  ·exact h.nn e j
  ·exact Int.le_refl _
 have up:∀ d,jh k (fun e=>jh m fun j=>if S j=true then fl F e j else 0)≤jh (k+d) fun e=>jh m fun j=>if S j=true then fl F e j else 0:=fun d=>by
  induction d with
  | zero=>exact Int.le_refl _
  | succ d ih =>
   rw[← Nat.add_assoc,iW]
   have:=nn (k+d)
   omega
 have:=up (n-k)
 rw[show k+(n-k)=n by omega] at this
 have l1:sumG L (m9 F) S k≤jh k fun e=>jh m fun j=>if S j=true then fl F e j else 0:=by
  unfold sumG
  refine vp fun e he=>?_
  by_cases ha:(pl L e).all S=true
  ·rw[if_pos ha,xj h.rows (by omega)]
   refine vp fun j _=>?_
   by_cases z:S j=true
   ·rw[if_pos z]
    exact Int.le_refl _
   ·rw[if_neg z]
    by_cases p:0<fl F e j
    ·exact absurd (List.all_eq_true.mp ha j (h.su e j p)) z
    ·omega
  ·rw[if_neg ha]
   exact nn e
 omega
def zr (m:Nat):List Int:=List.replicate m 0
theorem HU {m:Nat}:(zr m).length=m:=List.length_replicate ..
theorem Fg {m j:Nat}:(zr m).getD j 0=0:=by
 unfold zr
 by_cases hj:j<m
 ·simp [List.getD,hj]
 ·simp [List.getD,hj]
theorem wM {n m:Nat} {F:List (List Int)} (h:Rows n m F) (e j:Nat):fl (F++[zr m]) e j=fl F e j:=by
 unfold fl
 by_cases he:e<F.length
 ·rw[show (F++[zr m]).getD e []=F.getD e [] by simp [List.getD,List.getElem?_append_left he]]
 ·rw[show F.getD e []=[] by simp [List.getD,List.getElem?_eq_none (show F.length≤e by omega)]]
  by_cases e2:e=F.length
  ·subst e2
   rw[show (F++[zr m]).getD F.length []=zr m by simp [List.getD]]
   rw[Fg]
   rfl
  ·rw[show (F++[zr m]).getD e []=[] by simp [List.getD,List.getElem?_eq_none (show (F++[zr m]).length≤e by simp; omega)]]
theorem GN {L:List En} {n m:Nat} {rooms lf:List Int} {F:List (List Int)} (h:Flo L n m rooms F lf):Flo L (n+1) m rooms (F++[zr m]) lf:=by
 have R:Rows (n+1) m (F++[zr m]):=⟨by rw[List.length_append,h.rows.1]; rfl,fun r hr=>by
  rcases List.mem_append.mp hr with hr | hr
  ·exact h.rows.2 r hr
  ·rw[List.mem_singleton.mp hr,HU]⟩
 refine⟨R,fun e j=>by rw[wM h.rows]; exact h.nn e j,fun e j hp=>h.su e j (by rw[wM h.rows] at hp; exact hp),h.ln,h.l0,fun j hj=>?_⟩
 rw[xg R,iW]
 have:=h.col j hj
 rw[xg h.rows] at this
 have e1:(jh n fun e=>fl (F++[zr m]) e j)=jh n fun e=>fl F e j:=jH fun e _=>wM h.rows e j
 rw[e1,wM h.rows]
 have:fl F n j=0:=by
  unfold fl
  rw[show F.getD n []=[] by simp [List.getD,List.getElem?_eq_none (show F.length≤n by rw[h.rows.1]; exact Nat.le_refl _)]]
  rfl
 omega
theorem E8 {L:List En} {n m:Nat} {lf:List Int} {F:List (List Int)} {S:Nat→Prop} (R:Rows n m F) (h:uW L F lf S):uW L (F++[zr m]) lf S:=by
 refine⟨h.1,fun j hj e o hl=>?_⟩
 obtain⟨h1,h2,h3⟩:=hl
 rw[wM R] at h2
 refine h.2 j hj e o ⟨?_,h2,h3⟩
 by_cases z:e<F.length
 ·exact z
 ·have:fl F e j=0:=by
   unfold fl
   rw[show F.getD e []=[] by simp [List.getD,List.getElem?_eq_none (show F.length≤e by omega)]]
   rfl
  omega
theorem Gi {n m e:Nat} {F:List (List Int)} (R:Rows n m F) (he:e<n):m9 (F++[zr m]) e=m9 F e:=by
 have he':e<F.length:=by rw[R.1]; exact he
 unfold m9
 rw[show (F++[zr m]).getD e []=F.getD e [] by simp [List.getD,List.getElem?_append_left he']]
theorem Eh {n m:Nat} {F:List (List Int)} (R:Rows n m F):m9 (F++[zr m]) n=0:=by
 unfold m9
 rw[show (F++[zr m]).getD n []=zr m by rw[← R.1]; simp [List.getD]]
 rw[uV]
 exact uU fun j _=>Fg
end MyS
namespace MyI
open My MyB MyC MyD MyE MyF MyG MyS PySem L2
def top (i:Nat):Stmt:=PySem.Challenge.pw_tariffgate_k67_whole_no_other.main.body.getD i (.Pass ⟨0,0,0,0⟩)
theorem cM:(("rooms":Str) == ("__debug__":Str))=false:=by decide
theorem cO:(("rooms":Str) == ("__classdict__":Str))=false:=by decide
theorem gn:(("cuts":Str) == ("__debug__":Str))=false:=by decide
theorem gp:(("cuts":Str) == ("__classdict__":Str))=false:=by decide
theorem sW:(("serve":Str) == ("__debug__":Str))=false:=by decide
theorem dU:(("sum":Str) == ("__debug__":Str))=false:=by decide
theorem dW:("sum":Str)≠"__name__":=by decide
theorem qN:(("route_of":Str) == ("__debug__":Str))=false:=by decide
abbrev aO:Stmt:=top 21
theorem fG:FnScope ["rooms","line","left","flows","cuts","entry"] ["rooms","line"] (defScope aO):=⟨rfl,rfl,rfl,by decide +kernel,rfl,by decide +kernel,by decide +kernel⟩
theorem lx:Vis (defScope aO) "rooms":=by decreasing_trivial
theorem ly:Vis (defScope aO) "line":=by decreasing_trivial
theorem rK:Vis (defScope aO) "left":=by decreasing_trivial
theorem rM:Loc (defScope aO) "left":=by first | exact Or.inl rfl | exact Or.inr rfl
theorem gg:Vis (defScope aO) "flows":=by decreasing_trivial
theorem rN:Loc (defScope aO) "flows":=by first | exact Or.inl rfl | exact Or.inr rfl
theorem lA:Vis (defScope aO) "cuts":=by decreasing_trivial
theorem rO:Loc (defScope aO) "cuts":=by first | exact Or.inl rfl | exact Or.inr rfl
theorem rP:Vis (defScope aO) "entry":=by decreasing_trivial
theorem rQ:Loc (defScope aO) "entry":=by first | exact Or.inl rfl | exact Or.inr rfl
theorem nC:(defScope aO).names.lookup ("list":Str)=some .globalImplicit:=by rfl
theorem mE:(defScope aO).names.lookup ("range":Str)=some .globalImplicit:=by rfl
theorem jG:(defScope aO).names.lookup ("len":Str)=some .globalImplicit:=by rfl
theorem mF:(defScope aO).names.lookup ("serve":Str)=some .globalImplicit:=by rfl
def wt (L:List En) (e:Nat):Int:=(L.getD e ([],0)).2
def inS (ns:List Int):Nat→Bool:=fun j=>decide ((j:Int)∈ns)
def CutAt (L:List En) (m:Nat) (rooms:List Int) (F:List (List Int)) (lf:List Int) (H:Hp) (ok:Addr→Prop) (e:Nat) (v:V):Prop:=(v=.non∧m9 F e=wt L e)∨∃ (c:Addr) (ns:List Int),v=.ref c∧ok c∧H c=some (.lst (ns.map V.int))∧m9 F e<wt L e∧ns.Pairwise (· < ·)∧(∀ x∈ns,∃ j:Nat,x=(j:Int)∧j<m)∧uW L F lf (fun j=>(j:Int)∈ns)∧(∀ j∈pl L e,(j:Int)∈ns)∧roomS rooms m (inS ns)=sumG L (m9 F) (inS ns) (e+1)
theorem uQ {L:List En} {G G':Nat→Int} {S:Nat→Bool} {k:Nat} (h:∀ e,e<k→G e=G' e):sumG L G S k=sumG L G' S k:=by
 unfold sumG
 exact jH fun e he=>by rw[h e he]
theorem CutAt.go {L:List En} {m:Nat} {rooms:List Int} {F F':List (List Int)} {lf lf':List Int} {H H':Hp} {ok ok':Addr→Prop} {e:Nat} {v:V} (h:CutAt L m rooms F lf H ok e v) (hr:∀ e',e'≤e→m9 F' e'=m9 F e') (hs:∀ S,uW L F lf S→uW L F' lf' S) (hh:∀ c u,ok c→H c=some u→ok' c∧H' c=some u):CutAt L m rooms F' lf' H' ok' e v:=by
 rcases h with ⟨a,b⟩ | ⟨c,ns,a,b,d,e1,e2,e6,e3,e4,e5⟩
 ·exact .inl ⟨a,by rw[hr e (Nat.le_refl _)]; exact b⟩
 ·obtain⟨h1,h2⟩:=hh c _ b d
  exact .inr ⟨c,ns,a,h1,h2,by rw[hr e (Nat.le_refl _)]; exact e1,e2,e6,hs _ e3,e4,by rw[e5]; exact uQ fun e' he=>(hr e' (by omega)).symm⟩
theorem Ga {H:Hp} {g r:Addr} {rs:List Addr} {F:List (List Int)} {row:List Int} (h:FlAt H g rs F) (hr:H r=some (.lst (row.map V.int))) (hn:r ∉ rs) (rg:r≠g) (gr:g ∉ rs):FlAt (upd H g (.lst ((rs++[r]).map V.ref))) g (rs++[r]) (F++[row]):=by
 refine⟨er,by rw[List.length_append,List.length_append,h.len]; rfl,fun e r2 fl2 a b=>?_,?_,fun r2 hr2=>?_⟩
 ·by_cases he:e<rs.length
  ·rw[List.getElem?_append_left he] at a
   rw[List.getElem?_append_left (by rw[← h.len]; exact he)] at b
   rw[fj (h.ne r2 (List.mem_iff_getElem?.mpr ⟨_,a⟩))]
   exact h.row e r2 fl2 a b
  ·have he2:=(List.getElem?_eq_some_iff.mp a).1
   rw[List.length_append,List.length_singleton] at he2
   have ee:e=rs.length:=by omega
   subst ee
   rw[List.getElem?_append_right (Nat.le_refl _),Nat.sub_self] at a
   rw[h.len,List.getElem?_append_right (Nat.le_refl _),Nat.sub_self] at b
   cases a
   cases b
   rw[fj rg]
   exact hr
 ·rw[List.nodup_append]
  refine⟨h.nd,by simp,fun x hx y hy z=>?_⟩
  rw[List.mem_singleton.mp hy] at z
  exact hn (z ▸ hx)
 ·rcases List.mem_append.mp hr2 with hr2 | hr2
  ·exact h.ne r2 hr2
  ·rw[List.mem_singleton.mp hr2]
   exact rg
theorem AI {α:Type} (x:α):∀ n:Nat,(List.replicate n [x]).flatten=List.replicate n x
 | 0=>rfl
 | n+1=>by
  rw[List.replicate_succ,List.flatten_cons,AI x n,List.replicate_succ]
  rfl
theorem vd {α β:Type} {R:α→β→Prop} {a:α} {b:β} (h:R a b):∀ {xs:List α} {ys:List β},Paired R xs ys→Paired R (xs++[a]) (ys++[b])
 | _,_,.nil=>.cons h .nil
 | _,_,.cons r t=>.cons r (vd h t)
theorem wg {α β:Type} {R:α→β→Prop}:∀ {xs:List α} {ys:List β} {x:α},Paired R xs ys→x∈xs→∃ y,R x y
 | _,_,_,.nil,h=>by cases h
 | _,_,_,.cons r t,h=>by
  rcases List.mem_cons.mp h with h | h
  ·subst h
   exact⟨_,r⟩
  ·exact wg t h
theorem yk {α:Type} {xs:List α} {a:α} (h:xs.Nodup) (ha:a ∉ xs):(xs++[a]).Nodup:=by
 rw[List.nodup_append]
 refine⟨h,by simp,fun x hx y hy z=>?_⟩
 rw[List.mem_singleton.mp hy] at z
 exact ha (z ▸ hx)
structure LnOk (m:Nat) (L:List En):Prop where
 l:L.length≤64
 pl:∀ en∈L,en.1.length≤64∧∀ o∈en.1,o<m
 nd:∀ en∈L,en.1.Nodup
 m:m≤60
 w:∀ en∈L,0≤en.2
structure Sep (H:Hp) (ga ra ca:Addr) (ras:List Addr) (cs:List V):Prop where
 g:H ga=none
 r:H ra=none
 c:H ca=none
 rs:∀ r∈ras,H r=none
 nd:ras.Nodup
 gr:ga≠ra
 gc:ga≠ca
 rc:ra≠ca
 g1:ga ∉ ras
 r1:ra ∉ ras
 c1:ca ∉ ras
 sc:∀ (e e':Nat) (c:Addr),cs[e]?=some (V.ref c)→cs[e']?=some (V.ref c)→e=e'
structure Fnd (K:PySem.W.Frag) (H:Hp) (t ga ra ca:Addr) (F:List (List Int)) (ras:List Addr) (cs:List V):Prop where
 t:SqT K H t [.ref ga,.ref ra,.ref ca]
 g:H ga=some (.lst ((F.map List.sum).map V.int))
 r:H ra=some (.lst (ras.map V.ref))
 rs:Paired (fun r row=>∃ us,H r=some (.lst us)∧RtAt K H us (rt row)) ras F
 c:H ca=some (.lst cs)
theorem Fnd.same {K:PySem.W.Frag} {H H':Hp} {t ga ra ca:Addr} {F:List (List Int)} {ras:List Addr} {cs:List V} (h:Fnd K H t ga ra ca F ras cs) (e:Same H H'):Fnd K H' t ga ra ca F ras cs :=
 ⟨Same.tup e h.t,e _ _ h.g,e _ _ h.r,Paired.mapP h.rs fun r row=>by rintro⟨us,a,b⟩; exact⟨us,e _ _ a,b.same e⟩,e _ _ h.c⟩
def xY (K:PySem.W.Frag):Sp:=fun vs H Q _=>∃ (rm l:Addr) (rooms:List Int) (L:List En),vs=[.ref rm,.ref l]∧SqL K H rm (rooms.map V.int)∧LnAt K H l L∧LnOk rooms.length L∧(∀ x∈rooms,0≤x) ∧
 ∀ (t ga ra ca:Addr) (F:List (List Int)) (lf:List Int) (ras:List Addr) (cs:List V) (H':Hp),Same H H'→H t=none→Fnd K H' t ga ra ca F ras cs→cs.length=L.length→(∀ (e:Nat) (v:V),cs[e]?=some v→CutAt L rooms.length rooms F lf H' (fun c=>H c=none∧c≠ga∧c≠ra∧c≠ca∧c ∉ ras) e v)→Flo L L.length rooms.length rooms F lf→Sep H ga ra ca ras cs→Q (.ref t) H'
theorem none_of {H H':Hp} {a:Addr} (e:Same H H') (h:H' a=none):H a=none:=by
 cases hh:H a with
 | none=>rfl
 | some u=>rw[e _ _ hh] at h; cases h
section
variable {P:Program} {w:World} {K:PySem.W.Frag} {mg:Str→Option Value} {base:Heap} {f:Addr} {fd:FuncData}
theorem D8 (F:Fun K "served" "served" aO f fd) (M:Mg mg) (mG:Cal P w K mg base CX0 "serve" 3 ["line","flows","left","entry"] (yR K)) (i6:Cal P w K mg base CX0 "route_of" 1 ["flow"] (yE K)):FnOk P w K mg base CX0 4 f fd ["rooms","line"] (xY K):=by
 refine F.ok fG (fun vs H Q E h=>?_) (fun cdv A outer s H vs Q E hr h=>?_)
 ·obtain⟨rm,l,rooms,L,rfl,_⟩:=h
  rfl
 obtain⟨rm,l,rooms,L,rfl,hrm,hL,lo,r0,q⟩:=h
 refine⟨_,(@ff _ _ _ _ _ (@gI _ _ 2 _ _ _ _ fG.nd rfl rM (@nt _ _ _ _ _ _ _ _ _ pZ nC M.m_list r8 (@cT _ _ _ _ _ (@cg _ 0 _ _ rfl lx cM cO) (@dB _) (di rfl)) bq bo (di rfl) fD) (gG rfl) (.inl rfl)) (@ff _ _ _ _ _ (@gI _ _ 3 _ _ _ _ fG.nd rfl rN (@rC _ _ _ _ (@dB _)) (gG rfl) (.inl rfl)) (@ff _ _ _ _ _ (@gI _ _ 4 _ _ _ _ fG.nd rfl rO (@rC _ _ _ _ (@dB _)) (gG rfl) (.inl rfl)) (@ff _ _ _ _ _ (@rB _ _ _ _ _ _ _ _ PassesOwn.never rfl (@pA _ _ _ _ _ _ mE M.m_range (@cT _ _ _ _ _ (@fZ _ _ _ _ _ _ _ _ _ gJ jG M.m_len nj (@cT _ _ _ _ _ (@cg _ 1 _ _ rfl ly bC bE) (@dB _) (di rfl)) aF aE (di rfl) fD) (@dB _) (di rfl)) (star1' rfl)) (@fT _ _ 5 _ fG.nd rfl rQ (.inl rfl)) (@ff _ _ _ _ _ (@tM _ _ _ _ (@uS _ _ _ _ _ _ _ _ _ _ _ _ PySem.F.plainAttrs_list PySem.F.slot_list_append PySem.F.type_list_append pD (@cg _ 3 _ _ rfl gg bM bN) (@cT _ _ _ _ _ (@gj _ _ _ _ _ _ _ _ HQ (@rC _ _ _ _ (@cT _ _ _ _ _ (@dR _ _ _ _) (@dB _) (di rfl))) (@fZ _ _ _ _ _ _ _ _ _ gJ jG M.m_len nj (@cT _ _ _ _ _ (@cg _ 0 _ _ rfl lx cM cO) (@dB _) (di rfl)) aF aE (di rfl) fD)) (@dB _) (di rfl)) (by rfl) (by rfl) (by rfl) (by rfl) (by rfl)) (gG rfl)) (@fL _ _ _ (@tM _ _ _ _ (@uS _ _ _ _ _ _ _ _ _ _ _ _ PySem.F.plainAttrs_list PySem.F.slot_list_append PySem.F.type_list_append pD (@cg _ 4 _ _ rfl lA gn gp) (@cT _ _ _ _ _ (@gv _ _ _ _ _ _ _ _ _ _ _ mG hr mF (@cT _ _ _ _ _ (@cg _ 1 _ _ rfl ly bC bE) (@cT _ _ _ _ _ (@cg _ 3 _ _ rfl gg bM bN) (@cT _ _ _ _ _ (@cg _ 2 _ _ rfl rK gk gm) (@cT _ _ _ _ _ (@cg _ 5 _ _ rfl rP aZ ba) (@dB _) (di rfl)) (di rfl)) (di rfl)) (di rfl)) (by decide) sW (di rfl) (gw rfl (gw rfl (gw rfl fD)))) (@dB _) (di rfl)) (by rfl) (by rfl) (by rfl) (by rfl) (by rfl)) (gG rfl)))) (by intro _; rfl)) (@fL _ _ _ (@ic _ _ _ _ (@qt _ _ _ _ _ (@cT _ _ _ _ _ (@lB _ _ _ _ _ _ _ _ _ _ _ _ _ _ _ rfl (CompOk.make (N':=["flow"]) (ix:=[]) (nl:=1) (by rfl) fm0 (by rfl) (by decide +kernel) rfl (by decide +kernel) rfl True.intro) (@m8 _ _ _ _ (@cg _ 3 _ _ rfl gg bM bN)) (fun _ _ _ _ _=>(@fT _ _ 0 _ (show List.Nodup (["flow"]:List Str) from by decide) rfl (Or.inl rfl) (by first | exact .inl rfl | exact .inr rfl | assumption))) (fun _ _ _ _ _=>(@mH _)) (fun _ _ _ _ _=>(@fZ _ _ _ _ _ _ _ _ _ (Cy (K:=K) rfl rfl) rfl M.m_sum xx (@cT _ _ _ _ _ (@pv _ 0 _ _ (by rfl) (by decreasing_trivial) (by decide) (by decide)) (@dB _) (di rfl)) dW dU (di rfl) fD)) (by intro _; rfl)) (@cT _ _ _ _ _ (@lB _ _ _ _ _ _ _ _ _ _ _ _ _ _ _ rfl (CompOk.make (N':=["flow"]) (ix:=[]) (nl:=1) (by rfl) fm0 (by rfl) (by decide +kernel) rfl (by decide +kernel) rfl True.intro) (@m8 _ _ _ _ (@cg _ 3 _ _ rfl gg bM bN)) (fun _ _ _ _ _=>(@fT _ _ 0 _ (show List.Nodup (["flow"]:List Str) from by decide) rfl (Or.inl rfl) (by first | exact .inl rfl | exact .inr rfl | assumption))) (fun _ _ _ _ _=>(@mH _)) (fun _ _ _ _ _=>(@gv _ _ _ _ _ _ _ _ _ _ _ i6 hr rfl (@cT _ _ _ _ _ (@pv _ 0 _ _ (by rfl) (by decreasing_trivial) (by decide) (by decide)) (@dB _) (di rfl)) (by decide) qN (di rfl) fD)) (by intro _; rfl)) (@cT _ _ _ _ _ (@cg _ 4 _ _ rfl lA gn gp) (@dB _) (di rfl)) (di rfl)) (di rfl))))))))),?_⟩
 obtain⟨us,hus,hpa⟩:=id hL
 have lus:us.length=L.length:=Paired.length hpa
 have l64:=lo.l
 trivial
 refine⟨_,hrm,fun fa hfa=>⟨by decide,fun p hp=>⟨by decide,fun ca hca=>?_⟩⟩⟩
 have pfa:p≠fa:=fun z=>by rw[z,er] at hp; cases hp
 have hpH:H p=none:=by rw[fj pfa] at hp; exact hp
 have cap:ca≠p:=fun z=>by rw[z,er] at hca; cases hca
 have cafa:ca≠fa:=fun z=>by rw[z,fj (Ne.symm pfa),er] at hca; cases hca
 have hcaH:H ca=none:=by rw[fj cap,fj cafa] at hca; exact hca
 have S1:=((fS hfa (.lst (rooms.map V.int))).trans (fS hp (.lst []))).trans (fS hca (.lst []))
 refine⟨us,.inl (S1.seq hus),by omega,by omega,?_⟩
 obtain⟨Pv,hP⟩:∃ Pv:Nat→St→Hp→Prop,Pv=fun i σ H'=>∃ (rs:List Addr) (F:List (List Int)) (lf:List Int) (cs:List V) (x:Option V),FlAt H' p rs F∧Flo L i rooms.length rooms F lf∧H' fa=some (.lst (lf.map V.int))∧fa ∉ rs∧p ∉ rs∧ca ∉ rs∧(∀ r∈rs,H r=none)∧H' ca=some (.lst cs)∧cs.length=i∧(∀ (e:Nat) (v:V),cs[e]?=some v→CutAt L rooms.length rooms F lf H' (fun c=>c ∉ rs∧c≠fa∧c≠p∧c≠ca∧H c=none) e v)∧(∀ (e e':Nat) (c:Addr),cs[e]?=some (V.ref c)→cs[e']?=some (V.ref c)→e=e')∧Same H H'∧σ=[some (.ref rm),some (.ref l),some (.ref fa),some (.ref p),some (.ref ca),x]:=⟨_,rfl⟩
 refine ua Pv ?_ ?_ ?_
 ·rw[hP]
  refine⟨[],[],rooms,[],_,⟨by rw[fj (Ne.symm cap),er]; rfl,rfl,(fun e r fl z=>by cases z),List.nodup_nil,(fun r z=>by cases z)⟩,⟨⟨rfl,fun r z=>by cases z⟩,fun e j=>by simp [fl],fun e j z=>by simp [fl] at z,rfl,fun j=>?_,fun j hj=>?_⟩,by rw[fj (Ne.symm cafa),fj (Ne.symm pfa),er],by simp,by simp,by simp,(fun r z=>by cases z),er,rfl,(fun e v z=>by cases z),(fun e e' c z=>by cases z),S1,rfl⟩
  ·by_cases hj:j<rooms.length
   ·rw[My.getD_at hj]
    exact r0 _ (List.getElem_mem hj)
   ·simp [List.getD,List.getElem?_eq_none (show rooms.length≤j by omega)]
  ·simp [colS]
 ·intro i σ H3 hi h
  rw[hP] at h
  obtain⟨rs,F3,lf3,cs,x,hF3,flo3,f3,frs,prs,crs,rs0,c3,lcs,cut3,sep3,e3,rfl⟩:=h
  have hi':i<L.length:=by omega
  trivial
  have mm:=lo.m
  have lrs:rs.length=i:=by rw[hF3.len,flo3.rows.1]
  refine⟨.inl ⟨rfl,_,SqL.of hF3.top⟩,by decide,fun a1 h1=>⟨rooms.map V.int,.inl ((e3.trans (fS h1 _)).seq hrm),[.int 0],er,by omega,by rw[List.length_map]; omega,?_,fun r h2=>?_⟩⟩
  ·rw[List.length_map,List.length_singleton]
   refine Nat.le_trans (m:=1000) (by omega) (by decide)
  obtain⟨Ha,ga,Sa,la⟩:=zB (K:=K) h1 [.int 0]
  rw[← ga] at h2 ⊢
  clear ga
  have ez:(List.replicate ((rooms.map V.int).length:Int).toNat [V.int 0]).flatten=(zr rooms.length).map V.int:=by
   rw[List.length_map,AI,zr,List.map_replicate]
   rfl
  rw[ez]
  have hr2:Ha r=none:=h2
  obtain⟨Hb,gb,Sb,lb⟩:∃ Hb,Hb=upd Ha r (.lst ((zr rooms.length).map V.int))∧Same Ha Hb∧Hb r=some (.lst ((zr rooms.length).map V.int)):=⟨_,rfl,fS h2 _,er⟩
  rw[← gb]
  clear gb
  have Sab:=Sa.trans Sb
  have rn:∀ b u,H3 b=some u→r≠b:=fun b u hb z=>by
   rw[← z] at hb
   rw[Sa _ _ hb] at hr2
   cases hr2
  have rp:r≠p:=rn _ _ hF3.top
  have rfa:r≠fa:=rn _ _ f3
  have rca:r≠ca:=rn _ _ c3
  have rrs:r ∉ rs:=fun z=>by
   obtain⟨e,he⟩:=List.mem_iff_getElem?.mp z
   have hl:=(List.getElem?_eq_some_iff.mp he).1
   have hl2:e<F3.length:=by rw[← hF3.len]; exact hl
   exact rn _ _ (hF3.row e r _ he (List.getElem?_eq_getElem hl2)) rfl
  have rH:H r=none:=by
   cases hh:H r with
   | none=>rfl
   | some u=>exact absurd rfl (rn _ _ (e3 _ _ hh))
  refine⟨rs.map V.ref,Sab _ _ hF3.top,by rw[List.length_map]; exact Nat.lt_of_lt_of_le (m:=1000) (by omega) (by decide),.inl ⟨rfl,cs,SqL.of (by rw[fj cap]; exact Sab _ _ c3)⟩,?_⟩
  have hFb:=Ga (hF3.same Sab) lb rrs rp prs
  rw[List.map_append,List.map_cons,List.map_nil] at hFb
  have hSb:Same H (upd Hb p (.lst (rs.map V.ref++[.ref r]))):=gu (e3.trans Sab) hpH _
  have hfb:(upd Hb p (.lst (rs.map V.ref++[.ref r]))) fa=some (.lst (lf3.map V.int)):=by
   rw[fj (Ne.symm pfa)]
   exact Sab _ _ f3
  have hcb:(upd Hb p (.lst (rs.map V.ref++[.ref r]))) ca=some (.lst cs):=by
   rw[fj cap]
   exact Sab _ _ c3
  have flob:=GN flo3
  have frs2:fa ∉ rs++[r]:=fun z=>by
   rcases List.mem_append.mp z with z | z
   ·exact frs z
   ·exact rfa (List.mem_singleton.mp z).symm
  have prs2:p ∉ rs++[r]:=fun z=>by
   rcases List.mem_append.mp z with z | z
   ·exact prs z
   ·exact rp (List.mem_singleton.mp z).symm
  have crs2:ca ∉ rs++[r]:=fun z=>by
   rcases List.mem_append.mp z with z | z
   ·exact crs z
   ·exact rca (List.mem_singleton.mp z).symm
  have rs02:∀ b∈rs++[r],H b=none:=fun b z=>by
   rcases List.mem_append.mp z with z | z
   ·exact rs0 b z
   ·rw[List.mem_singleton.mp z]
    exact rH
  have hen:L[i]?=some L[i]:=List.getElem?_eq_getElem hi'
  have ewt:wt L i=(L[i]).2:=by rw[wt,List.getD,hen]; rfl
  have sizb:Siz rooms.length L (F3++[zr rooms.length]):=⟨by rw[flob.rows.1]; omega,lo.l,flob.rows.2,lo.pl,lo.nd,lo.m⟩
  obtain⟨Hc,gc⟩:∃ Hc,Hc=upd Hb p (.lst (rs.map V.ref++[.ref r])):=⟨_,rfl⟩
  have old:∀ c u,(c ∉ rs∧c≠fa∧c≠p∧c≠ca∧H c=none)→H3 c=some u→(c ∉ rs++[r])∧Hc c=some u:=fun c u hc hu=>by
   refine⟨fun z=>?_,?_⟩
   ·rcases List.mem_append.mp z with z | z
    ·exact hc.1 z
    ·exact rn _ _ hu (List.mem_singleton.mp z).symm
   ·rw[gc,fj hc.2.2.1]
    exact Sab _ _ hu
  rw[← gc] at hFb hSb hfb hcb ⊢
  refine⟨l,p,fa,i,rooms.length,L,rs++[r],F3++[zr rooms.length],lf3,rooms,L[i],H,by rw[Int.zero_add],hL,hSb,hfa,rs02,hFb,sizb,flob,hfb,frs2,Ne.symm pfa,hen,lo.w _ (List.getElem_mem hi'),Eh flo3.rows,?_⟩
  intro F4 lf4 H4 S4 fr4 hF4 hf4 flo4 row4 sh4
  have hc4:H4 ca=some (.lst cs):=fr4 _ _ crs2 cafa hcb
  have lc:cs.length<sizeLine:=Nat.lt_of_lt_of_le (m:=1000) (by omega) (by decide)
  have olds:∀ (v0:V) (e:Nat) (v:V),cs[e]?=some v→CutAt L rooms.length rooms F4 lf4 (upd H4 ca (.lst (cs++[v0]))) (fun c=>c ∉ rs++[r]∧c≠fa∧c≠p∧c≠ca∧H c=none) e v:=fun v0 e v hv=>by
   have he:e<i:=by rw[← lcs]; exact (List.getElem?_eq_some_iff.mp hv).1
   refine (cut3 e v hv).go (fun e' he'=>?_) (fun S sh=>sh4 S (E8 flo3.rows sh)) (fun c u hc hu=>?_)
   ·rw[row4 e' (by omega),Gi flo3.rows (by omega)]
   ·obtain⟨o1,o2⟩:=old c u hc hu
    exact⟨⟨o1,hc.2⟩,by rw[fj hc.2.2.2.1]; exact fr4 _ _ o1 hc.2.1 o2⟩
  have sepc:∀ v0:V,(∀ (e:Nat) (c:Addr),cs[e]?=some (V.ref c)→v0≠V.ref c)→∀ (e e':Nat) (c:Addr),(cs++[v0])[e]?=some (V.ref c)→(cs++[v0])[e']?=some (V.ref c)→e=e':=fun v0 hn0 e e' c h1 h2=>by
   have a1:=(List.getElem?_eq_some_iff.mp h1).1
   have a2:=(List.getElem?_eq_some_iff.mp h2).1
   rw[List.length_append,List.length_singleton] at a1 a2
   by_cases b1:e<cs.length <;> by_cases b2:e'<cs.length
   ·rw[List.getElem?_append_left b1] at h1
    rw[List.getElem?_append_left b2] at h2
    exact sep3 e e' c h1 h2
   ·rw[List.getElem?_append_left b1] at h1
    rw[List.getElem?_append_right (by omega),show e' - cs.length=0 by omega] at h2
    exact absurd (Option.some.inj h2) (hn0 _ _ h1)
   ·rw[List.getElem?_append_left b2] at h2
    rw[List.getElem?_append_right (by omega),show e-cs.length=0 by omega] at h1
    exact absurd (Option.some.inj h1) (hn0 _ _ h2)
   ·omega
  have done:∀ v0:V,CutAt L rooms.length rooms F4 lf4 (upd H4 ca (.lst (cs++[v0]))) (fun c=>c ∉ rs++[r]∧c≠fa∧c≠p∧c≠ca∧H c=none) i v0→(∀ (e:Nat) (c:Addr),cs[e]?=some (V.ref c)→v0≠V.ref c)→Pv (i+1) [some (V.ref rm),some (V.ref l),some (V.ref fa),some (V.ref p),some (V.ref ca),some (V.int (0+(i:Int)))] (upd H4 ca (.lst (cs++[v0]))):=fun v0 hv0 hn0=>by
   rw[hP]
   refine⟨rs++[r],F4,lf4,cs++[v0],_,⟨by rw[fj (Ne.symm cap)]; exact hF4.top,hF4.len,fun e b fl he hf=>?_,hF4.nd,hF4.ne⟩,flo4,by rw[fj (Ne.symm cafa)]; exact hf4,frs2,prs2,crs2,rs02,er,by rw[List.length_append,lcs]; rfl,fun e v hv=>?_,sepc v0 hn0,gu S4 hcaH _,rfl⟩
   ·rw[fj (fun z:b=ca=>crs2 (z ▸ List.mem_iff_getElem?.mpr ⟨_,he⟩))]
    exact hF4.row e b fl he hf
   ·by_cases he:e<cs.length
    ·rw[List.getElem?_append_left he] at hv
     exact olds v0 e v hv
    ·have he2:=(List.getElem?_eq_some_iff.mp hv).1
     rw[List.length_append,List.length_singleton] at he2
     have ee:e=i:=by omega
     subst ee
     rw[List.getElem?_append_right (by omega),lcs,Nat.sub_self] at hv
     cases hv
     exact hv0
  refine⟨fun e4=>⟨cs,hc4,lc,done .non (.inl ⟨rfl,by rw[e4,ewt]⟩) (fun _ _ _ z=>by cases z)⟩,fun c ns hcn hc lt4 so4 rg4 sh4' in4=>⟨cs,hc4,lc,done (.ref c) (.inr ?_) ?_⟩⟩
  rotate_left
  ·intro e c' hc' z
   cases z
   rcases cut3 e _ hc' with ⟨z,_⟩ | ⟨c2,ns2,z,ok2,h2,_⟩
   ·cases z
   ·cases z
    rw[(old _ _ ok2 h2).2] at hcn
    cases hcn
  have cn:∀ b u,Hc b=some u→c≠b:=fun b u hb z=>by rw[z,hb] at hcn; cases hcn
  refine⟨c,ns,rfl,⟨fun z=>?_,cn _ _ hfb,cn _ _ hFb.top,cn _ _ hcb,none_of hSb hcn⟩,by rw[fj (cn _ _ hcb)]; exact hc,by rw[ewt]; exact lt4,so4,rg4,sh4',in4,?_⟩
  ·obtain⟨e,he⟩:=List.mem_iff_getElem?.mp z
   have hl:=(List.getElem?_eq_some_iff.mp he).1
   have hl2:e<(F3++[zr rooms.length]).length:=by rw[← hFb.len]; exact hl
   exact cn _ _ (hFb.row e c _ he (List.getElem?_eq_getElem hl2)) rfl
  ·refine tight flo4 (inS ns) ?_
   have ei:(fun j:Nat=>inS ns j=true)=fun j:Nat=>(j:Int)∈ns:=by
    funext j
    simp [inS]
   rw[ei]
   exact sh4'
 ·intro σ H3 h
  rw[hP] at h
  obtain⟨rs,F3,lf3,cs,x,hF3,flo3,f3,frs,prs,crs,rs0,c3,lcs,cut3,sep3,e3,rfl⟩:=h
  rw[show ((us.length:Int)).toNat=L.length by omega] at flo3 lcs
  trivial
  have mm:=lo.m
  have lrs:rs.length=L.length:=by rw[hF3.len,flo3.rows.1]
  refine⟨⟨_,SqL.of hF3.top⟩,fun D1 hD1=>?_⟩
  have at3:∀ (i:Nat) (x:V),(rs.map V.ref)[i]?=some x→∃ (r:Addr) (row:List Int),x=.ref r∧F3[i]?=some row∧H3 r=some (.lst (row.map V.int))∧row∈F3∧i<L.length:=fun i x hx=>by
   rw[List.getElem?_map] at hx
   obtain⟨r,hr,rfl⟩:=Option.map_eq_some_iff.mp hx
   have hl:=(List.getElem?_eq_some_iff.mp hr).1
   have hl2:i<F3.length:=by rw[← hF3.len]; exact hl
   exact⟨r,F3[i],rfl,List.getElem?_eq_getElem hl2,hF3.row i r _ hr (List.getElem?_eq_getElem hl2),List.getElem_mem hl2,by omega⟩
  obtain⟨Pc,hC⟩:∃ Pc:Nat→St→Hp→Prop,Pc=fun i τ H'=>∃ (z:Option V),H' D1=some (.lst (((F3.take i).map List.sum).map V.int))∧Same H3 H'∧τ=[z]:=⟨_,rfl⟩
  refine mJ (rs.map V.ref) Pc ?_ (fun i τ H' _ h=>by rw[hC] at h; obtain⟨z,_,e,_⟩:=h; exact SqL.of (e _ _ hF3.top)) ?_ ?_
  ·rw[hC]
   exact⟨_,er,fS hD1 _,rfl⟩
  ·intro i x τ H' R' hx h next
   rw[hC] at h
   obtain⟨z,d1,e1,rfl⟩:=h
   obtain⟨r,row,rfl,hrow,hr,_,li⟩:=at3 i x hx
   trivial
   refine⟨row,SqL.of (e1 _ _ hr),_,d1,?_,next _ _ ?_⟩
   ·rw[List.length_map,List.length_map,List.length_take]
    exact Nat.lt_of_lt_of_le (m:=1000) (by omega) (by decide)
   ·rw[hC]
    refine⟨_,?_,gu e1 hD1 _,rfl⟩
    rw[er,List.take_add_one,hrow,List.map_append,List.map_append]
    rfl
  intro τ H4 h
  rw[hC] at h
  obtain⟨z,d1,e1,rfl⟩:=h
  rw[List.length_map,hF3.len,List.take_length] at d1
  refine⟨⟨_,SqL.of (e1 _ _ hF3.top)⟩,fun D2 hD2=>?_⟩
  obtain⟨Pd,hD⟩:∃ Pd:Nat→St→Hp→Prop,Pd=fun i τ H'=>∃ (z:Option V) (ras:List Addr),H' D2=some (.lst (ras.map V.ref))∧Paired (fun a (row:List Int)=>∃ us,H' a=some (.lst us)∧RtAt K H' us (rt row)∧a≠D2∧H4 a=none) ras (F3.take i)∧ras.Nodup∧Same H4 H'∧τ=[z]:=⟨_,rfl⟩
  refine mJ (rs.map V.ref) Pd ?_ (fun i τ H' _ h=>by rw[hD] at h; obtain⟨z,_,_,_,_,e,_⟩:=h; exact SqL.of (e _ _ (e1 _ _ hF3.top))) ?_ ?_
  ·rw[hD]
   exact⟨_,[],er,.nil,List.nodup_nil,fS hD2 _,rfl⟩
  ·intro i x τ H' R' hx h next
   rw[hD] at h
   obtain⟨z,ras,d2,pr,nd,e2,rfl⟩:=h
   obtain⟨r,row,rfl,hrow,hr,mrow,li⟩:=at3 i x hx
   have lru:ras.length≤i:=by
    rw[Paired.length pr,List.length_take]
    omega
   trivial
   refine⟨r,row,rfl,SqL.of (e2 _ _ (e1 _ _ hr)),by rw[flo3.rows.2 row mrow]; omega,fun a vs H6 e6 ha h6 rt6=>?_⟩
   have aD:a≠D2:=fun z=>by rw[z,d2] at ha; cases ha
   refine⟨ras.map V.ref,e6 _ _ d2,Nat.lt_of_lt_of_le (m:=1000) (by rw[List.length_map]; omega) (by decide),next _ _ ?_⟩
   have anr:a ∉ ras:=fun z=>by
    obtain⟨_,us,h2,_⟩:=wg pr z
    rw[h2] at ha
    cases ha
   rw[hD]
   refine⟨_,ras++[a],by rw[er,List.map_append]; rfl,?_,yk nd anr,gu (e2.trans e6) hD2 _,rfl⟩
   rw[List.take_add_one,hrow]
   refine vd ?_ (Paired.mapP pr fun v row=>?_)
   ·exact⟨vs,by rw[fj aD]; exact h6,RtAt.upd (e6 _ _ d2) (fun ys z=>by cases z) (fun _ _ z=>by cases z) rt6,aD,none_of e2 ha⟩
   ·rintro⟨ws,h2,h3,h4,h5⟩
    exact⟨ws,by rw[fj h4]; exact e6 _ _ h2,RtAt.upd (e6 _ _ d2) (fun ys z=>by cases z) (fun _ _ z=>by cases z) (h3.same e6),h4,h5⟩
  intro τ H5 h
  rw[hD] at h
  obtain⟨z,ras,d2,pr,nd,e2,rfl⟩:=h
  rw[List.length_map,hF3.len,List.take_length] at pr
  refine⟨by decide,fun t ht=>?_⟩
  obtain⟨H6,g6,S6,T6⟩:=ji (K:=K) ht [.ref D1,.ref D2,.ref ca]
  rw[← g6]
  clear g6
  have e36:=(e1.trans e2).trans S6
  have tH:H t=none:=by
   cases hh:H t with
   | none=>rfl
   | some u =>
    rw[(e1.trans e2) _ _ (e3 _ _ hh)] at ht
    cases ht
  have D2H:H D2=none:=none_of (e3.trans e1) hD2
  have rsH:∀ r∈ras,H4 r=none:=fun r hr=>by
   obtain⟨_,_,_,_,_,h⟩:=wg pr hr
   exact h
  have rD2:∀ r∈ras,r≠D2:=fun r hr=>by
   obtain⟨_,_,_,_,h,_⟩:=wg pr hr
   exact h
  have nn:∀ {Hx:Hp} {a b:Addr} {u:HO},Hx a=none→Hx b=some u→b≠a:=fun h1 h2 z=>by rw[z,h1] at h2; cases h2
  have c4:=e1 _ _ c3
  refine q t D1 D2 ca F3 lf3 ras cs H6 (e3.trans e36) tH ⟨T6,(e2.trans S6) _ _ d1,S6 _ _ d2,Paired.mapP pr fun a row=>?_,e36 _ _ c3⟩ lcs (fun e v hv=>(cut3 e v hv).go (fun _ _=>rfl) (fun _ h=>h) fun c u hc hu=>⟨⟨hc.2.2.2.2,nn hD1 hu,nn hD2 (e1 _ _ hu),hc.2.2.2.1,fun z=>nn (rsH c z) (e1 _ _ hu) rfl⟩,e36 _ _ hu⟩) flo3 ⟨none_of e3 hD1,D2H,hcaH,fun r hr=>none_of (e3.trans e1) (rsH r hr),nd,nn hD2 d1,Ne.symm (nn hD1 c3),Ne.symm (nn hD2 c4),fun z=>nn (rsH _ z) d1 rfl,fun z=>rD2 _ z rfl,fun z=>nn (rsH _ z) c4 rfl,sep3⟩
  rintro⟨ws,h2,h3,h4,h5⟩
  exact⟨ws,S6 _ _ h2,h3.same S6⟩
end
end MyI
namespace MyJ
open My MyB MyC MyD MyE MyF MyG MyS MyI PySem L2
def top (i:Nat):Stmt:=PySem.Challenge.pw_tariffgate_k67_whole_no_other.main.body.getD i (.Pass ⟨0,0,0,0⟩)
theorem aB:(("_law_script":Str) == ("__debug__":Str))=false:=by decide
theorem aC:(("_law_script":Str) == ("__classdict__":Str))=false:=by decide
theorem aq:(("_law_k":Str) == ("__debug__":Str))=false:=by decide
theorem au:(("_law_k":Str) == ("__classdict__":Str))=false:=by decide
theorem nE:(("_law_first":Str) == ("__debug__":Str))=false:=by decide
theorem nF:(("_law_first":Str) == ("__classdict__":Str))=false:=by decide
theorem dX:(("_law_head":Str) == ("__debug__":Str))=false:=by decide
theorem dY:(("_law_head":Str) == ("__classdict__":Str))=false:=by decide
theorem kz:(("_law_top":Str) == ("__debug__":Str))=false:=by decide
theorem kC:(("_law_top":Str) == ("__classdict__":Str))=false:=by decide
theorem aP:(("_law_many":Str) == ("__debug__":Str))=false:=by decide
theorem aQ:(("_law_many":Str) == ("__classdict__":Str))=false:=by decide
theorem bO:(("_law_cell":Str) == ("__debug__":Str))=false:=by decide
theorem pF:(("_law_part":Str) == ("__debug__":Str))=false:=by decide
theorem pG:(("_law_part":Str) == ("__classdict__":Str))=false:=by decide
theorem aa:(("_law_line_here":Str) == ("__debug__":Str))=false:=by decide
theorem ae:(("_law_line_here":Str) == ("__classdict__":Str))=false:=by decide
theorem az:(("_law_cell_here":Str) == ("__debug__":Str))=false:=by decide
theorem aA:(("_law_cell_here":Str) == ("__classdict__":Str))=false:=by decide
theorem eQ:(("_law_places":Str) == ("__debug__":Str))=false:=by decide
theorem eR:(("_law_places":Str) == ("__classdict__":Str))=false:=by decide
theorem cZ:(("_law_place":Str) == ("__debug__":Str))=false:=by decide
theorem db:(("_law_place":Str) == ("__classdict__":Str))=false:=by decide
theorem eS:(("_law_weight":Str) == ("__debug__":Str))=false:=by decide
theorem eT:(("_law_weight":Str) == ("__classdict__":Str))=false:=by decide
theorem aM:(("_law_found":Str) == ("__debug__":Str))=false:=by decide
theorem aN:(("_law_found":Str) == ("__classdict__":Str))=false:=by decide
theorem bx:(("isinstance":Str) == ("__debug__":Str))=false:=by decide
theorem bz:("isinstance":Str)≠"__name__":=by decide
theorem pH:(("int":Str) == ("__debug__":Str))=false:=by decide
theorem t3:(("int":Str) == ("__classdict__":Str))=false:=by decide
theorem pI:("int":Str)≠"__name__":=by decide
theorem mK:(("bool":Str) == ("__debug__":Str))=false:=by decide
theorem mL:("bool":Str)≠"__name__":=by decide
abbrev bP:Stmt:=top 23
theorem ij:FnScope ["_law_script","_law_k","_law_first"] ["_law_script","_law_k"] (defScope bP):=⟨rfl,rfl,rfl,by decide +kernel,rfl,by decide +kernel,by decide +kernel⟩
theorem dj:Vis (defScope bP) "_law_script":=by decreasing_trivial
theorem cG:Vis (defScope bP) "_law_k":=by decreasing_trivial
theorem pJ:Vis (defScope bP) "_law_first":=by decreasing_trivial
theorem jI:Loc (defScope bP) "_law_first":=by first | exact Or.inl rfl | exact Or.inr rfl
theorem eU:(defScope bP).names.lookup ("len":Str)=some .globalImplicit:=by rfl
abbrev aU:Stmt:=top 24
theorem dZ:FnScope ["_law_script","_law_head","_law_top","_law_many"] ["_law_script"] (defScope aU):=⟨rfl,rfl,rfl,by decide +kernel,rfl,by decide +kernel,by decide +kernel⟩
theorem nG:Vis (defScope aU) "_law_script":=by decreasing_trivial
theorem jk:Vis (defScope aU) "_law_head":=by decreasing_trivial
theorem nH:Loc (defScope aU) "_law_head":=by first | exact Or.inl rfl | exact Or.inr rfl
theorem nI:Loc (defScope aU) "_law_top":=by first | exact Or.inl rfl | exact Or.inr rfl
theorem nJ:Vis (defScope aU) "_law_many":=by decreasing_trivial
theorem nK:Loc (defScope aU) "_law_many":=by first | exact Or.inl rfl | exact Or.inr rfl
theorem iN:(defScope aU).names.lookup ("_law_cell":Str)=some .globalImplicit:=by rfl
theorem kr:(defScope aU).names.lookup ("range":Str)=some .globalImplicit:=by rfl
abbrev ao:Stmt:=top 25
theorem cq:FnScope ["_law_script","_law_many","_law_head","_law_top","_law_part","_law_line_here","_law_k","_law_cell_here","_law_places"] ["_law_script","_law_many"] (defScope ao):=⟨rfl,rfl,rfl,by decide +kernel,rfl,by decide +kernel,by decide +kernel⟩
theorem gM:Vis (defScope ao) "_law_script":=by decreasing_trivial
theorem jJ:Vis (defScope ao) "_law_many":=by decreasing_trivial
theorem jK:Vis (defScope ao) "_law_head":=by decreasing_trivial
theorem pK:Loc (defScope ao) "_law_head":=by first | exact Or.inl rfl | exact Or.inr rfl
theorem jL:Vis (defScope ao) "_law_top":=by decreasing_trivial
theorem pL:Loc (defScope ao) "_law_top":=by first | exact Or.inl rfl | exact Or.inr rfl
theorem pM:Vis (defScope ao) "_law_part":=by decreasing_trivial
theorem pN:Loc (defScope ao) "_law_part":=by first | exact Or.inl rfl | exact Or.inr rfl
theorem jM:Vis (defScope ao) "_law_line_here":=by decreasing_trivial
theorem pO:Loc (defScope ao) "_law_line_here":=by first | exact Or.inl rfl | exact Or.inr rfl
theorem pP:Vis (defScope ao) "_law_k":=by decreasing_trivial
theorem pQ:Loc (defScope ao) "_law_k":=by first | exact Or.inl rfl | exact Or.inr rfl
theorem jN:Vis (defScope ao) "_law_cell_here":=by decreasing_trivial
theorem pT:Loc (defScope ao) "_law_cell_here":=by first | exact Or.inl rfl | exact Or.inr rfl
theorem pU:Vis (defScope ao) "_law_places":=by decreasing_trivial
theorem pV:Loc (defScope ao) "_law_places":=by first | exact Or.inl rfl | exact Or.inr rfl
theorem cP:(defScope ao).names.lookup ("_law_cell":Str)=some .globalImplicit:=by rfl
theorem gN:(defScope ao).names.lookup ("range":Str)=some .globalImplicit:=by rfl
abbrev cQ:Stmt:=top 26
theorem qO:FnScope ["_law_line_here"] ["_law_line_here"] (defScope cQ):=⟨rfl,rfl,rfl,by decide +kernel,rfl,by decide +kernel,by decide +kernel⟩
theorem pW:Vis (defScope cQ) "_law_line_here":=by decreasing_trivial
def wY (K:PySem.W.Frag):Sp:=fun vs H Q _=>∃ (a:Addr) (ns:List Int) (k:Int),vs=[.ref a,.int k]∧SqL K H a (ns.map V.int)∧0≤k∧k≤1000∧∀ c,Q (.int c) H
def yV (K:PySem.W.Frag):Sp:=fun vs H Q _=>∃ (a:Addr) (ns:List Int),vs=[.ref a]∧SqL K H a (ns.map V.int)∧∀ (l:Addr) (rooms:List Int) (H':Hp),Same H H'→H l=none→H' l=some (.lst (rooms.map V.int))→rooms.length≤6→(∀ x∈rooms,0≤x∧x≤10 ^ 15)→Q (.ref l) H'
structure LnL (m:Nat) (L:List En):Prop where
 l:L.length≤40
 pl:∀ en∈L,en.1.Sublist (List.range m)
 w:∀ en∈L,0≤en.2∧en.2≤10 ^ 15
def AH (K:PySem.W.Frag):Sp:=fun vs H Q _=>∃ (a:Addr) (ns:List Int) (m:Nat),vs=[.ref a,.int m]∧SqL K H a (ns.map V.int)∧m≤6∧∀ (l:Addr) (L:List En) (H':Hp),Same H H'→H l=none→LnAt K H' l L→LnL m L→Q (.ref l) H'
def LnNew (K:PySem.W.Frag) (H0 H:Hp) (l:Addr) (L:List En):Prop:=∃ us,H l=some (.lst us)∧Paired (fun v (e:En)=>∃ t q,v=V.ref t∧SqT K H t [.ref q,.int e.2]∧H q=some (.lst (e.1.map fun j:Nat=>V.int (j:Int)))∧q≠l∧H0 q=none) us L
theorem LnNew.at {K:PySem.W.Frag} {H0 H:Hp} {l:Addr} {L:List En} (h:LnNew K H0 H l L):LnAt K H l L:=by
 obtain⟨us,a,b⟩:=h
 refine⟨us,SqL.of a,Paired.mapP b fun v e=>?_⟩
 rintro⟨t,q,h1,h2,h3,_⟩
 exact⟨t,q,h1,h2,SqL.of h3⟩
def wL (K:PySem.W.Frag):Sp:=fun vs H Q _=>∃ (l:Addr) (L:List En),vs=[.ref l]∧LnAt K H l L∧L.length≤64∧∀ (l':Addr) (H':Hp),Same H H'→H l'=none→LnNew K H H' l' L→Q (.ref l') H'
theorem FG (c:Int):∃ t:Int,[V.int 3,V.int 12,V.int 1000,V.int (10 ^ 15)][(c / 12 % 4).toNat]?=some (.int t)∧0≤t∧t≤10 ^ 15:=by
 have a:=Int.emod_nonneg (c / 12) (show (4:Int)≠0 by decide)
 have b:=Int.emod_lt_of_pos (c / 12) (show (0:Int)<4 by decide)
 have h:(c / 12 % 4).toNat<4:=by omega
 generalize (c / 12 % 4).toNat=n at h
 rcases n with _ | _ | _ | _ | n
 ·exact⟨_,rfl,by decide,by decide⟩
 ·exact⟨_,rfl,by decide,by decide⟩
 ·exact⟨_,rfl,by decide,by decide⟩
 ·exact⟨_,rfl,by decide,by decide⟩
 ·omega
theorem HE (c:Int):∃ n:Nat,[V.int 0,V.int 1,V.int 1,V.int 2,V.int 2,V.int 3,V.int 3,V.int 3,V.int 4,V.int 4,V.int 5,V.int 6][(c % 12).toNat]?=some (.int (n:Int))∧n≤6:=by
 have a:=Int.emod_nonneg c (show (12:Int)≠0 by decide)
 have b:=Int.emod_lt_of_pos c (show (0:Int)<12 by decide)
 have h:(c % 12).toNat<12:=by omega
 generalize (c % 12).toNat=n at h
 rcases n with _ | _ | _ | _ | _ | _ | _ | _ | _ | _ | _ | _ | n
 ·exact⟨0,rfl,by decide⟩
 ·exact⟨1,rfl,by decide⟩
 ·exact⟨1,rfl,by decide⟩
 ·exact⟨2,rfl,by decide⟩
 ·exact⟨2,rfl,by decide⟩
 ·exact⟨3,rfl,by decide⟩
 ·exact⟨3,rfl,by decide⟩
 ·exact⟨3,rfl,by decide⟩
 ·exact⟨4,rfl,by decide⟩
 ·exact⟨4,rfl,by decide⟩
 ·exact⟨5,rfl,by decide⟩
 ·exact⟨6,rfl,by decide⟩
 ·omega
theorem Il {m:Nat} (h:m≤6):∃ n:Nat,[V.int 40,V.int 40,V.int 40,V.int 40,V.int 24,V.int 12,V.int 12][((m:Nat):Int).toNat]?=some (.int (n:Int))∧n≤40:=by
 rw[Int.toNat_natCast]
 rcases m with _ | _ | _ | _ | _ | _ | _ | m
 ·exact⟨40,rfl,by decide⟩
 ·exact⟨40,rfl,by decide⟩
 ·exact⟨40,rfl,by decide⟩
 ·exact⟨40,rfl,by decide⟩
 ·exact⟨24,rfl,by decide⟩
 ·exact⟨12,rfl,by decide⟩
 ·exact⟨12,rfl,by decide⟩
 ·omega
theorem Ir (c x y:Int):[V.int x,V.int y][(c / 48 % 2).toNat]?=some (.int x)∨[V.int x,V.int y][(c / 48 % 2).toNat]?=some (.int y):=by
 have a:=Int.emod_nonneg (c / 48) (show (2:Int)≠0 by decide)
 have b:=Int.emod_lt_of_pos (c / 48) (show (0:Int)<2 by decide)
 have h:(c / 48 % 2).toNat<2:=by omega
 generalize (c / 48 % 2).toNat=n at h
 rcases n with _ | _ | n
 ·exact .inl rfl
 ·exact .inr rfl
 ·omega
theorem IF {s1 s2 s3 s4 tl:TS} {D:Ends} {σ:St} {H:Hp} (h:∀ tl',tl'=tl→lK s1 (lK s2 (lK s3 (lK s4 tl'))) D σ H):lK s1 (lK s2 (lK s3 (lK s4 tl))) D σ H:=h tl rfl
section
variable {P:Program} {w:World} {K:PySem.W.Frag} {mg:Str→Option Value} {base:Heap} {f:Addr} {fd:FuncData}
theorem AM (F:Fun K "_law_cell" "_law_cell" bP f fd) (M:Mg mg):FnOk P w K mg base CX0 1 f fd ["_law_script","_law_k"] (wY K):=by
 refine F.ok ij (fun vs H Q E h=>?_) (fun cdv A outer s H vs Q E hr h=>?_)
 ·obtain⟨a,ns,k,rfl,_⟩:=h
  rfl
 obtain⟨a,ns,k,rfl,hS,k0,k1,q⟩:=h
 refine⟨_,(@ff _ _ _ _ _ (@nS _ _ _ _ _ _ _ _ (@jj _ _ _ _ _ _ _ _ (@Fq _) (@cg _ 1 _ _ rfl cG aq au) (@fZ _ _ _ _ _ _ _ _ _ gJ eU M.m_len nj (@cT _ _ _ _ _ (@cg _ 0 _ _ rfl dj aB aC) (@dB _) (di rfl)) aF aE (di rfl) fD) (iG _)) (@fL _ _ _ (@ic _ _ _ _ (@gf _ _ _ _ _ _ _ (@gK _) (@cg _ 0 _ _ rfl dj aB aC) (@cg _ 1 _ _ rfl cG aq au) (fun _ _=>rfl)))) (@kN _)) (@ff _ _ _ _ _ (@gI _ _ 2 _ _ _ _ ij.nd rfl jI (@dR _ _ _ _) (gG rfl) (.inl rfl)) (@ff _ _ _ _ _ (@nS _ _ _ _ _ _ _ _ (@jj _ _ _ _ _ _ _ _ (@u0 _) (@fZ _ _ _ _ _ _ _ _ _ gJ eU M.m_len nj (@cT _ _ _ _ _ (@cg _ 0 _ _ rfl dj aB aC) (@dB _) (di rfl)) aF aE (di rfl) fD) (@dR _ _ _ _) (iG _)) (@fL _ _ _ (@gI _ _ 2 _ _ _ _ ij.nd rfl jI (@gj _ _ _ _ _ _ _ _ (@ni _) (@gj _ _ _ _ _ _ _ _ (@nk _) (@gf _ _ _ _ _ _ _ (@gK _) (@cg _ 0 _ _ rfl dj aB aC) (@gj _ _ _ _ _ _ _ _ (@nk _) (@gj _ _ _ _ _ _ _ _ (@ni _) (@gj _ _ _ _ _ _ _ _ (@vo _) (@cg _ 1 _ _ rfl cG aq au) (@dR _ _ _ _)) (@dR _ _ _ _)) (@fZ _ _ _ _ _ _ _ _ _ gJ eU M.m_len nj (@cT _ _ _ _ _ (@cg _ 0 _ _ rfl dj aB aC) (@dB _) (di rfl)) aF aE (di rfl) fD)) (fun _ _=>rfl)) (@dR _ _ _ _)) (@dR _ _ _ _)) (gG rfl) (.inl rfl))) (@kN _)) (@fL _ _ _ (@ic _ _ _ _ (@gj _ _ _ _ _ _ _ _ (@nk _) (@gj _ _ _ _ _ _ _ _ (@vo _) (@gj _ _ _ _ _ _ _ _ (@nk _) (@gj _ _ _ _ _ _ _ _ (@vo _) (@cg _ 2 _ _ rfl pJ nE nF) (@dR _ _ _ _)) (@dR _ _ _ _)) (@gj _ _ _ _ _ _ _ _ (@ni _) (@gj _ _ _ _ _ _ _ _ (@ni _) (@gj _ _ _ _ _ _ _ _ (@vo _) (@cg _ 1 _ _ rfl cG aq au) (@cg _ 1 _ _ rfl cG aq au)) (@gj _ _ _ _ _ _ _ _ (@vo _) (@dR _ _ _ _) (@cg _ 1 _ _ rfl cG aq au))) (@dR _ _ _ _))) (@dR _ _ _ _))))))),?_⟩
 trivial
 refine⟨_,.inl hS,?_⟩
 rw[List.length_map]
 by_cases hk:k<(ns.length:Int)
 ·rw[if_pos hk]
  exact⟨_,hS,_,ux k0 hk,q _⟩
 rw[if_neg hk]
 have kk0:=Int.mul_nonneg k0 k0
 have kk1:k * k≤1000 * 1000:=Int.mul_le_mul k1 k1 k0 (by decide)
 have fin:∀ f:Int,0≤f→f≤10 ^ 7→CMulB f 48271∧(0:Int)<2147483647∧CMulB k k∧CMulB 3 k∧CMulB (f * 48271 % 2147483647) (k * k+3 * k+11)∧(0:Int)<1000000007∧Q (.int (f * 48271 % 2147483647 * (k * k+3 * k+11) % 1000000007)) H:=fun f f0 f1=>by
  have m0:=Int.emod_nonneg (f * 48271) (show (2147483647:Int)≠0 by decide)
  have m1:=Int.emod_lt_of_pos (f * 48271) (show (0:Int)<2147483647 by decide)
  exact⟨ze (by omega) (by omega) (by decide) (by decide),by decide,ze (by omega) (by omega) (by omega) (by omega),ze (by decide) (by decide) (by omega) (by omega),ze (by omega) (by omega) (by omega) (by omega),by decide,q _⟩
 refine⟨_,.inl hS,?_⟩
 rw[List.length_map]
 by_cases hz:0<(ns.length:Int)
 ·rw[if_pos hz]
  have j0:=Int.emod_nonneg (k * 7+1) (Int.ne_of_gt hz)
  have j1:=Int.emod_lt_of_pos (k * 7+1) hz
  refine⟨ze (by omega) (by omega) (by decide) (by decide),_,.inl hS,?_,_,hS,?_⟩
  ·rw[List.length_map]
   exact hz
  ·rw[List.length_map]
   refine⟨_,ux j0 j1,_,rfl,by decide,?_⟩
   have e0:=Int.emod_nonneg (ns.getD ((k * 7+1) % (ns.length:Int)).toNat 0) (show (1000003:Int)≠0 by decide)
   have e1:=Int.emod_lt_of_pos (ns.getD ((k * 7+1) % (ns.length:Int)).toNat 0) (show (0:Int)<1000003 by decide)
   exact fin _ (by omega) (by omega)
 ·rw[if_neg hz]
  exact fin 5 (by decide) (by decide)
theorem zU (F:Fun K "_law_rooms" "_law_rooms" aU f fd) (M:Mg mg) (bb:Cal P w K mg base CX0 "_law_cell" 1 ["_law_script","_law_k"] (wY K)):FnOk P w K mg base CX0 2 f fd ["_law_script"] (yV K):=by
 refine F.ok dZ (fun vs H Q E h=>?_) (fun cdv A outer s H vs Q E hr h=>?_)
 ·obtain⟨a,ns,rfl,_⟩:=h
  rfl
 obtain⟨a,ns,rfl,hS,q⟩:=h
 refine⟨_,(@ff _ _ _ _ _ (@gI _ _ 1 _ _ _ _ dZ.nd rfl nH (@gv _ _ _ _ _ _ _ _ _ _ _ bb hr iN (@cT _ _ _ _ _ (@cg _ 0 _ _ rfl nG aB aC) (@cT _ _ _ _ _ (@dR _ _ _ _) (@dB _) (di rfl)) (di rfl)) (by decide) bO (di rfl) (gw rfl fD)) (gG rfl) (.inl rfl)) (@ff _ _ _ _ _ (@gI _ _ 2 _ _ _ _ dZ.nd rfl nI (@vn _ _ _ _ _ _ _ (@cT _ _ _ _ _ (@dR _ _ _ _) (@cT _ _ _ _ _ (@dR _ _ _ _) (@cT _ _ _ _ _ (@dR _ _ _ _) (@cT _ _ _ _ _ (@gj _ _ _ _ _ _ _ _ (@DU _) (@dR _ _ _ _) (@dR _ _ _ _)) (@dB _) (di rfl)) (di rfl)) (di rfl)) (di rfl)) (@gj _ _ _ _ _ _ _ _ (@nk _) (@gj _ _ _ _ _ _ _ _ (@rT _) (@cg _ 1 _ _ rfl jk dX dY) (@dR _ _ _ _)) (@dR _ _ _ _)) (fun _ _=>rfl)) (gG rfl) (.inl rfl)) (@ff _ _ _ _ _ (@gI _ _ 3 _ _ _ _ dZ.nd rfl nK (@vn _ _ _ _ _ _ _ (@cT _ _ _ _ _ (@dR _ _ _ _) (@cT _ _ _ _ _ (@dR _ _ _ _) (@cT _ _ _ _ _ (@dR _ _ _ _) (@cT _ _ _ _ _ (@dR _ _ _ _) (@cT _ _ _ _ _ (@dR _ _ _ _) (@cT _ _ _ _ _ (@dR _ _ _ _) (@cT _ _ _ _ _ (@dR _ _ _ _) (@cT _ _ _ _ _ (@dR _ _ _ _) (@cT _ _ _ _ _ (@dR _ _ _ _) (@cT _ _ _ _ _ (@dR _ _ _ _) (@cT _ _ _ _ _ (@dR _ _ _ _) (@cT _ _ _ _ _ (@dR _ _ _ _) (@dB _) (di rfl)) (di rfl)) (di rfl)) (di rfl)) (di rfl)) (di rfl)) (di rfl)) (di rfl)) (di rfl)) (di rfl)) (di rfl)) (di rfl)) (@gj _ _ _ _ _ _ _ _ (@nk _) (@cg _ 1 _ _ rfl jk dX dY) (@dR _ _ _ _)) (fun _ _=>rfl)) (gG rfl) (.inl rfl)) (@fL _ _ _ (@ic _ _ _ _ (@lB _ _ _ _ _ _ _ _ _ _ _ _ _ _ _ rfl (CompOk.make (N':=["_law_script","_law_top","_law_k"]) (ix:=[0,2]) (nl:=1) (by rfl) (fm1 rfl (fm1 rfl fm0)) (by rfl) (by decide +kernel) rfl (by decide +kernel) rfl (And.intro ⟨rfl,.inl rfl,.inl rfl⟩ (And.intro ⟨rfl,.inl rfl,.inl rfl⟩ True.intro))) (@pA _ _ _ _ _ _ kr M.m_range (@cT _ _ _ _ _ (@cg _ 3 _ _ rfl nJ aP aQ) (@dB _) (di rfl)) (star1' rfl)) (fun _ _ _ _ _=>(@fT _ _ 2 _ (show List.Nodup (["_law_script","_law_top","_law_k"]:List Str) from by decide) rfl (Or.inl rfl) (by first | exact .inl rfl | exact .inr rfl | assumption))) (fun _ _ _ _ _=>(@mH _)) (fun _ _ _ _ _=>(@gj _ _ _ _ _ _ _ _ (@nk _) (@gv _ _ _ _ _ _ _ _ _ _ _ bb hr rfl (@cT _ _ _ _ _ (@pv _ 0 _ _ (by rfl) (by decreasing_trivial) (by decide) (by decide)) (@cT _ _ _ _ _ (@gj _ _ _ _ _ _ _ _ (@ni _) (@dR _ _ _ _) (@pv _ 2 _ _ (by rfl) (by decreasing_trivial) (by decide) (by decide))) (@dB _) (di rfl)) (di rfl)) (by decide) bO (di rfl) (gw rfl fD)) (@gj _ _ _ _ _ _ _ _ (@ni _) (@pv _ 1 _ _ (by rfl) (by decreasing_trivial) (by decide) (by decide)) (@dR _ _ _ _)))) (by intro _; rfl))))))),?_⟩
 trivial
 refine⟨a,ns,0,rfl,hS,by decide,by decide,fun c=>⟨GY,by decide,c,rfl,cdiv (by decide) (by decide),by decide,Int.emod_nonneg _ (by decide),?_⟩⟩
 obtain⟨t,ht,t0,t1⟩:=FG c
 refine⟨_,ht,by decide,c,rfl,by decide,Int.emod_nonneg _ (by decide),?_⟩
 obtain⟨n,hn,n6⟩:=HE c
 refine⟨_,hn,_,rfl,by omega,by omega,fun D hD=>?_⟩
 obtain⟨Pc,hC⟩:∃ Pc:Nat→St→Hp→Prop,Pc=fun i τ H'=>∃ (z:Option V) (rooms:List Int),H' D=some (.lst (rooms.map V.int))∧rooms.length=i∧(∀ x∈rooms,0≤x∧x≤10 ^ 15)∧Same H H'∧τ=[some (.ref a),some (.int t),z]:=⟨_,rfl⟩
 refine uC Pc ?_ ?_ ?_
 ·rw[hC]
  exact⟨_,[],er,rfl,(fun x z=>by cases z),fS hD _,rfl⟩
 ·intro i τ H' R' hi h next
  rw[hC] at h
  obtain⟨z,rooms,d1,lr,b,e,rfl⟩:=h
  trivial
  refine⟨a,ns,_,rfl,e.seq hS,by omega,by omega,fun c2=>⟨c2,rfl,by omega,_,d1,?_,next _ _ ?_⟩⟩
  ·rw[List.length_map]
   exact Nat.lt_of_lt_of_le (m:=1000) (by omega) (by decide)
  ·rw[hC]
   refine⟨_,rooms++[c2 % (t+1)],?_,by rw[List.length_append,lr]; rfl,fun x hx=>?_,gu e hD _,rfl⟩
   ·rw[er,List.map_append]
    rfl
   ·rcases List.mem_append.mp hx with hx | hx
    ·exact b x hx
    ·rw[List.mem_singleton.mp hx]
     have:=Int.emod_nonneg c2 (show t+1≠0 by omega)
     have:=Int.emod_lt_of_pos c2 (show 0<t+1 by omega)
     omega
 ·intro τ H' h
  rw[hC] at h
  obtain⟨z,rooms,d1,lr,b,e,rfl⟩:=h
  exact q D rooms H' e hD d1 (by omega) b
theorem A5 (F:Fun K "_law_line" "_law_line" ao f fd) (M:Mg mg) (bb:Cal P w K mg base CX0 "_law_cell" 1 ["_law_script","_law_k"] (wY K)):FnOk P w K mg base CX0 2 f fd ["_law_script","_law_many"] (AH K):=by
 refine F.ok cq (fun vs H Q E h=>?_) (fun cdv A outer s H vs Q E hr h=>?_)
 ·obtain⟨a,ns,m,rfl,_⟩:=h
  rfl
 obtain⟨a,ns,m,rfl,hS,m6,q⟩:=h
 refine⟨_,(@ff _ _ _ _ _ (@gI _ _ 2 _ _ _ _ cq.nd rfl pK (@gv _ _ _ _ _ _ _ _ _ _ _ bb hr cP (@cT _ _ _ _ _ (@cg _ 0 _ _ rfl gM aB aC) (@cT _ _ _ _ _ (@dR _ _ _ _) (@dB _) (di rfl)) (di rfl)) (by decide) bO (di rfl) (gw rfl fD)) (gG rfl) (.inl rfl)) (@ff _ _ _ _ _ (@gI _ _ 3 _ _ _ _ cq.nd rfl pL (@vn _ _ _ _ _ _ _ (@cT _ _ _ _ _ (@dR _ _ _ _) (@cT _ _ _ _ _ (@dR _ _ _ _) (@cT _ _ _ _ _ (@dR _ _ _ _) (@cT _ _ _ _ _ (@gj _ _ _ _ _ _ _ _ (@DU _) (@dR _ _ _ _) (@dR _ _ _ _)) (@dB _) (di rfl)) (di rfl)) (di rfl)) (di rfl)) (@gj _ _ _ _ _ _ _ _ (@nk _) (@gj _ _ _ _ _ _ _ _ (@rT _) (@cg _ 2 _ _ rfl jK dX dY) (@dR _ _ _ _)) (@dR _ _ _ _)) (fun _ _=>rfl)) (gG rfl) (.inl rfl)) (@ff _ _ _ _ _ (@gI _ _ 4 _ _ _ _ cq.nd rfl pN (@vn _ _ _ _ _ _ _ (@cT _ _ _ _ _ (@gj _ _ _ _ _ _ _ _ (@ni _) (@cg _ 3 _ _ rfl jL kz kC) (@dR _ _ _ _)) (@cT _ _ _ _ _ (@gj _ _ _ _ _ _ _ _ (@ni _) (@gj _ _ _ _ _ _ _ _ (@rT _) (@cg _ 3 _ _ rfl jL kz kC) (@dR _ _ _ _)) (@dR _ _ _ _)) (@dB _) (di rfl)) (di rfl)) (@gj _ _ _ _ _ _ _ _ (@nk _) (@gj _ _ _ _ _ _ _ _ (@rT _) (@cg _ 2 _ _ rfl jK dX dY) (@dR _ _ _ _)) (@dR _ _ _ _)) (fun _ _=>rfl)) (gG rfl) (.inl rfl)) (@ff _ _ _ _ _ (@gI _ _ 5 _ _ _ _ cq.nd rfl pO (@rC _ _ _ _ (@dB _)) (gG rfl) (.inl rfl)) (@ff _ _ _ _ _ (@rB _ _ _ _ _ _ _ _ PassesOwn.never rfl (@pA _ _ _ _ _ _ gN M.m_range (@cT _ _ _ _ _ (@gj _ _ _ _ _ _ _ _ (@nk _) (@gv _ _ _ _ _ _ _ _ _ _ _ bb hr cP (@cT _ _ _ _ _ (@cg _ 0 _ _ rfl gM aB aC) (@cT _ _ _ _ _ (@dR _ _ _ _) (@dB _) (di rfl)) (di rfl)) (by decide) bO (di rfl) (gw rfl fD)) (@gj _ _ _ _ _ _ _ _ (@ni _) (@vn _ _ _ _ _ _ _ (@cT _ _ _ _ _ (@dR _ _ _ _) (@cT _ _ _ _ _ (@dR _ _ _ _) (@cT _ _ _ _ _ (@dR _ _ _ _) (@cT _ _ _ _ _ (@dR _ _ _ _) (@cT _ _ _ _ _ (@dR _ _ _ _) (@cT _ _ _ _ _ (@dR _ _ _ _) (@cT _ _ _ _ _ (@dR _ _ _ _) (@dB _) (di rfl)) (di rfl)) (di rfl)) (di rfl)) (di rfl)) (di rfl)) (di rfl)) (@cg _ 1 _ _ rfl jJ aP aQ) (fun _ _=>rfl)) (@dR _ _ _ _))) (@dB _) (di rfl)) (star1' rfl)) (@fT _ _ 6 _ cq.nd rfl pQ (.inl rfl)) (@ff _ _ _ _ _ (@gI _ _ 7 _ _ _ _ cq.nd rfl pT (@gv _ _ _ _ _ _ _ _ _ _ _ bb hr cP (@cT _ _ _ _ _ (@cg _ 0 _ _ rfl gM aB aC) (@cT _ _ _ _ _ (@gj _ _ _ _ _ _ _ _ (@ni _) (@dR _ _ _ _) (@cg _ 6 _ _ rfl pP aq au)) (@dB _) (di rfl)) (di rfl)) (by decide) bO (di rfl) (gw rfl fD)) (gG rfl) (.inl rfl)) (@ff _ _ _ _ _ (@uu _ _ _ _ _ _ _ _ _ _ _ _ _ _ _ 8 _ _ _ cq.nd rfl pV rfl (CompOk.make (N':=["_law_cell_here","_law_place"]) (ix:=[7]) (nl:=1) (by rfl) (fm1 rfl fm0) (by rfl) (by decide +kernel) rfl (by decide +kernel) rfl (And.intro ⟨rfl,.inl rfl,.inl rfl⟩ True.intro)) (@pA _ _ _ _ _ _ gN M.m_range (@cT _ _ _ _ _ (@cg _ 1 _ _ rfl jJ aP aQ) (@dB _) (di rfl)) (star1' rfl)) (fun _ _ _ _ _=>(@fT _ _ 1 _ (show List.Nodup (["_law_cell_here","_law_place"]:List Str) from by decide) rfl (Or.inl rfl) (by first | exact .inl rfl | exact .inr rfl | assumption))) (fun _ _ _ _ _=>(@uZ _ _ _ (@jj _ _ _ _ _ _ _ _ (@t9 _) (@gj _ _ _ _ _ _ _ _ yi (@gj _ _ _ _ _ _ _ _ DM (@gj _ _ _ _ _ _ _ _ (@nk _) (@pv _ 0 _ _ (by rfl) (by decreasing_trivial) (by decide) (by decide)) (@dR _ _ _ _)) (@pv _ 1 _ _ (by rfl) (by decreasing_trivial) (by decide) (by decide))) (@dR _ _ _ _)) (@dR _ _ _ _) (iG _)))) (fun _ _ _ _ _=>(@pv _ 1 _ _ (by rfl) (by decreasing_trivial) (by decide) (by decide))) (by rfl) (by intro _; rfl) (by first | exact .inl rfl | exact .inr rfl | assumption)) (@fL _ _ _ (@tM _ _ _ _ (@uS _ _ _ _ _ _ _ _ _ _ _ _ PySem.F.plainAttrs_list PySem.F.slot_list_append PySem.F.type_list_append pD (@cg _ 5 _ _ rfl jM aa ae) (@cT _ _ _ _ _ (@qt _ _ _ _ _ (@cT _ _ _ _ _ (@cg _ 8 _ _ rfl pU eQ eR) (@cT _ _ _ _ _ (@gj _ _ _ _ _ _ _ _ (@nk _) (@gj _ _ _ _ _ _ _ _ (@ni _) (@gj _ _ _ _ _ _ _ _ (@HV _) (@gj _ _ _ _ _ _ _ _ (@rT _) (@cg _ 7 _ _ rfl jN az aA) (@dR _ _ _ _)) (@dR _ _ _ _)) (@cg _ 7 _ _ rfl jN az aA)) (@cg _ 4 _ _ rfl pM pF pG)) (@dB _) (di rfl)) (di rfl))) (@dB _) (di rfl)) (by rfl) (by rfl) (by rfl) (by rfl) (by rfl)) (gG rfl))))) (by intro _; rfl)) (@fL _ _ _ (@ic _ _ _ _ (@cg _ 5 _ _ rfl jM aa ae)))))))),?_⟩
 refine IF fun tl htl=>?_
 have tail:∀ (H':Hp) (p:Addr) (v1 v2:V) (pt:Int),Same H H'→H p=none→H' p=some (.lst [])→0<pt→pt≤10 ^ 15+1→tl { nx:=fun _ H'=>Q .non H',rt:=Q } [some (.ref a),some (.int m),some v1,some v2,some (.int pt),some (.ref p),none,none,none] H':=by
  intro H1 p v1 v2 pt S1 hp d1 p0 p1
  obtain⟨mo,hn,m40⟩:=Il m6
  rw[htl]
  trivial
  refine⟨a,ns,7,rfl,S1.seq hS,by decide,by decide,fun c=>⟨by decide,by omega,_,hn,_,rfl,c,rfl,by omega,?_⟩⟩
  have c0:=Int.emod_nonneg c (show (mo:Int)+1≠0 by omega)
  have c1:=Int.emod_lt_of_pos c (show 0<(mo:Int)+1 by omega)
  refine⟨by omega,by omega,?_⟩
  obtain⟨Pv,hP⟩:∃ Pv:Nat→St→Hp→Prop,Pv=fun i σ H'=>∃ (us:List V) (L:List En) (z1 z2 z3:Option V),H' p=some (.lst us)∧Paired (fun v (e:En)=>∃ t q,v=V.ref t∧SqT K H' t [.ref q,.int e.2]∧H' q=some (.lst (e.1.map fun j:Nat=>V.int (j:Int)))∧q≠p) us L∧L.length=i∧(∀ en∈L,en.1.Sublist (List.range m))∧(∀ en∈L,0≤en.2∧en.2≤10 ^ 15)∧Same H H'∧σ=[some (.ref a),some (.int m),some v1,some v2,some (.int pt),some (.ref p),z1,z2,z3]:=⟨_,rfl⟩
  refine ua Pv ?_ ?_ ?_
  ·rw[hP]
   exact⟨[],[],_,_,_,d1,.nil,rfl,(fun en z=>by cases z),(fun en z=>by cases z),S1,rfl⟩
  ·intro i σ H3 hi h
   rw[hP] at h
   obtain⟨us,L,z1,z2,z3,d3,pr,lL,sb,wb,e3,rfl⟩:=h
   have lus:us.length=i:=by rw[Paired.length pr,lL]
   trivial
   refine⟨a,ns,_,rfl,e3.seq hS,by omega,by omega,fun c2=>⟨by omega,by omega,fun D hD=>?_⟩⟩
   have Dp:D≠p:=fun z=>by rw[z,d3] at hD; cases hD
   obtain⟨fp,hfp⟩:∃ fp:Nat→Bool,fp=fun j=>decide (Builtin.bitAnd (c2 % 64 / 2 ^ j) 1=1):=⟨_,rfl⟩
   obtain⟨Pc,hC⟩:∃ Pc:Nat→St→Hp→Prop,Pc=fun j τ H'=>∃ (z:Option V),H' D=some (.lst (((List.range j).filter fp).map fun j:Nat=>V.int (j:Int)))∧Same H3 H'∧τ=[some (.int c2),z]:=⟨_,rfl⟩
   refine uC Pc ?_ ?_ ?_
   ·rw[hC]
    exact⟨_,er,fS hD _,rfl⟩
   ·intro j τ H' R' hj h next
    rw[hC] at h
    obtain⟨z,d4,e4,rfl⟩:=h
    have ep:(List.range (j+1)).filter fp=(List.range j).filter fp++[j].filter fp:=by
     rw[List.range_succ,List.filter_append]
    have ll:((List.range j).filter fp).length≤j:=by
     refine Nat.le_trans (List.length_filter_le ..) ?_
     rw[List.length_range]
     exact Nat.le_refl _
    trivial
    rw[show (0+(j:Int))=((j:Nat):Int) by omega,Int.toNat_natCast]
    refine⟨by decide,by omega,?_⟩
    by_cases hz:Builtin.bitAnd (c2 % 64 / 2 ^ j) 1=1
    ·rw[if_pos hz]
     refine⟨_,d4,by rw[List.length_map]; exact Nat.lt_of_lt_of_le (m:=1000) (by omega) (by decide),next _ _ ?_⟩
     rw[hC]
     refine⟨_,?_,gu e4 hD _,rfl⟩
     rw[er,ep,List.filter_cons_of_pos (by rw[hfp]; exact decide_eq_true hz),List.filter_nil,List.map_append]
     rfl
    ·rw[if_neg hz]
     refine next _ _ ?_
     rw[hC]
     refine⟨_,?_,e4,rfl⟩
     rw[ep,List.filter_cons_of_neg (by rw[hfp]; simpa using hz),List.filter_nil,List.append_nil]
     exact d4
   intro τ H4 h
   rw[hC] at h
   obtain⟨z,d4,e4,rfl⟩:=h
   rw[Int.toNat_natCast] at d4
   have w0:=Int.emod_nonneg (c2 / 64 * 7+c2) (show pt≠0 by omega)
   have w1:=Int.emod_lt_of_pos (c2 / 64 * 7+c2) p0
   refine⟨.inl ⟨rfl,_,SqL.of (e4 _ _ d3)⟩,c2,rfl,cdiv (by decide) (by decide),.inr (by decide),c2,rfl,p0,by decide,fun t ht=>?_⟩
   obtain⟨H5,g5,S5,T5⟩:=ji (K:=K) ht [.ref D,.int ((c2 / 64 * 7+c2) % pt)]
   rw[← g5]
   clear g5
   have e35:=e4.trans S5
   have d5:=e35 _ _ d3
   refine⟨_,d5,Nat.lt_of_lt_of_le (m:=1000) (by omega) (by decide),?_⟩
   rw[hP]
   refine⟨us++[.ref t],L++[((List.range m).filter fp,(c2 / 64 * 7+c2) % pt)],_,_,_,er,?_,by rw[List.length_append,lL]; rfl,fun en hen=>?_,fun en hen=>?_,gu (e3.trans e35) hp _,rfl⟩
   ·have kt:∀ (b:Addr) (xs:List V),SqT K H5 b xs→SqT K (upd H5 p (.lst (us++[.ref t]))) b xs:=fun b xs hb=>zb d5 (fun ys z=>by cases z) (fun _ _ z=>by cases z) (fun b hb=>fj hb) hb
    refine vd ?_ (Paired.mapP pr fun v row=>?_)
    ·exact⟨t,D,rfl,kt _ _ T5,by rw[fj Dp]; exact S5 _ _ d4,Dp⟩
    ·rintro⟨b,q',h1,h2,h3,h4⟩
     exact⟨b,q',h1,kt _ _ (Same.tup e35 h2),by rw[fj h4]; exact e35 _ _ h3,h4⟩
   ·rcases List.mem_append.mp hen with hen | hen
    ·exact sb en hen
    ·rw[List.mem_singleton.mp hen]
     exact List.filter_sublist
   ·rcases List.mem_append.mp hen with hen | hen
    ·exact wb en hen
    ·rw[List.mem_singleton.mp hen]
     exact⟨w0,by omega⟩
  ·intro σ H3 h
   rw[hP] at h
   obtain⟨us,L,z1,z2,z3,d3,pr,lL,sb,wb,e3,rfl⟩:=h
   trivial
   refine q p L H3 e3 hp ⟨us,SqL.of d3,Paired.mapP pr fun v e=>?_⟩ ⟨by omega,sb,wb⟩
   rintro⟨b,q',h1,h2,h3,h4⟩
   exact⟨b,q',h1,h2,SqL.of h3⟩
 trivial
 refine⟨a,ns,0,rfl,hS,by decide,by decide,fun c=>⟨GY,by decide,c,rfl,cdiv (by decide) (by decide),by decide,Int.emod_nonneg _ (by decide),?_⟩⟩
 obtain⟨t,ht,t0,t1⟩:=FG c
 refine⟨_,ht,t,rfl,t,rfl,cdiv (by decide) (by decide),by decide,c,rfl,cdiv (by decide) (by decide),by decide,Int.emod_nonneg _ (by decide),?_⟩
 obtain⟨pt,hpt,p0,p1⟩:∃ pt:Int,[V.int (t+1),V.int (t / 3+2)][(c / 48 % 2).toNat]?=some (.int pt)∧0<pt∧pt≤10 ^ 15+1:=by
  rcases Ir c (t+1) (t / 3+2) with h | h
  ·exact⟨_,h,by omega,by omega⟩
  ·exact⟨_,h,by omega,by omega⟩
 refine⟨_,hpt,by decide,fun p hp=>?_⟩
 exact tail _ p _ _ pt (fS hp _) hp er p0 p1
theorem Bp (F:Fun K "_law_copy" "_law_copy" cQ f fd) (M:Mg mg):FnOk P w K mg base CX0 1 f fd ["_law_line_here"] (wL K):=by
 refine F.ok qO (fun vs H Q E h=>?_) (fun cdv A outer s H vs Q E hr h=>?_)
 ·obtain⟨l,L,rfl,_⟩:=h
  rfl
 obtain⟨l,L,rfl,hL,l64,q⟩:=h
 refine⟨_,(@fL _ _ _ (@ic _ _ _ _ (@lB _ _ _ _ _ _ _ _ _ _ _ _ _ _ _ rfl (CompOk.make (N':=["_law_places","_law_weight"]) (ix:=[]) (nl:=2) (by rfl) fm0 (by rfl) (by decide +kernel) rfl (by decide +kernel) rfl True.intro) (@m8 _ _ _ _ (@cg _ 0 _ _ rfl pW aa ae)) (fun _ _ _ _ _=>(@uI _ K _ _ 2 _ _ rfl rfl (@ia _ _ _ _ _ (@fT _ _ 0 _ (show List.Nodup (["_law_places","_law_weight"]:List Str) from by decide) rfl (Or.inl rfl) (by first | exact .inl rfl | exact .inr rfl | assumption)) (@ia _ _ _ _ _ (@fT _ _ 1 _ (show List.Nodup (["_law_places","_law_weight"]:List Str) from by decide) rfl (Or.inl rfl) (by first | exact .inl rfl | exact .inr rfl | assumption)) (@pB _) (by rfl)) (by rfl)) (by rfl) (by rfl))) (fun _ _ _ _ _=>(@mH _)) (fun _ _ _ _ _=>(@qt _ _ _ _ _ (@cT _ _ _ _ _ (@nt _ _ _ _ _ _ _ _ _ (xF (K:=K) rfl) rfl M.m_list r8 (@cT _ _ _ _ _ (@pv _ 0 _ _ (by rfl) (by decreasing_trivial) (by decide) (by decide)) (@dB _) (di rfl)) bq bo (di rfl) fD) (@cT _ _ _ _ _ (@pv _ 1 _ _ (by rfl) (by decreasing_trivial) (by decide) (by decide)) (@dB _) (di rfl)) (di rfl)))) (by intro _; rfl)))),?_⟩
 trivial
 obtain⟨us,hus,hpa⟩:=hL
 have lus:us.length=L.length:=Paired.length hpa
 refine⟨⟨_,hus⟩,fun D hD=>?_⟩
 obtain⟨Pc,hC⟩:∃ Pc:Nat→St→Hp→Prop,Pc=fun i τ H'=>∃ (ws:List V) (y z:Option V),H' D=some (.lst ws)∧Paired (fun v (e:En)=>∃ t q,v=V.ref t∧SqT K H' t [.ref q,.int e.2]∧H' q=some (.lst (e.1.map fun j:Nat=>V.int (j:Int)))∧q≠D∧H q=none) ws (L.take i)∧Same H H'∧τ=[y,z]:=⟨_,rfl⟩
 refine mJ us Pc ?_ (fun i τ H' _ h=>by rw[hC] at h; obtain⟨_,_,_,_,_,e,_⟩:=h; exact e.seq hus) ?_ ?_
 ·rw[hC]
  exact⟨[],_,_,er,.nil,fS hD _,rfl⟩
 ·intro i x τ H' R' hx h next
  rw[hC] at h
  obtain⟨ws,y,z,d1,pr,e,rfl⟩:=h
  have li:i<us.length:=(List.getElem?_eq_some_iff.mp hx).1
  have hen:L[i]?=some (L[i]'(by omega)):=List.getElem?_eq_getElem (by omega)
  generalize L[i]'(by omega)=en at hen
  obtain⟨t,q',a1,a2,a3⟩:=sH hpa hen
  rw[hx] at a1
  cases a1
  have lw:ws.length≤i:=by
   rw[Paired.length pr,List.length_take]
   omega
  trivial
  refine⟨_,Same.tup e a2,rfl,?_⟩
  trivial
  refine⟨_,e.seq a3,fun l2 hl2=>⟨by decide,fun t2 ht2=>?_⟩⟩
  have l2D:l2≠D:=fun z=>by rw[z,d1] at hl2; cases hl2
  obtain⟨H4,g4,S4,T4⟩:∃ H4,H4=upd H' l2 (.lst (en.1.map fun j:Nat=>V.int (j:Int)))∧Same H' H4∧H4 l2=some (.lst (en.1.map fun j:Nat=>V.int (j:Int))):=⟨_,rfl,fS hl2 _,er⟩
  rw[← g4] at ht2 ⊢
  clear g4
  obtain⟨H5,g5,S5,T5⟩:=ji (K:=K) ht2 [.ref l2,.int en.2]
  rw[← g5]
  clear g5
  have e45:=S4.trans S5
  have d5:=e45 _ _ d1
  refine⟨_,d5,Nat.lt_of_lt_of_le (m:=1000) (by omega) (by decide),next _ _ ?_⟩
  rw[hC]
  refine⟨ws++[.ref t2],_,_,er,?_,gu (e.trans e45) hD _,rfl⟩
  have kt:∀ (b:Addr) (xs:List V),SqT K H5 b xs→SqT K (upd H5 D (.lst (ws++[.ref t2]))) b xs:=fun b xs hb=>zb d5 (fun ys z=>by cases z) (fun _ _ z=>by cases z) (fun b hb=>fj hb) hb
  rw[List.take_add_one,hen]
  refine vd ?_ (Paired.mapP pr fun v row=>?_)
  ·exact⟨t2,l2,rfl,kt _ _ T5,by rw[fj l2D]; exact S5 _ _ T4,l2D,none_of e hl2⟩
  ·rintro⟨b,q',h1,h2,h3,h4⟩
   exact⟨b,q',h1,kt _ _ (Same.tup e45 h2),by rw[fj h4.1]; exact e45 _ _ h3,h4⟩
 ·intro τ H' h
  rw[hC] at h
  obtain⟨ws,y,z,d1,pr,e,rfl⟩:=h
  rw[lus,List.take_length] at pr
  exact q D H' e hD ⟨ws,d1,pr⟩
end
end MyJ
namespace MyK
open My MyB MyC MyD MyE MyF MyG MyS MyI MyJ PySem L2
def kW (s:Nat) (j:Nat):Bool:=decide (Builtin.bitAnd ((s:Int) / 2 ^ j) 1=1)
def tw (j:Nat):Int:=([1,2,4,8,16,32]:List Int).getD j 0
def xR (l:List Nat):Int:=(l.map tw).sum
def subs:List Nat→List (List Nat)
 | []=>[[]]
 | x::xs=>subs xs++(subs xs).map (x::·)
theorem Ey {l xs:List Nat} (h:l.Sublist xs):l∈subs xs:=by
 induction h with
 | slnil=>exact List.mem_singleton.mpr rfl
 | cons a h ih=>exact List.mem_append_left _ ih
 | cons_cons a h ih=>exact List.mem_append_right _ (List.mem_map.mpr ⟨_,ih,rfl⟩)
theorem ED:∀ l∈subs (List.range 6),∀ s∈List.range 64,decide (Builtin.bitAnd (s:Int) (xR l)=xR l)=l.all (kW s):=by decide +kernel
def G8 (m:Nat) (b:List Bool):Nat:=((List.range m).map fun j=>if b.getD j false=true then 2 ^ j else 0).sum
theorem EU:∀ m∈List.range 7,∀ b0 b1 b2 b3 b4 b5:Bool,G8 m [b0,b1,b2,b3,b4,b5]<2 ^ m∧∀ j∈List.range m,kW (G8 m [b0,b1,b2,b3,b4,b5]) j=[b0,b1,b2,b3,b4,b5].getD j false:=by decide +kernel
theorem GU {m:Nat} (h:m≤6) (S:Nat→Bool):∃ s,s<2 ^ m∧∀ j,j<m→kW s j=S j:=by
 obtain⟨a,b⟩:=EU m (List.mem_range.mpr (by omega)) (S 0) (S 1) (S 2) (S 3) (S 4) (S 5)
 refine⟨_,a,fun j hj=>(b j (List.mem_range.mpr hj)).trans ?_⟩
 have h6:j<6:=by omega
 rcases j with _ | _ | _ | _ | _ | _ | j
 ·rfl
 ·rfl
 ·rfl
 ·rfl
 ·rfl
 ·rfl
 ·omega
theorem ye {m:Nat} {L:List En} (h:LnL m L) {e:Nat} (he:e<L.length):(pl L e).Sublist (List.range m):=by
 unfold pl
 rw[My.getD_at he]
 exact h.pl _ (List.getElem_mem he)
theorem BC {m s:Nat} {L:List En} (h:LnL m L) (m6:m≤6) (hs:s<64) {e:Nat} (he:e<L.length):Builtin.bitAnd (s:Int) (xR (pl L e))=xR (pl L e)↔(pl L e).all (kW s)=true:=by
 have:=ED _ (Ey ((ye h he).trans (List.range_sublist.mpr m6))) s (List.mem_range.mpr hs)
 rw[← this]
 exact decide_eq_true_iff.symm
structure Most (rooms:List Int) (L:List En) (G:List Int):Prop where
 len:G.length=L.length
 nn:∀ e,e<L.length→0≤G.getD e 0
 le:∀ e,e<L.length→G.getD e 0≤wt L e
 loose:∀ S k,k≤L.length→sumG L (fun e=>G.getD e 0) S k≤roomS rooms rooms.length S
 tight:∀ e,e<L.length→G.getD e 0<wt L e→∃ S:Nat→Bool,(pl L e).all S=true∧roomS rooms rooms.length S=sumG L (fun e=>G.getD e 0) S (e+1)
theorem xD {rooms:List Int} {m:Nat} {S S':Nat→Bool} (h:∀ j,j<m→S j=S' j):roomS rooms m S=roomS rooms m S':=by
 unfold roomS
 exact jH fun j hj=>by rw[h j hj]
theorem all_congr {l:List Nat} {S S':Nat→Bool} (h:∀ j∈l,S j=S' j):l.all S=l.all S':=by
 induction l with
 | nil=>rfl
 | cons x xs ih=>rw[List.all_cons,List.all_cons,h x List.mem_cons_self,ih fun j hj=>h j (List.mem_cons_of_mem _ hj)]
theorem xK {L:List En} {G:Nat→Int} {S S':Nat→Bool} {k:Nat} (h:∀ e,e<k→∀ j∈pl L e,S j=S' j):sumG L G S k=sumG L G S' k:=by
 unfold sumG
 exact jH fun e he=>by rw[all_congr (h e he)]
theorem As {rooms:List Int} {L:List En} {G G':List Int} (a:Most rooms L G) (b:Most rooms L G'):G=G':=by
 have key:∀ {G G':List Int},Most rooms L G→Most rooms L G'→∀ e,e<L.length→(∀ e',e'<e→G.getD e' 0=G'.getD e' 0)→¬ G.getD e 0<G'.getD e 0:=fun {G G'} a b e he ih lt=>by
  obtain⟨S,h1,h2⟩:=a.tight e he (Int.lt_of_lt_of_le lt (b.le e he))
  have h3:=b.loose S (e+1) (by omega)
  have e1:sumG L (fun e=>G.getD e 0) S (e+1)=sumG L (fun e=>G.getD e 0) S e+G.getD e 0:=by
   unfold sumG
   rw[iW,if_pos h1]
  have e2:sumG L (fun e=>G'.getD e 0) S (e+1)=sumG L (fun e=>G'.getD e 0) S e+G'.getD e 0:=by
   unfold sumG
   rw[iW,if_pos h1]
  have e3:sumG L (fun e=>G.getD e 0) S e=sumG L (fun e=>G'.getD e 0) S e:=uQ fun e' he'=>ih e' he'
  omega
 have all:∀ k,k≤L.length→∀ e,e<k→G.getD e 0=G'.getD e 0:=by
  intro k
  induction k with
  | zero=>intro _ e he; omega
  | succ k ih =>
   intro hk e he
   have ih':=ih (by omega)
   by_cases z:e<k
   ·exact ih' e z
   ·have ee:e=k:=by omega
    subst ee
    have x:=key a b e (by omega) ih'
    have y:=key b a e (by omega) fun e' h'=>(ih' e' h').symm
    omega
 refine List.ext_getElem (by rw[a.len,b.len]) fun e h1 h2=>?_
 have:=all _ (Nat.le_refl _) e (by rw[← a.len]; exact h1)
 rwa [My.getD_at h1,My.getD_at h2] at this
theorem sum_at {F:List (List Int)} {e:Nat}:(F.map List.sum).getD e 0=m9 F e:=by
 unfold m9
 rw[List.getD,List.getElem?_map,List.getD]
 cases F[e]? <;> rfl
theorem BV {K:PySem.W.Frag} {rooms:List Int} {L:List En} {F:List (List Int)} {lf:List Int} {cs:List V} {H:Hp} {ok:Addr→Prop} (flo:Flo L L.length rooms.length rooms F lf) (lc:cs.length=L.length) (h:∀ (e:Nat) (v:V),cs[e]?=some v→CutAt L rooms.length rooms F lf H ok e v):Most rooms L (F.map List.sum):=by
 have ef:(fun e=>(F.map List.sum).getD e 0)=m9 F:=by
  funext e
  exact sum_at
 have cut:∀ e,e<L.length→∃ v,CutAt L rooms.length rooms F lf H ok e v:=fun e he=>⟨_,h e _ (List.getElem?_eq_getElem (by omega))⟩
 refine⟨by rw[List.length_map,flo.rows.1],fun e he=>?_,fun e he=>?_,fun S k hk=>?_,fun e he hlt=>?_⟩
 ·rw[sum_at,xj flo.rows he]
  exact xy fun j _=>flo.nn e j
 ·obtain⟨v,hv⟩:=cut e he
  rw[sum_at]
  rcases hv with ⟨_,z⟩ | ⟨c,ns,_,_,_,z,_⟩
  ·omega
  ·omega
 ·rw[ef]
  exact MyS.loose flo S k hk
 ·obtain⟨v,hv⟩:=cut e he
  rw[sum_at] at hlt
  rcases hv with ⟨_,z⟩ | ⟨c,ns,_,_,_,_,_,_,_,z1,z2⟩
  ·omega
  ·refine⟨inS ns,?_,?_⟩
   ·rw[List.all_eq_true]
    intro j hj
    exact decide_eq_true (z1 j hj)
   ·rw[ef]
    exact z2
theorem Ii {m:Nat} {L:List En} (h:LnL m L) (m6:m≤6):LnOk m L:=by
 have len:∀ en∈L,en.1.length≤m:=fun en hen=>by
  have:=(h.pl en hen).length_le
  rwa [List.length_range] at this
 refine⟨by have:=h.l; omega,fun en hen=>⟨by have:=len en hen; omega,fun o ho=>List.mem_range.mp ((h.pl en hen).subset ho)⟩,fun en hen=>(h.pl en hen).nodup List.nodup_range,by omega,fun en hen=>(h.w en hen).1⟩
end MyK
namespace MyT
open My MyB MyC MyD MyE MyF MyG MyS MyI MyJ MyK PySem L2
def top (i:Nat):Stmt:=PySem.Challenge.pw_tariffgate_k67_whole_no_other.main.body.getD i (.Pass ⟨0,0,0,0⟩)
theorem cS:(("thing":Str) == ("__debug__":Str))=false:=by decide
theorem cU:(("thing":Str) == ("__classdict__":Str))=false:=by decide
theorem tK:(("many":Str) == ("__debug__":Str))=false:=by decide
theorem tL:(("many":Str) == ("__classdict__":Str))=false:=by decide
theorem gO:(("grant":Str) == ("__debug__":Str))=false:=by decide
theorem gP:(("grant":Str) == ("__classdict__":Str))=false:=by decide
theorem il:(("is_whole":Str) == ("__debug__":Str))=false:=by decide
theorem mM:(("some":Str) == ("__debug__":Str))=false:=by decide
theorem mO:(("some":Str) == ("__classdict__":Str))=false:=by decide
theorem dF:(("all":Str) == ("__debug__":Str))=false:=by decide
theorem dG:("all":Str)≠"__name__":=by decide
theorem t6:(("set":Str) == ("__debug__":Str))=false:=by decide
theorem t7:("set":Str)≠"__name__":=by decide
theorem sY:(("tuple":Str) == ("__debug__":Str))=false:=by decide
theorem sZ:("tuple":Str)≠"__name__":=by decide
theorem dM:(("route":Str) == ("__debug__":Str))=false:=by decide
theorem dN:(("route":Str) == ("__classdict__":Str))=false:=by decide
theorem fN:(("are_places":Str) == ("__debug__":Str))=false:=by decide
theorem rR:(("is_pair":Str) == ("__debug__":Str))=false:=by decide
abbrev bW:Stmt:=top 1
theorem qP:FnScope ["thing"] ["thing"] (defScope bW):=⟨rfl,rfl,rfl,by decide +kernel,rfl,by decide +kernel,by decide +kernel⟩
theorem jO:Vis (defScope bW) "thing":=by decreasing_trivial
theorem dP:(defScope bW).names.lookup ("isinstance":Str)=some .globalImplicit:=by rfl
theorem mP:(defScope bW).names.lookup ("int":Str)=some .globalImplicit:=by rfl
theorem lC:(defScope bW).names.lookup ("bool":Str)=some .globalImplicit:=by rfl
abbrev bu:Stmt:=top 3
theorem nN:FnScope ["thing","many"] ["thing","many"] (defScope bu):=⟨rfl,rfl,rfl,by decide +kernel,rfl,by decide +kernel,by decide +kernel⟩
theorem iO:Vis (defScope bu) "thing":=by decreasing_trivial
theorem mQ:Vis (defScope bu) "many":=by decreasing_trivial
theorem g9:(defScope bu).names.lookup ("isinstance":Str)=some .globalImplicit:=by rfl
theorem kx:(defScope bu).names.lookup ("list":Str)=some .globalImplicit:=by rfl
theorem kO:(defScope bu).names.lookup ("len":Str)=some .globalImplicit:=by rfl
abbrev ci:Stmt:=top 4
theorem qQ:FnScope ["entry","grant"] ["entry","grant"] (defScope ci):=⟨rfl,rfl,rfl,by decide +kernel,rfl,by decide +kernel,by decide +kernel⟩
theorem p6:Vis (defScope ci) "entry":=by decreasing_trivial
theorem jP:Vis (defScope ci) "grant":=by decreasing_trivial
theorem jv:(defScope ci).names.lookup ("is_whole":Str)=some .globalImplicit:=by rfl
abbrev bF:Stmt:=top 5
theorem nO:FnScope ["some","allowed"] ["some","allowed"] (defScope bF):=⟨rfl,rfl,rfl,by decide +kernel,rfl,by decide +kernel,by decide +kernel⟩
theorem eV:Vis (defScope bF) "some":=by decreasing_trivial
theorem kP:(defScope bF).names.lookup ("all":Str)=some .globalImplicit:=by rfl
theorem gQ:(defScope bF).names.lookup ("len":Str)=some .globalImplicit:=by rfl
theorem kQ:(defScope bF).names.lookup ("set":Str)=some .globalImplicit:=by rfl
abbrev bY:Stmt:=top 6
theorem rS:FnScope ["thing"] ["thing"] (defScope bY):=⟨rfl,rfl,rfl,by decide +kernel,rfl,by decide +kernel,by decide +kernel⟩
theorem fk:Vis (defScope bY) "thing":=by decreasing_trivial
theorem i7:(defScope bY).names.lookup ("isinstance":Str)=some .globalImplicit:=by rfl
theorem lD:(defScope bY).names.lookup ("tuple":Str)=some .globalImplicit:=by rfl
theorem nQ:(defScope bY).names.lookup ("len":Str)=some .globalImplicit:=by rfl
theorem jQ:(defScope bY).names.lookup ("is_whole":Str)=some .globalImplicit:=by rfl
abbrev bf:Stmt:=top 7
theorem qR:FnScope ["entry","grant","route"] ["entry","grant","route"] (defScope bf):=⟨rfl,rfl,rfl,by decide +kernel,rfl,by decide +kernel,by decide +kernel⟩
theorem p8:Vis (defScope bf) "entry":=by decreasing_trivial
theorem p9:Vis (defScope bf) "grant":=by decreasing_trivial
theorem d9:Vis (defScope bf) "route":=by decreasing_trivial
theorem iP:(defScope bf).names.lookup ("isinstance":Str)=some .globalImplicit:=by rfl
theorem lE:(defScope bf).names.lookup ("list":Str)=some .globalImplicit:=by rfl
theorem mR:(defScope bf).names.lookup ("all":Str)=some .globalImplicit:=by rfl
theorem iQ:(defScope bf).names.lookup ("are_places":Str)=some .globalImplicit:=by rfl
theorem mS:(defScope bf).names.lookup ("sum":Str)=some .globalImplicit:=by rfl
def Ho:Kn→Bool
 | .int=>true
 | _=>false
def u9 (K:PySem.W.Frag):Sp:=fun vs H Q _=>∃ v k,vs=[v]∧Kd K H v k∧Q (.bl (Ho k)) H
section
variable {P:Program} {w:World} {K:PySem.W.Frag} {mg:Str→Option Value} {base:Heap} {f:Addr} {fd:FuncData}
theorem AJ (F:Fun K "is_whole" "is_whole" bW f fd) (M:Mg mg):FnOk P w K mg base CX0 1 f fd ["thing"] (u9 K):=by
 refine F.ok qP (fun vs H Q E h=>?_) (fun cdv A outer s H vs Q E hr h=>?_)
 ·obtain⟨v,k,rfl,_⟩:=h
  rfl
 obtain⟨v,k,rfl,hk,q⟩:=h
 refine⟨_,(@fL _ _ _ (@ic _ _ _ _ (@vf _ _ _ _ _ _ _ (@fZ _ _ _ _ _ _ _ _ _ uY dP M.m_isinstance sX (@cT _ _ _ _ _ (@cg _ 0 _ _ rfl jO cS cU) (@cT _ _ _ _ _ (@vq _ _ (.ty "int") _ _ mP M.m_int Ic rfl pI pH) (@dB _) (di rfl)) (di rfl)) bz bx (di rfl) (gw rfl fD)) (@vE _ _ _ _ _ (@HS _ _ _ _ (@fZ _ _ _ _ _ _ _ _ _ uY dP M.m_isinstance sX (@cT _ _ _ _ _ (@cg _ 0 _ _ rfl jO cS cU) (@cT _ _ _ _ _ (@vq _ _ (.ty "bool") _ _ lC M.m_bool Hu rfl mL mK) (@dB _) (di rfl)) (di rfl)) bz bx (di rfl) (gw rfl fD))))))),?_⟩
 trivial
 refine⟨_,hk,?_⟩
 cases k with
 | int=>exact⟨_,hk,q⟩
 | bl=>exact⟨_,hk,q⟩
 | _=>exact q
end
inductive Dt where
 | non | bl (b:Bool) | int (i:Int) | str (z:Str) | lst (ds:List Dt) | tup (ds:List Dt) | dct
mutual
inductive Rp (K:PySem.W.Frag) (H:Hp):V→Dt→Prop
 | non:Rp K H .non .non
 | bl (b:Bool):Rp K H (.bl b) (.bl b)
 | int (i:Int):Rp K H (.int i) (.int i)
 | str (z:Str):Rp K H (.str z) (.str z)
 | lst {a:Addr} {xs:List V} {ds:List Dt}:SqL K H a xs→RpAll K H xs ds→ds.length≤500→Rp K H (.ref a) (.lst ds)
 | tup {a:Addr} {xs:List V} {ds:List Dt}:SqT K H a xs→RpAll K H xs ds→Rp K H (.ref a) (.tup ds)
 | dct {a:Addr}:H a=some (dctO a)→Rp K H (.ref a) .dct
inductive RpAll (K:PySem.W.Frag) (H:Hp):List V→List Dt→Prop
 | nil:RpAll K H [] []
 | cons {x:V} {d:Dt} {xs:List V} {ds:List Dt}:Rp K H x d→RpAll K H xs ds→RpAll K H (x::xs) (d::ds)
end
mutual
theorem Rp.same {K:PySem.W.Frag} {H H':Hp} (e:Same H H'):∀ {v:V} {d:Dt},Rp K H v d→Rp K H' v d
 | _,_,.non=>.non
 | _,_,.bl b=>.bl b
 | _,_,.int i=>.int i
 | _,_,.str z=>.str z
 | _,_,.lst h r l=>.lst (e.seq h) (RpAll.same e r) l
 | _,_,.tup h r=>.tup (Az e h) (RpAll.same e r)
 | _,_,.dct h=>.dct (e _ _ h)
theorem RpAll.same {K:PySem.W.Frag} {H H':Hp} (e:Same H H'):∀ {xs:List V} {ds:List Dt},RpAll K H xs ds→RpAll K H' xs ds
 | _,_,.nil=>.nil
 | _,_,.cons h r=>.cons (Rp.same e h) (RpAll.same e r)
end
theorem RpAll.len {K:PySem.W.Frag} {H:Hp}:∀ {xs:List V} {ds:List Dt},RpAll K H xs ds→xs.length=ds.length
 | _,_,.nil=>rfl
 | _,_,.cons _ r=>by rw[List.length_cons,List.length_cons,RpAll.len r]
theorem RpAll.get {K:PySem.W.Frag} {H:Hp}:∀ {xs:List V} {ds:List Dt} {i:Nat} {v:V},RpAll K H xs ds→xs[i]?=some v→∃ d,ds[i]?=some d∧Rp K H v d
 | _,_,_,_,.nil,h=>by cases h
 | _,_,0,_,.cons r _,h=>by cases h; exact⟨_,rfl,r⟩
 | _,_,i+1,_,.cons _ r,h=>by
  rw[List.getElem?_cons_succ] at h
  obtain⟨d,a,b⟩:=RpAll.get r h
  exact⟨d,by rw[List.getElem?_cons_succ]; exact a,b⟩
theorem RpAll.snoc {K:PySem.W.Frag} {H:Hp} {v:V} {d:Dt} (h:Rp K H v d):∀ {xs:List V} {ds:List Dt},RpAll K H xs ds→RpAll K H (xs++[v]) (ds++[d])
 | _,_,.nil=>.cons h .nil
 | _,_,.cons a r=>.cons a (RpAll.snoc h r)
def knD:Dt→Kn
 | .non=>.non
 | .bl _=>.bl
 | .int _=>.int
 | .str _=>.str
 | .lst _=>.lst
 | .tup _=>.tup
 | .dct=>.dct
theorem Rp.kd {K:PySem.W.Frag} {H:Hp} {v:V} {d:Dt} (h:Rp K H v d):Kd K H v (knD d):=by
 cases h with
 | non=>exact rfl
 | bl b=>exact rfl
 | int i=>exact rfl
 | str z=>exact rfl
 | lst h _ _=>exact Kd.lst h
 | tup h _=>exact Kd.tup h
 | dct h=>exact Kd.dct h
def pX (n:Nat):Dt→Bool
 | .lst ds=>decide (ds.length=n)
 | _=>false
def uh (w:Int):Dt→Bool
 | .int i=>decide (0≤i) && decide (i≤w)
 | _=>false
def uw:Dt→Bool
 | .tup [_,.int i]=>decide (1≤i)
 | _=>false
def qq:Dt→Dt
 | .tup [a,_]=>a
 | _=>.non
def uG:Dt→Int
 | .tup [_,.int i]=>i
 | _=>0
def intOf:Dt→Int
 | .int i=>i
 | _=>0
def uN (al:List Int):Dt→Bool
 | .int i=>decide (i∈al)
 | _=>false
def nP (al:List Int) (ds:List Dt):Bool:=ds.all (uN al) && decide ((ds.map intOf).Nodup)
def tN (ps:List Nat) (g:Int):Dt→Bool
 | .lst ds=>ds.all uw && (nP (ps.map fun j:Nat=>(j:Int)) (ds.map qq) && decide ((ds.map uG).sum=g))
 | _=>false
theorem sC (ps:List Nat) (g:Int) (ds:List Dt):tN ps g (.lst ds)=(ds.all uw && (nP (ps.map fun j:Nat=>(j:Int)) (ds.map qq) && decide ((ds.map uG).sum=g))):=rfl
def xU (K:PySem.W.Frag):Sp:=fun vs H Q _=>∃ (v:V) (d:Dt) (n:Nat),vs=[v,.int (n:Int)]∧Rp K H v d∧Q (.bl (pX n d)) H
def xQ (K:PySem.W.Frag):Sp:=fun vs H Q _=>∃ (v x:V) (d:Dt) (t:Addr) (w:Int),vs=[.ref t,v]∧SqT K H t [x,.int w]∧Rp K H v d∧Q (.bl (uh w d)) H
def wc (K:PySem.W.Frag):Sp:=fun vs H Q _=>∃ (a b:Addr) (us:List V) (ds:List Dt) (al:List Int),vs=[.ref a,.ref b]∧SqL K H a us∧RpAll K H us ds∧ds.length≤500∧SqL K H b (al.map V.int)∧∀ H',Same H H'→Q (.bl (nP al ds)) H'
def yW (K:PySem.W.Frag):Sp:=fun vs H Q _=>∃ (v:V) (d:Dt),vs=[v]∧Rp K H v d∧Q (.bl (uw d)) H
def xV (K:PySem.W.Frag):Sp:=fun vs H Q _=>∃ (v:V) (d:Dt) (t q:Addr) (ps:List Nat) (w g:Int),vs=[.ref t,.int g,v]∧SqT K H t [.ref q,.int w]∧SqL K H q (ps.map fun j:Nat=>V.int (j:Int))∧Rp K H v d∧∀ H',Same H H'→Q (.bl (tN ps g d)) H'
theorem xG (ks:List Int) (j:Int):inV (.int j) (ks.map V.int)=decide (j∈ks):=by
 unfold inV
 rw[Bool.eq_iff_iff,List.any_eq_true,decide_eq_true_iff]
 refine⟨?_,fun h=>⟨_,List.mem_map.mpr ⟨j,h,rfl⟩,by simp [eqV]⟩⟩
 rintro⟨x,hx,e⟩
 obtain⟨i,hi,rfl⟩:=List.mem_map.mp hx
 have:i=j:=by simpa [eqV] using e
 rw[← this]
 exact hi
theorem zk (ks:List Int):(ks.map V.int).all uT=true:=by
 rw[List.all_eq_true]
 intro x hx
 obtain⟨j,_,rfl⟩:=List.mem_map.mp hx
 rfl
theorem Es:∀ (ns:List Int),(∀ k,(ns.foldl PySem.SetL.addS (fun _=>false,0)).1 k=decide (k∈ns))∧(ns.foldl PySem.SetL.addS (fun _=>false,0)).2≤ns.length∧((ns.foldl PySem.SetL.addS (fun _=>false,0)).2=ns.length↔ns.Nodup):=fun ns=>by
 have key:∀ (ms ns:List Int),ns.length=ms.length→ns.reverse=ms→(∀ k,(ns.foldl PySem.SetL.addS (fun _=>false,0)).1 k=decide (k∈ns))∧(ns.foldl PySem.SetL.addS (fun _=>false,0)).2≤ns.length∧((ns.foldl PySem.SetL.addS (fun _=>false,0)).2=ns.length↔ns.Nodup):=by
  intro ms
  induction ms with
  | nil =>
   intro ns hl hr
   have:ns=[]:=List.reverse_eq_nil_iff.mp hr
   subst this
   exact⟨fun k=>by simp,Nat.le_refl _,by simp⟩
  | cons m ms ih =>
   intro ns hl hr
   obtain⟨xs,rfl⟩:∃ xs,ns=xs++[m]:=⟨ms.reverse,by rw[← List.reverse_reverse ns,hr,List.reverse_cons]⟩
   have hx:xs.reverse=ms:=by simpa using hr
   obtain⟨h1,h2,h3⟩:=ih xs (by rw[← hx,List.length_reverse]) hx
   rw[List.foldl_append]
   simp only [List.foldl_cons,List.foldl_nil]
   generalize xs.foldl PySem.SetL.addS (fun _=>false,0)=p at h1 h2 h3
   refine⟨fun k=>?_,?_,?_⟩
   ·show (p.1 k || decide (k=m))=_
    rw[h1,Bool.eq_iff_iff]
    simp
   ·show (if p.1 m=true then p.2 else p.2+1)≤_
    rw[List.length_append,List.length_singleton]
    split <;> omega
   ·show (if p.1 m=true then p.2 else p.2+1)=_↔_
    rw[List.length_append,List.length_singleton,h1]
    by_cases hm:m∈xs
    ·rw[if_pos (decide_eq_true hm)]
     refine⟨fun z=>by omega,fun z=>?_⟩
     rw[List.nodup_append] at z
     exact absurd rfl (z.2.2 m hm m (List.mem_singleton.mpr rfl))
    ·rw[if_neg (fun z=>hm (of_decide_eq_true z))]
     rw[List.nodup_append]
     refine⟨fun z=>⟨h3.mp (by omega),by simp,fun a ha b hb z2=>?_⟩,fun z=>by rw[h3.mpr z.1]⟩
     rw[List.mem_singleton.mp hb] at z2
     exact hm (z2 ▸ ha)
 exact key ns.reverse ns (by rw[List.length_reverse]) rfl
theorem all_ints {K:PySem.W.Frag} {H:Hp} {al:List Int}:∀ {us:List V} {ds:List Dt},RpAll K H us ds→ds.all (uN al)=true→us=(ds.map intOf).map V.int
 | _,_,.nil,_=>rfl
 | _,_,.cons (d:=d) h r,ha=>by
  rw[List.all_cons,Bool.and_eq_true] at ha
  rw[List.map_cons,List.map_cons,← all_ints r ha.2]
  cases h with
  | int i=>rfl
  | _=>exact absurd ha.1 (by simp [uN])
theorem BX {K:PySem.W.Frag} {H:Hp} {v:V} {d:Dt} (h:Rp K H v d) (hp:uw d=true):∃ t x i,v=V.ref t∧SqT K H t [x,.int i]∧Rp K H x (qq d)∧uG d=i∧1≤i:=by
 cases h with
 | tup hT hA =>
  rename_i a xs ds
  cases hA with
  | nil=>cases hp
  | cons h1 r1 =>
   cases r1 with
   | nil=>cases hp
   | cons h2 r2 =>
    cases r2 with
    | nil =>
     rename_i x d x2 d2
     cases h2 with
     | int i=>exact⟨a,x,i,rfl,hT,h1,rfl,of_decide_eq_true hp⟩
     | _=>cases hp
    | cons h3 r3 =>
     cases h2 <;> cases hp
 | _=>cases hp
section
variable {P:Program} {w:World} {K:PySem.W.Frag} {mg:Str→Option Value} {base:Heap} {f:Addr} {fd:FuncData}
theorem zL (F:Fun K "is_list_of" "is_list_of" bu f fd) (M:Mg mg):FnOk P w K mg base CX0 1 f fd ["thing","many"] (xU K):=by
 refine F.ok nN (fun vs H Q E h=>?_) (fun cdv A outer s H vs Q E hr h=>?_)
 ·obtain⟨v,d,n,rfl,_⟩:=h
  rfl
 obtain⟨v,d,n,rfl,hv,q⟩:=h
 refine⟨_,(@fL _ _ _ (@ic _ _ _ _ (@vf _ _ _ _ _ _ _ (@fZ _ _ _ _ _ _ _ _ _ uY g9 M.m_isinstance sX (@cT _ _ _ _ _ (@cg _ 0 _ _ rfl iO cS cU) (@cT _ _ _ _ _ (@vq _ _ (.ty "list") _ _ kx M.m_list r8 rfl bq bo) (@dB _) (di rfl)) (di rfl)) bz bx (di rfl) (gw rfl fD)) (@vE _ _ _ _ _ (@qp _ _ _ _ _ _ _ _ (@t9 _) (@fZ _ _ _ _ _ _ _ _ _ gJ kO M.m_len nj (@cT _ _ _ _ _ (@cg _ 0 _ _ rfl iO cS cU) (@dB _) (di rfl)) aF aE (di rfl) fD) (@cg _ 1 _ _ rfl mQ tK tL) (iG _)))))),?_⟩
 trivial
 refine⟨_,hv.kd,?_⟩
 cases hv with
 | lst hL hA hz =>
  rename_i a xs ds
  refine⟨_,rfl,_,.inl hL,?_⟩
  rw[hA.len]
  have e:pX n (.lst ds)=decide ((ds.length:Int)=(n:Int)):=decide_eq_decide.mpr ⟨fun z=>by omega,fun z=>by omega⟩
  rw[e] at q
  exact q
 | _=>exact q
theorem AQ (F:Fun K "is_grant" "is_grant" ci f fd) (M:Mg mg) (ck:Cal P w K mg base CX0 "is_whole" 1 ["thing"] (u9 K)):FnOk P w K mg base CX0 2 f fd ["entry","grant"] (xQ K):=by
 refine F.ok qQ (fun vs H Q E h=>?_) (fun cdv A outer s H vs Q E hr h=>?_)
 ·obtain⟨v,x,d,t,w,rfl,_⟩:=h
  rfl
 obtain⟨v,x,d,t,w,rfl,ht,hv,q⟩:=h
 refine⟨_,(@fL _ _ _ (@ic _ _ _ _ (@vf _ _ _ _ _ _ _ (@gv _ _ _ _ _ _ _ _ _ _ _ ck hr jv (@cT _ _ _ _ _ (@cg _ 1 _ _ rfl jP gO gP) (@dB _) (di rfl)) (by decide) il (di rfl) fD) (@vE _ _ _ _ _ (@Eg _ _ _ _ _ _ _ _ _ _ _ _ yw yw (@dR _ _ _ _) (@cg _ 1 _ _ rfl jP gO gP) (@gf _ _ _ _ _ _ _ (@jl _) (@cg _ 0 _ _ rfl p6 aZ ba) (@dR _ _ _ _) (fun _ _=>rfl)) (by with_unfolding_all rfl)))))),?_⟩
 trivial
 refine⟨v,_,rfl,hv.kd,?_⟩
 cases hv with
 | int i =>
  refine⟨true,rfl,?_⟩
  rw[if_pos rfl]
  refine⟨_,rfl,?_⟩
  by_cases h0:0≤i
  ·rw[if_pos h0]
   refine⟨_,ht,_,rfl,_,rfl,_,rfl,?_⟩
   have:uh w (.int i)=decide (i≤w):=by
    show (decide (0≤i) && decide (i≤w))=_
    rw[decide_eq_true h0]
    rfl
   rw[this] at q
   exact q
  ·rw[if_neg h0]
   have:uh w (.int i)=false:=by
    show (decide (0≤i) && decide (i≤w))=_
    rw[decide_eq_false h0]
    rfl
   rw[this] at q
   exact q
 | _ =>
  refine⟨false,rfl,?_⟩
  rw[if_neg (by decide)]
  exact q
theorem zJ (F:Fun K "are_places" "are_places" bF f fd) (M:Mg mg) (ck:Cal P w K mg base CX0 "is_whole" 1 ["thing"] (u9 K)):FnOk P w K mg base CX0 2 f fd ["some","allowed"] (wc K):=by
 refine F.ok nO (fun vs H Q E h=>?_) (fun cdv A outer s H vs Q E hr h=>?_)
 ·obtain⟨a,b,us,ds,al,rfl,_⟩:=h
  rfl
 obtain⟨a,b,us,ds,al,rfl,ha,hA,lz,hb,q⟩:=h
 refine⟨_,(@ff _ _ _ _ _ (@nS _ _ _ _ _ _ _ _ (@tO _ _ _ _ (@sG _ _ _ (@fZ _ _ _ _ _ _ _ _ _ (tY rfl) kP M.m_all vJ (@cT _ _ _ _ _ (@lB _ _ _ _ _ _ _ _ _ _ _ _ _ _ _ rfl (CompOk.make (N':=["allowed","place"]) (ix:=[1]) (nl:=1) (by rfl) (fm1 rfl fm0) (by rfl) (by decide +kernel) rfl (by decide +kernel) rfl (And.intro ⟨rfl,.inl rfl,.inl rfl⟩ True.intro)) (@m8 _ _ _ _ (@cg _ 0 _ _ rfl eV mM mO)) (fun _ _ _ _ _=>(@fT _ _ 1 _ (show List.Nodup (["allowed","place"]:List Str) from by decide) rfl (Or.inl rfl) (by first | exact .inl rfl | exact .inr rfl | assumption))) (fun _ _ _ _ _=>(@mH _)) (fun _ _ _ _ _=>(@vf _ _ _ _ _ _ _ (@gv _ _ _ _ _ _ _ _ _ _ _ ck hr rfl (@cT _ _ _ _ _ (@pv _ 1 _ _ (by rfl) (by decreasing_trivial) (by decide) (by decide)) (@dB _) (di rfl)) (by decide) il (di rfl) fD) (@vE _ _ _ _ _ (@qp _ _ _ _ _ _ _ _ (yr (K:=K) rfl) (@pv _ 1 _ _ (by rfl) (by decreasing_trivial) (by decide) (by decide)) (@pv _ 0 _ _ (by rfl) (by decreasing_trivial) (by decide) (by decide)) (by with_unfolding_all rfl))))) (by intro _; rfl)) (@dB _) (di rfl)) dG dF (di rfl) fD) (um rfl))) (@fL _ _ _ (@ic _ _ _ _ (@uv _ _ _ _))) (@kN _)) (@fL _ _ _ (@ic _ _ _ _ (@qp _ _ _ _ _ _ _ _ (@t9 _) (@fZ _ _ _ _ _ _ _ _ _ zH gQ M.m_len nj (@cT _ _ _ _ _ (@nt _ _ _ _ _ _ _ _ _ (Be rfl) kQ M.m_set Im (@cT _ _ _ _ _ (@cg _ 0 _ _ rfl eV mM mO) (@dB _) (di rfl)) t7 t6 (di rfl) fD) (@dB _) (di rfl)) aF aE (di rfl) fD) (@fZ _ _ _ _ _ _ _ _ _ gJ gQ M.m_len nj (@cT _ _ _ _ _ (@cg _ 0 _ _ rfl eV mM mO) (@dB _) (di rfl)) aF aE (di rfl) fD) (iG _))))),?_⟩
 trivial
 have lus:=hA.len
 refine⟨⟨_,ha⟩,fun D hD=>?_⟩
 obtain⟨Pc,hC⟩:∃ Pc:Nat→St→Hp→Prop,Pc=fun i τ H'=>∃ (z:Option V),H' D=some (.lst (((ds.take i).map (uN al)).map V.bl))∧Same H H'∧τ=[some (.ref b),z]:=⟨_,rfl⟩
 refine mJ us Pc ?_ (fun i τ H' _ h=>by rw[hC] at h; obtain⟨_,_,e,_⟩:=h; exact e.seq ha) ?_ ?_
 ·rw[hC]
  exact⟨_,er,fS hD _,rfl⟩
 ·intro i x τ H' R' hx h next
  rw[hC] at h
  obtain⟨z,d1,e,rfl⟩:=h
  obtain⟨d,hd,hv⟩:=hA.get hx
  have li:=(List.getElem?_eq_some_iff.mp hx).1
  have fin:∀ b':Bool,b'=uN al d→∃ xs,H' D=some (.lst xs)∧xs.length<sizeLine∧R' [some (V.ref b),some x] (upd H' D (.lst (xs++[.bl b']))):=fun b' hb'=>by
   refine⟨_,d1,?_,next _ _ ?_⟩
   ·rw[List.length_map,List.length_map,List.length_take]
    exact Nat.lt_of_lt_of_le (m:=1000) (by omega) (by decide)
   ·rw[hC]
    refine⟨_,?_,gu e hD _,rfl⟩
    rw[er,List.take_add_one,hd,List.map_append,List.map_append,hb']
    rfl
  trivial
  refine⟨x,_,rfl,(hv.same e).kd,?_⟩
  cases hv with
  | int j =>
   refine⟨true,rfl,?_⟩
   rw[if_pos rfl]
   refine⟨b,_,rfl,.inl (e.seq hb),rfl,zk al,?_⟩
   rw[xG]
   exact fin _ rfl
  | _ =>
   refine⟨false,rfl,?_⟩
   rw[if_neg (by decide)]
   exact fin _ rfl
 intro τ H1 h
 rw[hC] at h
 obtain⟨z,d1,e1,rfl⟩:=h
 clear hC
 rw[lus,List.take_length] at d1
 have ea:((ds.map (uN al)).all id)=ds.all (uN al):=by rw[List.all_map]; rfl
 refine⟨D,rfl,_,SqL.of d1,?_⟩
 rw[ea]
 cases hz:ds.all (uN al) with
 | false =>
  rw[if_pos rfl]
  have:=q _ e1
  unfold nP at this
  rw[hz] at this
  exact this
 | true =>
  rw[if_neg (by decide)]
  have eu:=all_ints hA hz
  have ha1:=e1.seq ha
  rw[eu] at ha1
  refine⟨_,ha1,by rw[List.length_map]; omega,fun l hl=>?_⟩
  obtain⟨s1,s2,s3⟩:=Es (ds.map intOf)
  refine⟨_,_,er,?_⟩
  have S2:=fS hl (.set ((ds.map intOf).foldl PySem.SetL.addS (fun _=>false,0)).1 ((ds.map intOf).foldl PySem.SetL.addS (fun _=>false,0)).2)
  refine⟨_,.inl (S2.seq ha1),?_⟩
  have:=q _ (e1.trans S2)
  unfold nP at this
  rw[hz,Bool.true_and] at this
  rw[show (decide (((((ds.map intOf).foldl PySem.SetL.addS (fun _=>false,0)).2:Nat):Int)=((((ds.map intOf).map V.int).length:Nat):Int)))=decide ((ds.map intOf).Nodup) from decide_eq_decide.mpr ⟨fun z=>s3.mp (by rw[List.length_map] at z; omega),fun z=>by rw[s3.mpr z,List.length_map (f:=V.int)]⟩]
  exact this
theorem Co (F:Fun K "is_pair" "is_pair" bY f fd) (M:Mg mg) (ck:Cal P w K mg base CX0 "is_whole" 1 ["thing"] (u9 K)):FnOk P w K mg base CX0 2 f fd ["thing"] (yW K):=by
 refine F.ok rS (fun vs H Q E h=>?_) (fun cdv A outer s H vs Q E hr h=>?_)
 ·obtain⟨v,d,rfl,_⟩:=h
  rfl
 obtain⟨v,d,rfl,hv,q⟩:=h
 refine⟨_,(@fL _ _ _ (@ic _ _ _ _ (@vf _ _ _ _ _ _ _ (@fZ _ _ _ _ _ _ _ _ _ uY i7 M.m_isinstance sX (@cT _ _ _ _ _ (@cg _ 0 _ _ rfl fk cS cU) (@cT _ _ _ _ _ (@vq _ _ (.ty "tuple") _ _ lD M.m_tuple FY rfl sZ sY) (@dB _) (di rfl)) (di rfl)) bz bx (di rfl) (gw rfl fD)) (@vf _ _ _ _ _ _ _ (@qp _ _ _ _ _ _ _ _ (@t9 _) (@fZ _ _ _ _ _ _ _ _ _ gJ nQ M.m_len nj (@cT _ _ _ _ _ (@cg _ 0 _ _ rfl fk cS cU) (@dB _) (di rfl)) aF aE (di rfl) fD) (@dR _ _ _ _) (iG _)) (@vf _ _ _ _ _ _ _ (@gv _ _ _ _ _ _ _ _ _ _ _ ck hr jQ (@cT _ _ _ _ _ (@gf _ _ _ _ _ _ _ (@jl _) (@cg _ 0 _ _ rfl fk cS cU) (@dR _ _ _ _) (fun _ _=>rfl)) (@dB _) (di rfl)) (by decide) il (di rfl) fD) (@vE _ _ _ _ _ (@qp _ _ _ _ _ _ _ _ (@Ih _) (@gf _ _ _ _ _ _ _ (@jl _) (@cg _ 0 _ _ rfl fk cS cU) (@dR _ _ _ _) (fun _ _=>rfl)) (@dR _ _ _ _) (iG _)))))))),?_⟩
 trivial
 refine⟨_,hv.kd,?_⟩
 cases hv with
 | tup hT hA =>
  rename_i a xs ds
  refine⟨_,rfl,_,.inr hT,?_⟩
  rw[hA.len]
  by_cases h2:(ds.length:Int)=2
  ·rw[if_pos h2]
   obtain⟨d1,d2,rfl⟩:∃ d1 d2,ds=[d1,d2]:=by
    rcases ds with _ | ⟨d1,_ | ⟨d2,_ | ⟨d3,ds⟩⟩⟩
    ·simp at h2
    ·simp at h2
    ·exact⟨d1,d2,rfl⟩
    ·simp only [List.length_cons] at h2
     omega
   cases hA with
   | cons h1 r1 =>
    cases r1 with
    | cons h2' r2 =>
     cases r2
     rename_i x1 x2
     refine⟨_,rfl,_,hT,_,rfl,_,_,rfl,h2'.kd,?_⟩
     cases h2' with
     | int i =>
      refine⟨true,rfl,?_⟩
      rw[if_pos rfl]
      exact⟨_,rfl,_,hT,_,rfl,_,rfl,q⟩
     | _ =>
      refine⟨false,rfl,?_⟩
      rw[if_neg (by decide)]
      exact q
  ·rw[if_neg h2]
   have:uw (.tup ds)=false:=by
    rcases ds with _ | ⟨d1,_ | ⟨d2,_ | ⟨d3,ds⟩⟩⟩
    ·rfl
    ·cases d1 <;> rfl
    ·exact absurd rfl h2
    ·cases d2 <;> rfl
   rw[this] at q
   exact q
 | _=>exact q
theorem Bw (F:Fun K "is_route" "is_route" bf f fd) (M:Mg mg) (cH:Cal P w K mg base CX0 "are_places" 2 ["some","allowed"] (wc K)) (jS:Cal P w K mg base CX0 "is_pair" 2 ["thing"] (yW K)):FnOk P w K mg base CX0 3 f fd ["entry","grant","route"] (xV K):=by
 refine F.ok qR (fun vs H Q E h=>?_) (fun cdv A outer s H vs Q E hr h=>?_)
 ·obtain⟨v,d,t,q,ps,w,g,rfl,_⟩:=h
  rfl
 obtain⟨v,d,t,q',ps,w,g,rfl,ht,hq,hv,q⟩:=h
 refine⟨_,(@ff _ _ _ _ _ (@nS _ _ _ _ _ _ _ _ (@PW.pt _ _ _ (@FL _ _ _ _ _ _ _ (@tO _ _ _ _ (@sG _ _ _ (@fZ _ _ _ _ _ _ _ _ _ uY iP M.m_isinstance sX (@cT _ _ _ _ _ (@cg _ 2 _ _ rfl d9 dM dN) (@cT _ _ _ _ _ (@vq _ _ (.ty "list") _ _ lE M.m_list r8 rfl bq bo) (@dB _) (di rfl)) (di rfl)) bz bx (di rfl) (gw rfl fD)) (um rfl))) (@C0 _ _ _ _ (@tO _ _ _ _ (@sG _ _ _ (@fZ _ _ _ _ _ _ _ _ _ (tY rfl) mR M.m_all vJ (@cT _ _ _ _ _ (@lB _ _ _ _ _ _ _ _ _ _ _ _ _ _ _ rfl (CompOk.make (N':=["pair"]) (ix:=[]) (nl:=1) (by rfl) fm0 (by rfl) (by decide +kernel) rfl (by decide +kernel) rfl True.intro) (@m8 _ _ _ _ (@cg _ 2 _ _ rfl d9 dM dN)) (fun _ _ _ _ _=>(@fT _ _ 0 _ (show List.Nodup (["pair"]:List Str) from by decide) rfl (Or.inl rfl) (by first | exact .inl rfl | exact .inr rfl | assumption))) (fun _ _ _ _ _=>(@mH _)) (fun _ _ _ _ _=>(@gv _ _ _ _ _ _ _ _ _ _ _ jS hr rfl (@cT _ _ _ _ _ (@pv _ 0 _ _ (by rfl) (by decreasing_trivial) (by decide) (by decide)) (@dB _) (di rfl)) (by decide) rR (di rfl) fD)) (by intro _; rfl)) (@dB _) (di rfl)) dG dF (di rfl) fD) (um rfl)))))) (@fL _ _ _ (@ic _ _ _ _ (@uv _ _ _ _))) (@kN _)) (@ff _ _ _ _ _ (@nS _ _ _ _ _ _ _ _ (@tO _ _ _ _ (@sG _ _ _ (@gv _ _ _ _ _ _ _ _ _ _ _ cH hr iQ (@cT _ _ _ _ _ (@lB _ _ _ _ _ _ _ _ _ _ _ _ _ _ _ rfl (CompOk.make (N':=["pair"]) (ix:=[]) (nl:=1) (by rfl) fm0 (by rfl) (by decide +kernel) rfl (by decide +kernel) rfl True.intro) (@m8 _ _ _ _ (@cg _ 2 _ _ rfl d9 dM dN)) (fun _ _ _ _ _=>(@fT _ _ 0 _ (show List.Nodup (["pair"]:List Str) from by decide) rfl (Or.inl rfl) (by first | exact .inl rfl | exact .inr rfl | assumption))) (fun _ _ _ _ _=>(@mH _)) (fun _ _ _ _ _=>(@gf _ _ _ _ _ _ _ (xq (K:=K) rfl) (@pv _ 0 _ _ (by rfl) (by decreasing_trivial) (by decide) (by decide)) (@dR _ _ _ _) (fun _ _=>rfl))) (by intro _; rfl)) (@cT _ _ _ _ _ (@gf _ _ _ _ _ _ _ (@jl _) (@cg _ 0 _ _ rfl p8 aZ ba) (@dR _ _ _ _) (fun _ _=>rfl)) (@dB _) (di rfl)) (di rfl)) (by decide) fN (di rfl) (gw rfl fD)) (um rfl))) (@fL _ _ _ (@ic _ _ _ _ (@uv _ _ _ _))) (@kN _)) (@fL _ _ _ (@ic _ _ _ _ (@qp _ _ _ _ _ _ _ _ (@t9 _) (@fZ _ _ _ _ _ _ _ _ _ (uJ rfl) mS M.m_sum xx (@cT _ _ _ _ _ (@lB _ _ _ _ _ _ _ _ _ _ _ _ _ _ _ rfl (CompOk.make (N':=["pair"]) (ix:=[]) (nl:=1) (by rfl) fm0 (by rfl) (by decide +kernel) rfl (by decide +kernel) rfl True.intro) (@m8 _ _ _ _ (@cg _ 2 _ _ rfl d9 dM dN)) (fun _ _ _ _ _=>(@fT _ _ 0 _ (show List.Nodup (["pair"]:List Str) from by decide) rfl (Or.inl rfl) (by first | exact .inl rfl | exact .inr rfl | assumption))) (fun _ _ _ _ _=>(@mH _)) (fun _ _ _ _ _=>(@gf _ _ _ _ _ _ _ (xq (K:=K) rfl) (@pv _ 0 _ _ (by rfl) (by decreasing_trivial) (by decide) (by decide)) (@dR _ _ _ _) (fun _ _=>rfl))) (by intro _; rfl)) (@dB _) (di rfl)) dW dU (di rfl) fD) (@cg _ 1 _ _ rfl p9 gO gP) (iG _)))))),?_⟩
 trivial
 refine⟨_,hv.kd,?_⟩
 cases hv with
 | lst hL hA hz =>
  rename_i a xs ds
  rw[if_neg (fun z:mj (knD (Dt.lst ds)) Kn.lst=false=>by cases z)]
  have lxs:=hA.len
  refine⟨_,rfl,⟨_,hL⟩,fun D hD=>?_⟩
  obtain⟨Pc,hC⟩:∃ Pc:Nat→St→Hp→Prop,Pc=fun i τ H'=>∃ (z:Option V),H' D=some (.lst (((ds.take i).map uw).map V.bl))∧Same H H'∧τ=[z]:=⟨_,rfl⟩
  refine mJ xs Pc ?_ (fun i τ H' _ h=>by rw[hC] at h; obtain⟨_,_,e,_⟩:=h; exact e.seq hL) ?_ ?_
  ·rw[hC]
   exact⟨_,er,fS hD _,rfl⟩
  ·intro i x τ H' R' hx h next
   rw[hC] at h
   obtain⟨z,d1,e,rfl⟩:=h
   obtain⟨d,hd,hv⟩:=hA.get hx
   have li:=(List.getElem?_eq_some_iff.mp hx).1
   trivial
   refine⟨x,d,rfl,hv.same e,_,d1,?_,next _ _ ?_⟩
   ·rw[List.length_map,List.length_map,List.length_take]
    exact Nat.lt_of_lt_of_le (m:=1000) (by omega) (by decide)
   ·rw[hC]
    refine⟨_,?_,gu e hD _,rfl⟩
    rw[er,List.take_add_one,hd,List.map_append,List.map_append]
    rfl
  intro τ H1 h
  rw[hC] at h
  obtain⟨z,d1,e1,rfl⟩:=h
  clear hC
  rw[lxs,List.take_length] at d1
  have ea:((ds.map uw).all id)=ds.all uw:=by rw[List.all_map]; rfl
  refine⟨D,rfl,_,SqL.of d1,?_⟩
  rw[ea]
  cases hz2:ds.all uw with
  | false =>
   rw[if_pos rfl]
   have:=q _ e1
   rw[sC] at this
   rw[hz2] at this
   exact this
  | true =>
   rw[if_neg (by decide)]
   have all2:=List.all_eq_true.mp hz2
   refine⟨_,rfl,⟨_,e1.seq hL⟩,fun D2 hD2=>?_⟩
   obtain⟨Pc,hC⟩:∃ Pc:Nat→St→Hp→Prop,Pc=fun i τ H'=>∃ (z:Option V) (ws:List V),H' D2=some (.lst ws)∧RpAll K H ws ((ds.take i).map qq)∧Same H1 H'∧τ=[z]:=⟨_,rfl⟩
   refine mJ xs Pc ?_ (fun i τ H' _ h=>by rw[hC] at h; obtain⟨_,_,_,_,e,_⟩:=h; exact (e1.trans e).seq hL) ?_ ?_
   ·rw[hC]
    exact⟨_,[],er,.nil,fS hD2 _,rfl⟩
   ·intro i x τ H' R' hx h next
    rw[hC] at h
    obtain⟨z,ws,d1,hw,e,rfl⟩:=h
    obtain⟨d,hd,hv⟩:=hA.get hx
    have li:=(List.getElem?_eq_some_iff.mp hx).1
    obtain⟨tt,x1,i1,rfl,hT,hf,_,_⟩:=BX hv (all2 d (List.mem_of_getElem? hd))
    have lw:=hw.len
    rw[List.length_map,List.length_take] at lw
    trivial
    refine⟨_,Same.tup (e1.trans e) hT,_,rfl,_,d1,Nat.lt_of_lt_of_le (m:=1000) (by omega) (by decide),next _ _ ?_⟩
    rw[hC]
    refine⟨_,_,er,?_,gu e hD2 _,rfl⟩
    rw[List.take_add_one,hd,List.map_append]
    exact hw.snoc hf
   intro τ H2 h
   rw[hC] at h
   obtain⟨z,ws,d2,hw,e2,rfl⟩:=h
   clear hC
   rw[lxs,List.take_length] at hw
   have e12:=e1.trans e2
   refine⟨_,Same.tup e12 ht,_,rfl,D2,q',ws,ds.map qq,ps.map fun j:Nat=>(j:Int),rfl,SqL.of d2,hw.same e12,by rw[List.length_map]; exact hz,by rw[List.map_map]; exact e12.seq hq,fun H3 e3=>⟨_,rfl,?_⟩⟩
   cases hz3:nP (ps.map fun j:Nat=>(j:Int)) (ds.map qq) with
   | false =>
    rw[if_pos rfl]
    have:=q _ (e12.trans e3)
    rw[sC] at this
    rw[hz2,hz3] at this
    exact this
   | true =>
    rw[if_neg (by decide)]
    have e13:=e12.trans e3
    refine⟨_,rfl,⟨_,e13.seq hL⟩,fun D3 hD3=>?_⟩
    obtain⟨Pc,hC⟩:∃ Pc:Nat→St→Hp→Prop,Pc=fun i τ H'=>∃ (z:Option V),H' D3=some (.lst (((ds.take i).map uG).map V.int))∧Same H3 H'∧τ=[z]:=⟨_,rfl⟩
    refine mJ xs Pc ?_ (fun i τ H' _ h=>by rw[hC] at h; obtain⟨_,_,e,_⟩:=h; exact (e13.trans e).seq hL) ?_ ?_
    ·rw[hC]
     exact⟨_,er,fS hD3 _,rfl⟩
    ·intro i x τ H' R' hx h next
     rw[hC] at h
     obtain⟨z,d1,e,rfl⟩:=h
     obtain⟨d,hd,hv⟩:=hA.get hx
     have li:=(List.getElem?_eq_some_iff.mp hx).1
     obtain⟨tt,x1,i1,rfl,hT,hf,hs,_⟩:=BX hv (all2 d (List.mem_of_getElem? hd))
     trivial
     refine⟨_,Same.tup (e13.trans e) hT,_,rfl,_,d1,?_,next _ _ ?_⟩
     ·rw[List.length_map,List.length_map,List.length_take]
      exact Nat.lt_of_lt_of_le (m:=1000) (by omega) (by decide)
     ·rw[hC]
      refine⟨_,?_,gu e hD3 _,rfl⟩
      rw[er,List.take_add_one,hd,List.map_append,List.map_append,← hs]
      rfl
    intro τ H4 h
    rw[hC] at h
    obtain⟨z,d4,e4,rfl⟩:=h
    clear hC
    rw[lxs,List.take_length] at d4
    refine⟨D3,rfl,_,SqL.of d4,?_⟩
    have:=q _ (e13.trans e4)
    rw[sC] at this
    rw[hz2,hz3] at this
    exact this
 | _=>exact q _ (fun _ _ h=>h)
end
end MyT
namespace MyU
open My MyB MyC MyD MyE MyF MyG MyS MyI MyJ MyK MyT PySem L2
def top (i:Nat):Stmt:=PySem.Challenge.pw_tariffgate_k67_whole_no_other.main.body.getD i (.Pass ⟨0,0,0,0⟩)
theorem fH:(("routes":Str) == ("__debug__":Str))=false:=by decide
theorem fJ:(("routes":Str) == ("__classdict__":Str))=false:=by decide
theorem s0:(("total":Str) == ("__debug__":Str))=false:=by decide
theorem tf:(("total":Str) == ("__classdict__":Str))=false:=by decide
theorem ky:(("amount_through":Str) == ("__debug__":Str))=false:=by decide
theorem iR:(("cut":Str) == ("__debug__":Str))=false:=by decide
theorem iS:(("cut":Str) == ("__classdict__":Str))=false:=by decide
theorem cV:(("granted":Str) == ("__debug__":Str))=false:=by decide
theorem cW:(("granted":Str) == ("__classdict__":Str))=false:=by decide
theorem sD:(("inside":Str) == ("__debug__":Str))=false:=by decide
theorem sE:(("inside":Str) == ("__classdict__":Str))=false:=by decide
theorem jT:(("is_within":Str) == ("__debug__":Str))=false:=by decide
theorem sF:(("is_cut":Str) == ("__debug__":Str))=false:=by decide
abbrev aJ:Stmt:=top 8
theorem cF:FnScope ["routes","place","total","route"] ["routes","place"] (defScope aJ):=⟨rfl,rfl,rfl,by decide +kernel,rfl,by decide +kernel,by decide +kernel⟩
theorem jU:Vis (defScope aJ) "routes":=by decreasing_trivial
theorem jV:Vis (defScope aJ) "total":=by decreasing_trivial
theorem fK:Loc (defScope aJ) "total":=by first | exact Or.inl rfl | exact Or.inr rfl
theorem jW:Vis (defScope aJ) "route":=by decreasing_trivial
theorem jX:Loc (defScope aJ) "route":=by first | exact Or.inl rfl | exact Or.inr rfl
theorem i8:(defScope aJ).names.lookup ("sum":Str)=some .globalImplicit:=by rfl
abbrev bh:Stmt:=top 9
theorem kR:FnScope ["rooms","routes"] ["rooms","routes"] (defScope bh):=⟨rfl,rfl,rfl,by decide +kernel,rfl,by decide +kernel,by decide +kernel⟩
theorem gd:Vis (defScope bh) "rooms":=by decreasing_trivial
theorem jw:(defScope bh).names.lookup ("all":Str)=some .globalImplicit:=by rfl
theorem dh:(defScope bh).names.lookup ("enumerate":Str)=some .globalImplicit:=by rfl
abbrev cu:Stmt:=top 10
theorem qc:FnScope ["entry","cut"] ["entry","cut"] (defScope cu):=⟨rfl,rfl,rfl,by decide +kernel,rfl,by decide +kernel,by decide +kernel⟩
theorem nR:Vis (defScope cu) "entry":=by decreasing_trivial
theorem lH:(defScope cu).names.lookup ("all":Str)=some .globalImplicit:=by rfl
abbrev aR:Stmt:=top 11
theorem nz:FnScope ["rooms","line","granted","cut","inside"] ["rooms","line","granted","cut"] (defScope aR):=⟨rfl,rfl,rfl,by decide +kernel,rfl,by decide +kernel,by decide +kernel⟩
theorem rV:Vis (defScope aR) "rooms":=by decreasing_trivial
theorem lI:Vis (defScope aR) "line":=by decreasing_trivial
theorem rW:Vis (defScope aR) "granted":=by decreasing_trivial
theorem gh:Vis (defScope aR) "cut":=by decreasing_trivial
theorem rX:Vis (defScope aR) "inside":=by decreasing_trivial
theorem rY:Loc (defScope aR) "inside":=by first | exact Or.inl rfl | exact Or.inr rfl
theorem jx:(defScope aR).names.lookup ("isinstance":Str)=some .globalImplicit:=by rfl
theorem jm:(defScope aR).names.lookup ("list":Str)=some .globalImplicit:=by rfl
theorem jz:(defScope aR).names.lookup ("are_places":Str)=some .globalImplicit:=by rfl
theorem mT:(defScope aR).names.lookup ("range":Str)=some .globalImplicit:=by rfl
theorem qd:(defScope aR).names.lookup ("len":Str)=some .globalImplicit:=by rfl
theorem jY:(defScope aR).names.lookup ("is_within":Str)=some .globalImplicit:=by rfl
theorem jZ:(defScope aR).names.lookup ("sum":Str)=some .globalImplicit:=by rfl
theorem qg:(defScope aR).names.lookup ("zip":Str)=some .globalImplicit:=by rfl
abbrev bG:Stmt:=top 12
theorem qh:FnScope ["rooms","line","granted","cut"] ["rooms","line","granted","cut"] (defScope bG):=⟨rfl,rfl,rfl,by decide +kernel,rfl,by decide +kernel,by decide +kernel⟩
theorem nT:Vis (defScope bG) "rooms":=by decreasing_trivial
theorem jn:Vis (defScope bG) "line":=by decreasing_trivial
theorem jo:Vis (defScope bG) "granted":=by decreasing_trivial
theorem nU:Vis (defScope bG) "cut":=by decreasing_trivial
theorem j3:(defScope bG).names.lookup ("is_cut":Str)=some .globalImplicit:=by rfl
def uO (j:Int):Dt→Int
 | .lst ds=>((ds.filter fun p=>decide (intOf (qq p)=j)).map uG).sum
 | _=>0
def thr (rs:List Dt) (j:Int):Int:=(rs.map (uO j)).sum
def Ik (d:Dt):Prop:=∃ i a,d=.tup [.int i,.int a]
def RtI (d:Dt):Prop:=∃ ds,d=.lst ds∧∀ p∈ds,Ik p
def xm (rooms:List Int) (rs:List Dt):Bool:=(List.range rooms.length).all fun j=>decide (thr rs (j:Int)≤rooms.getD j 0)
def rgI (m:Nat):List Int:=(List.range m).map fun j:Nat=>(j:Int)
def yj (rooms ns:List Int):Int:=(ns.map fun x=>rooms.getD x.toNat 0).sum
def EW (rooms:List Int) (L:List En) (G:List Int):Dt→Bool
 | .lst ds=>nP (rgI rooms.length) ds && ((pl L (L.length-1)).all (inS (ds.map intOf)) && decide (sumG L (fun e=>G.getD e 0) (inS (ds.map intOf)) L.length=yj rooms (ds.map intOf)))
 | _=>false
def uL (rooms:List Int) (L:List En) (G:List Int) (d:Dt):Bool:=decide (G.getD (L.length-1) 0=wt L (L.length-1)) || EW rooms L G d
theorem wj (rooms:List Int) (L:List En) (G:List Int) (ds:List Dt):EW rooms L G (.lst ds)=(nP (rgI rooms.length) ds && ((pl L (L.length-1)).all (inS (ds.map intOf)) && decide (sumG L (fun e=>G.getD e 0) (inS (ds.map intOf)) L.length=yj rooms (ds.map intOf)))):=rfl
def wZ (K:PySem.W.Frag):Sp:=fun vs H Q _=>∃ (a:Addr) (us:List V) (rs:List Dt) (j:Int),vs=[.ref a,.int j]∧SqL K H a us∧RpAll K H us rs∧(∀ d∈rs,RtI d)∧∀ H',Same H H'→Q (.int (thr rs j)) H'
def Am (K:PySem.W.Frag):Sp:=fun vs H Q _=>∃ (rm a:Addr) (rooms:List Int) (us:List V) (rs:List Dt),vs=[.ref rm,.ref a]∧SqL K H rm (rooms.map V.int)∧rooms.length≤60∧SqL K H a us∧RpAll K H us rs∧(∀ d∈rs,RtI d)∧∀ H',Same H H'→Q (.bl (xm rooms rs)) H'
def wC (K:PySem.W.Frag):Sp:=fun vs H Q _=>∃ (t q c:Addr) (x:V) (ps:List Nat) (ns:List Int),vs=[.ref t,.ref c]∧SqT K H t [.ref q,x]∧SqL K H q (ps.map fun j:Nat=>V.int (j:Int))∧ps.length≤64∧SqL K H c (ns.map V.int)∧∀ H',Same H H'→Q (.bl (ps.all (inS ns))) H'
def AG (K:PySem.W.Frag):Sp:=fun vs H Q _=>∃ (rm l g:Addr) (v:V) (d:Dt) (rooms G:List Int) (L:List En),vs=[.ref rm,.ref l,.ref g,v]∧SqL K H rm (rooms.map V.int)∧LnAt K H l L∧LnOk rooms.length L∧0<L.length∧SqL K H g (G.map V.int)∧G.length=L.length∧Rp K H v d∧∀ H',Same H H'→Q (.bl (EW rooms L G d)) H'
def xZ (K:PySem.W.Frag):Sp:=fun vs H Q _=>∃ (rm l g:Addr) (v:V) (d:Dt) (rooms G:List Int) (L:List En),vs=[.ref rm,.ref l,.ref g,v]∧SqL K H rm (rooms.map V.int)∧LnAt K H l L∧LnOk rooms.length L∧0<L.length∧SqL K H g (G.map V.int)∧G.length=L.length∧Rp K H v d∧∀ H',Same H H'→Q (.bl (uL rooms L G d)) H'
theorem vU {α:Type} {xs:List α} {x:α} (h:0<xs.length) (hx:xs[xs.length-1]?=some x):atI xs (-1)=some x:=by
 unfold atI ixN
 rw[if_neg (by decide),if_pos (by omega)]
 show xs[((-1:Int)+(xs.length:Int)).toNat]?=some x
 rw[show ((-1:Int)+(xs.length:Int)).toNat=xs.length-1 by omega]
 exact hx
section
variable {P:Program} {w:World} {K:PySem.W.Frag} {mg:Str→Option Value} {base:Heap} {f:Addr} {fd:FuncData}
theorem xC (F:Fun K "amount_through" "amount_through" aJ f fd) (M:Mg mg):FnOk P w K mg base CX0 1 f fd ["routes","place"] (wZ K):=by
 refine F.ok cF (fun vs H Q E h=>?_) (fun cdv A outer s H vs Q E hr h=>?_)
 ·obtain⟨a,us,rs,j,rfl,_⟩:=h
  rfl
 obtain⟨a,us,rs,j,rfl,ha,hA,ok,q⟩:=h
 refine⟨_,(@ff _ _ _ _ _ (@gI _ _ 2 _ _ _ _ cF.nd rfl fK (@dR _ _ _ _) (gG rfl) (.inl rfl)) (@ff _ _ _ _ _ (@rB _ _ _ _ _ _ _ _ PassesOwn.never rfl (@m8 _ _ _ _ (@cg _ 0 _ _ rfl jU fH fJ)) (@fT _ _ 3 _ cF.nd rfl jX (.inl rfl)) (@fL _ _ _ (@C6 _ _ 2 _ _ _ _ _ _ cF.nd rfl fK (@fZ _ _ _ _ _ _ _ _ _ (uJ rfl) i8 M.m_sum xx (@cT _ _ _ _ _ (@lB _ _ _ _ _ _ _ _ _ _ _ _ _ _ _ rfl (CompOk.make (N':=["place","pair"]) (ix:=[1]) (nl:=1) (by rfl) (fm1 rfl fm0) (by rfl) (by decide +kernel) rfl (by decide +kernel) rfl (And.intro ⟨rfl,.inl rfl,.inl rfl⟩ True.intro)) (@m8 _ _ _ _ (@cg _ 3 _ _ rfl jW dM dN)) (fun _ _ _ _ _=>(@fT _ _ 1 _ (show List.Nodup (["place","pair"]:List Str) from by decide) rfl (Or.inl rfl) (by first | exact .inl rfl | exact .inr rfl | assumption))) (fun _ _ _ _ _=>(@uZ _ _ _ (@jj _ _ _ _ _ _ _ _ (@t9 _) (@gf _ _ _ _ _ _ _ (xq (K:=K) rfl) (@pv _ 1 _ _ (by rfl) (by decreasing_trivial) (by decide) (by decide)) (@dR _ _ _ _) (fun _ _=>rfl)) (@pv _ 0 _ _ (by rfl) (by decreasing_trivial) (by decide) (by decide)) (iG _)))) (fun _ _ _ _ _=>(@gf _ _ _ _ _ _ _ (xq (K:=K) rfl) (@pv _ 1 _ _ (by rfl) (by decreasing_trivial) (by decide) (by decide)) (@dR _ _ _ _) (fun _ _=>rfl))) (by intro _; rfl)) (@dB _) (di rfl)) dW dU (di rfl) fD) Df (.inl rfl))) (by intro _; rfl)) (@fL _ _ _ (@ic _ _ _ _ (@cg _ 2 _ _ rfl jV s0 tf))))),?_⟩
 trivial
 refine⟨⟨_,ha⟩,?_⟩
 obtain⟨Pv,hP⟩:∃ Pv:Nat→St→Hp→Prop,Pv=fun i σ H'=>∃ (z:Option V) (n:Int),n=((rs.take i).map (uO j)).sum∧Same H H'∧σ=[some (.ref a),some (.int j),some (.int n),z]:=⟨_,rfl⟩
 refine uH us Pv ?_ (fun i σ H' _ h=>by rw[hP] at h; obtain⟨_,_,_,e,_⟩:=h; exact e.seq ha) ?_ ?_
 ·rw[hP]
  exact⟨_,_,rfl,fun _ _ h=>h,rfl⟩
 ·intro i v σ H1 hv h
  rw[hP] at h
  obtain⟨z,n,en,e1,rfl⟩:=h
  obtain⟨d,hd,hr'⟩:=hA.get hv
  obtain⟨ds,rfl,hp⟩:=ok d (List.mem_of_getElem? hd)
  cases hr' with
  | lst hL hB hz =>
   rename_i b xs
   have lxs:=hB.len
   trivial
   refine⟨⟨_,e1.seq hL⟩,fun D hD=>?_⟩
   obtain⟨Pc,hC⟩:∃ Pc:Nat→St→Hp→Prop,Pc=fun i τ H'=>∃ (z:Option V),H' D=some (.lst ((((ds.take i).filter fun p=>decide (intOf (qq p)=j)).map uG).map V.int))∧Same H1 H'∧τ=[some (.int j),z]:=⟨_,rfl⟩
   refine mJ xs Pc ?_ (fun i τ H' _ h=>by rw[hC] at h; obtain⟨_,_,e,_⟩:=h; exact (e1.trans e).seq hL) ?_ ?_
   ·rw[hC]
    exact⟨_,er,fS hD _,rfl⟩
   ·intro i2 x τ H' R' hx h next
    rw[hC] at h
    obtain⟨z,d1,e,rfl⟩:=h
    obtain⟨p,hp1,hv2⟩:=hB.get hx
    have li:=(List.getElem?_eq_some_iff.mp hx).1
    obtain⟨i3,a3,rfl⟩:=hp p (List.mem_of_getElem? hp1)
    have ep:(ds.take (i2+1)).filter (fun p=>decide (intOf (qq p)=j))=(ds.take i2).filter (fun p=>decide (intOf (qq p)=j))++[Dt.tup [.int i3,.int a3]].filter (fun p=>decide (intOf (qq p)=j)):=by
     rw[List.take_add_one,hp1,List.filter_append]
     rfl
    have lf:((ds.take i2).filter fun p=>decide (intOf (qq p)=j)).length≤500:=by
     refine Nat.le_trans (List.length_filter_le ..) ?_
     rw[List.length_take]
     omega
    cases hv2 with
    | tup hT hR =>
     cases hR with
     | cons h1 r1 =>
      cases r1 with
      | cons h2 r2 =>
       cases r2
       cases h1
       cases h2
       have hT':=Same.tup (e1.trans e) hT
       trivial
       refine⟨_,hT',_,rfl,?_⟩
       refine⟨rfl,?_⟩
       by_cases hz:i3=j
       ·rw[if_pos (by rw[hz])]
        refine⟨_,hT',_,rfl,_,d1,by rw[List.length_map,List.length_map]; exact Nat.lt_of_le_of_lt lf (by decide),next _ _ ?_⟩
        rw[hC]
        refine⟨_,?_,gu e hD _,rfl⟩
        rw[er,ep,List.filter_cons_of_pos (by rw[← hz]; exact decide_eq_true rfl),List.filter_nil,List.map_append,List.map_append]
        rfl
       ·rw[if_neg (fun y=>hz (V.int.inj y))]
        refine next _ _ ?_
        rw[hC]
        refine⟨_,?_,e,rfl⟩
        rw[ep,List.filter_cons_of_neg (p:=fun p=>decide (intOf (qq p)=j)) (a:=Dt.tup [.int i3,.int a3]) (fun y=>hz (of_decide_eq_true y)),List.filter_nil,List.append_nil]
        exact d1
   intro τ H2 h
   rw[hC] at h
   obtain⟨z2,d2,e2,rfl⟩:=h
   rw[lxs,List.take_length] at d2
   refine⟨D,rfl,_,SqL.of d2,?_⟩
   rw[hP]
   refine⟨_,_,?_,e1.trans e2,rfl⟩
   rw[List.take_add_one,hd,List.map_append,List.sum_append,en]
   show _=_+(uO j (.lst ds)+0)
   rw[Int.add_zero]
   rfl
 ·intro σ H1 h
  rw[hP] at h
  obtain⟨z,n,en,e1,rfl⟩:=h
  rw[hA.len,List.take_length] at en
  trivial
  rw[en]
  exact q _ e1
theorem yc (F:Fun K "keep_to_rooms" "keep_to_rooms" bh f fd) (M:Mg mg) (dO:Cal P w K mg base CX0 "amount_through" 1 ["routes","place"] (wZ K)):FnOk P w K mg base CX0 2 f fd ["rooms","routes"] (Am K):=by
 refine F.ok kR (fun vs H Q E h=>?_) (fun cdv A outer s H vs Q E hr h=>?_)
 ·obtain⟨rm,a,rooms,us,rs,rfl,_⟩:=h
  rfl
 obtain⟨rm,a,rooms,us,rs,rfl,hrm,m60,ha,hA,ok,q⟩:=h
 refine⟨_,(@fL _ _ _ (@ic _ _ _ _ (@fZ _ _ _ _ _ _ _ _ _ (tY rfl) jw M.m_all vJ (@cT _ _ _ _ _ (@lB _ _ _ _ _ _ _ _ _ _ _ _ _ _ _ rfl (CompOk.make (N':=["routes","place","room"]) (ix:=[1]) (nl:=2) (by rfl) (fm1 rfl fm0) (by rfl) (by decide +kernel) rfl (by decide +kernel) rfl (And.intro ⟨rfl,.inl rfl,.inl rfl⟩ True.intro)) (@CU _ _ _ _ _ (@wm _ _ _ _ _ _ _ _ dh M.m_enumerate (@cT _ _ _ _ _ (@cg _ 0 _ _ rfl gd cM cO) (@dB _) (di rfl)) (by rfl)) (@ya _ _ _ _ _ _ _ _ dh M.m_enumerate (@cT _ _ _ _ _ (@cg _ 0 _ _ rfl gd cM cO) (@dB _) (di rfl)) (by rfl))) (fun _ _ _ _ _=>(@uI _ K _ _ 2 _ _ rfl rfl (@ia _ _ _ _ _ (@fT _ _ 1 _ (show List.Nodup (["routes","place","room"]:List Str) from by decide) rfl (Or.inl rfl) (by first | exact .inl rfl | exact .inr rfl | assumption)) (@ia _ _ _ _ _ (@fT _ _ 2 _ (show List.Nodup (["routes","place","room"]:List Str) from by decide) rfl (Or.inl rfl) (by first | exact .inl rfl | exact .inr rfl | assumption)) (@pB _) (by rfl)) (by rfl)) (by rfl) (by rfl))) (fun _ _ _ _ _=>(@mH _)) (fun _ _ _ _ _=>(@qp _ _ _ _ _ _ _ _ yw (@gv _ _ _ _ _ _ _ _ _ _ _ dO hr rfl (@cT _ _ _ _ _ (@pv _ 0 _ _ (by rfl) (by decreasing_trivial) (by decide) (by decide)) (@cT _ _ _ _ _ (@pv _ 1 _ _ (by rfl) (by decreasing_trivial) (by decide) (by decide)) (@dB _) (di rfl)) (di rfl)) (by decide) ky (di rfl) (gw rfl fD)) (@pv _ 2 _ _ (by rfl) (by decreasing_trivial) (by decide) (by decide)) (iG _))) (by intro _; rfl)) (@dB _) (di rfl)) dG dF (di rfl) fD))),?_⟩
 trivial
 obtain⟨Pc,hC⟩:∃ Pc:Addr→Nat→St→Hp→Prop,Pc=fun D i τ H'=>∃ (y z:Option V),H' D=some (.lst (((List.range i).map fun j:Nat=>decide (thr rs (j:Int)≤rooms.getD j 0)).map V.bl))∧Same H H'∧τ=[some (.ref a),y,z]:=⟨_,rfl⟩
 refine xE (rooms.map V.int) (.inl hrm) _ Pc ?_ (fun D i τ H' hD h=>by rw[hC] at h; obtain⟨y,z,_,e,_⟩:=h; exact e) ?_ ?_
 ·intro D hD
  rw[hC]
  exact⟨_,_,er,fS hD _,rfl⟩
 ·intro D i x T τ H' R' hD hx h hT next
  rw[hC] at h
  obtain⟨y,z,d1,e,rfl⟩:=h
  rw[List.getElem?_map] at hx
  obtain⟨o,ho,rfl⟩:=Option.map_eq_some_iff.mp hx
  have li:=(List.getElem?_eq_some_iff.mp ho).1
  have eo:rooms.getD i 0=o:=by rw[List.getD,ho]; rfl
  obtain⟨H2,g2,S2,T2⟩:=ji (K:=K) hT [.int i,.int o]
  rw[← g2]
  clear g2
  trivial
  refine⟨_,T2,rfl,?_⟩
  trivial
  refine⟨a,us,rs,_,rfl,(e.trans S2).seq ha,hA.same (e.trans S2),ok,fun H3 e3=>⟨_,rfl,_,(S2.trans e3) _ _ d1,?_,next _ _ ?_⟩⟩
  ·rw[List.length_map,List.length_map,List.length_range]
   exact Nat.lt_of_lt_of_le (m:=1000) (by omega) (by decide)
  ·rw[hC]
   refine⟨_,_,?_,gu ((e.trans S2).trans e3) hD _,rfl⟩
   rw[er,List.range_succ,List.map_append,List.map_append,← eo]
   rfl
 ·intro D τ H1 hD h
  rw[hC] at h
  obtain⟨y,z,d1,e1,rfl⟩:=h
  rw[List.length_map] at d1
  refine⟨D,rfl,_,SqL.of d1,?_⟩
  rw[List.all_map]
  exact q _ e1
theorem Ac (F:Fun K "is_within" "is_within" cu f fd) (M:Mg mg):FnOk P w K mg base CX0 1 f fd ["entry","cut"] (wC K):=by
 refine F.ok qc (fun vs H Q E h=>?_) (fun cdv A outer s H vs Q E hr h=>?_)
 ·obtain⟨t,q,c,x,ps,ns,rfl,_⟩:=h
  rfl
 obtain⟨t,q',c,x,ps,ns,rfl,ht,hq,l64,hc,q⟩:=h
 refine⟨_,(@fL _ _ _ (@ic _ _ _ _ (@fZ _ _ _ _ _ _ _ _ _ (tY rfl) lH M.m_all vJ (@cT _ _ _ _ _ (@lB _ _ _ _ _ _ _ _ _ _ _ _ _ _ _ rfl (CompOk.make (N':=["cut","place"]) (ix:=[1]) (nl:=1) (by rfl) (fm1 rfl fm0) (by rfl) (by decide +kernel) rfl (by decide +kernel) rfl (And.intro ⟨rfl,.inl rfl,.inl rfl⟩ True.intro)) (@m8 _ _ _ _ (@gf _ _ _ _ _ _ _ (@jl _) (@cg _ 0 _ _ rfl nR aZ ba) (@dR _ _ _ _) (fun _ _=>rfl))) (fun _ _ _ _ _=>(@fT _ _ 1 _ (show List.Nodup (["cut","place"]:List Str) from by decide) rfl (Or.inl rfl) (by first | exact .inl rfl | exact .inr rfl | assumption))) (fun _ _ _ _ _=>(@mH _)) (fun _ _ _ _ _=>(@qp _ _ _ _ _ _ _ _ (yr (K:=K) rfl) (@pv _ 1 _ _ (by rfl) (by decreasing_trivial) (by decide) (by decide)) (@pv _ 0 _ _ (by rfl) (by decreasing_trivial) (by decide) (by decide)) (by with_unfolding_all rfl))) (by intro _; rfl)) (@dB _) (di rfl)) dG dF (di rfl) fD))),?_⟩
 trivial
 refine⟨_,ht,_,rfl,_,rfl,⟨_,hq⟩,fun D hD=>?_⟩
 obtain⟨Pc,hC⟩:∃ Pc:Nat→St→Hp→Prop,Pc=fun i τ H'=>∃ (z:Option V),H' D=some (.lst (((ps.take i).map (inS ns)).map V.bl))∧Same H H'∧τ=[some (.ref c),z]:=⟨_,rfl⟩
 refine mJ (ps.map fun j:Nat=>V.int (j:Int)) Pc ?_ (fun i τ H' _ h=>by rw[hC] at h; obtain⟨_,_,e,_⟩:=h; exact e.seq hq) ?_ ?_
 ·rw[hC]
  exact⟨_,er,fS hD _,rfl⟩
 ·intro i v τ H' R' hv h next
  rw[hC] at h
  obtain⟨z,d1,e,rfl⟩:=h
  rw[List.getElem?_map] at hv
  obtain⟨j,hj,rfl⟩:=Option.map_eq_some_iff.mp hv
  have li:=(List.getElem?_eq_some_iff.mp hj).1
  trivial
  refine⟨c,_,rfl,.inl (e.seq hc),rfl,zk ns,_,d1,?_,next _ _ ?_⟩
  ·rw[List.length_map,List.length_map,List.length_take]
   exact Nat.lt_of_lt_of_le (m:=1000) (by omega) (by decide)
  ·rw[hC]
   refine⟨_,?_,gu e hD _,rfl⟩
   rw[er,List.take_add_one,hj,List.map_append,List.map_append,xG]
   rfl
 intro τ H1 h
 rw[hC] at h
 obtain⟨z,d1,e1,rfl⟩:=h
 rw[List.length_map,List.take_length] at d1
 refine⟨D,rfl,_,SqL.of d1,?_⟩
 rw[List.all_map]
 exact q _ e1
theorem DA (F:Fun K "is_cut" "is_cut" aR f fd) (M:Mg mg) (cH:Cal P w K mg base CX0 "are_places" 2 ["some","allowed"] (wc K)) (fm:Cal P w K mg base CX0 "is_within" 1 ["entry","cut"] (wC K)):FnOk P w K mg base CX0 3 f fd ["rooms","line","granted","cut"] (AG K):=by
 refine F.ok nz (fun vs H Q E h=>?_) (fun cdv A outer s H vs Q E hr h=>?_)
 ·obtain⟨rm,l,g,v,d,rooms,G,L,rfl,_⟩:=h
  rfl
 obtain⟨rm,l,g,v,d,rooms,G,L,rfl,hrm,hL,lok,l0,hg,lG,hv,q⟩:=h
 refine⟨_,(@ff _ _ _ _ _ (@nS _ _ _ _ _ _ _ _ (@PW.pt _ _ _ (@FL _ _ _ _ _ _ _ (@tO _ _ _ _ (@sG _ _ _ (@fZ _ _ _ _ _ _ _ _ _ uY jx M.m_isinstance sX (@cT _ _ _ _ _ (@cg _ 3 _ _ rfl gh iR iS) (@cT _ _ _ _ _ (@vq _ _ (.ty "list") _ _ jm M.m_list r8 rfl bq bo) (@dB _) (di rfl)) (di rfl)) bz bx (di rfl) (gw rfl fD)) (um rfl))) (@C0 _ _ _ _ (@tO _ _ _ _ (@sG _ _ _ (@gv _ _ _ _ _ _ _ _ _ _ _ cH hr jz (@cT _ _ _ _ _ (@cg _ 3 _ _ rfl gh iR iS) (@cT _ _ _ _ _ (@CQ _ _ _ _ _ _ _ rfl jm M.m_list mT M.m_range (@cT _ _ _ _ _ (@fZ _ _ _ _ _ _ _ _ _ gJ qd M.m_len nj (@cT _ _ _ _ _ (@cg _ 0 _ _ rfl rV cM cO) (@dB _) (di rfl)) aF aE (di rfl) fD) (@dB _) (di rfl)) rfl rfl (fun _=>rfl)) (@dB _) (di rfl)) (di rfl)) (by decide) fN (di rfl) (gw rfl fD)) (um rfl)))))) (@fL _ _ _ (@ic _ _ _ _ (@uv _ _ _ _))) (@kN _)) (@ff _ _ _ _ _ (@nS _ _ _ _ _ _ _ _ (@tO _ _ _ _ (@sG _ _ _ (@gv _ _ _ _ _ _ _ _ _ _ _ fm hr jY (@cT _ _ _ _ _ (@gf _ _ _ _ _ _ _ (@gK _) (@cg _ 1 _ _ rfl lI bC bE) (@vF _ _ _ _ _ _ (@u7 _) (@dR _ _ _ _)) (fun _ _=>rfl)) (@cT _ _ _ _ _ (@cg _ 3 _ _ rfl gh iR iS) (@dB _) (di rfl)) (di rfl)) (by decide) jT (di rfl) (gw rfl fD)) (um rfl))) (@fL _ _ _ (@ic _ _ _ _ (@uv _ _ _ _))) (@kN _)) (@ff _ _ _ _ _ (@gI _ _ 4 _ _ _ _ nz.nd rfl rY (@fZ _ _ _ _ _ _ _ _ _ (uJ rfl) jZ M.m_sum xx (@cT _ _ _ _ _ (@lB _ _ _ _ _ _ _ _ _ _ _ _ _ _ _ rfl (CompOk.make (N':=["cut","entry","grant"]) (ix:=[3]) (nl:=2) (by rfl) (fm1 rfl fm0) (by rfl) (by decide +kernel) rfl (by decide +kernel) rfl (And.intro ⟨rfl,.inl rfl,.inl rfl⟩ True.intro)) (@BG _ _ _ _ _ _ _ _ _ qg M.m_zip (@cT _ _ _ _ _ (@cg _ 1 _ _ rfl lI bC bE) (@cT _ _ _ _ _ (@cg _ 2 _ _ rfl rW cV cW) (@dB _) (di rfl)) (di rfl)) (star2' rfl rfl) (star1' rfl)) (fun _ _ _ _ _=>(@uI _ K _ _ 2 _ _ rfl rfl (@ia _ _ _ _ _ (@fT _ _ 1 _ (show List.Nodup (["cut","entry","grant"]:List Str) from by decide) rfl (Or.inl rfl) (by first | exact .inl rfl | exact .inr rfl | assumption)) (@ia _ _ _ _ _ (@fT _ _ 2 _ (show List.Nodup (["cut","entry","grant"]:List Str) from by decide) rfl (Or.inl rfl) (by first | exact .inl rfl | exact .inr rfl | assumption)) (@pB _) (by rfl)) (by rfl)) (by rfl) (by rfl))) (fun _ _ _ _ _=>(@uZ _ _ _ (@sG _ _ _ (@gv _ _ _ _ _ _ _ _ _ _ _ fm hr rfl (@cT _ _ _ _ _ (@pv _ 1 _ _ (by rfl) (by decreasing_trivial) (by decide) (by decide)) (@cT _ _ _ _ _ (@pv _ 0 _ _ (by rfl) (by decreasing_trivial) (by decide) (by decide)) (@dB _) (di rfl)) (di rfl)) (by decide) jT (di rfl) (gw rfl fD)) (um rfl)))) (fun _ _ _ _ _=>(@pv _ 2 _ _ (by rfl) (by decreasing_trivial) (by decide) (by decide))) (by intro _; rfl)) (@dB _) (di rfl)) dW dU (di rfl) fD) (gG rfl) (.inl rfl)) (@fL _ _ _ (@ic _ _ _ _ (@qp _ _ _ _ _ _ _ _ (@t9 _) (@cg _ 4 _ _ rfl rX sD sE) (@fZ _ _ _ _ _ _ _ _ _ (uJ rfl) jZ M.m_sum xx (@cT _ _ _ _ _ (@lB _ _ _ _ _ _ _ _ _ _ _ _ _ _ _ rfl (CompOk.make (N':=["rooms","place"]) (ix:=[0]) (nl:=1) (by rfl) (fm1 rfl fm0) (by rfl) (by decide +kernel) rfl (by decide +kernel) rfl (And.intro ⟨rfl,.inl rfl,.inl rfl⟩ True.intro)) (@m8 _ _ _ _ (@cg _ 3 _ _ rfl gh iR iS)) (fun _ _ _ _ _=>(@fT _ _ 1 _ (show List.Nodup (["rooms","place"]:List Str) from by decide) rfl (Or.inl rfl) (by first | exact .inl rfl | exact .inr rfl | assumption))) (fun _ _ _ _ _=>(@mH _)) (fun _ _ _ _ _=>(@gf _ _ _ _ _ _ _ (@vZ _ K rfl) (@pv _ 0 _ _ (by rfl) (by decreasing_trivial) (by decide) (by decide)) (@pv _ 1 _ _ (by rfl) (by decreasing_trivial) (by decide) (by decide)) (fun _ _=>rfl))) (by intro _; rfl)) (@dB _) (di rfl)) dW dU (di rfl) fD) (iG _))))))),?_⟩
 obtain⟨us,hus,hpa⟩:=id hL
 have lus:us.length=L.length:=Paired.length hpa
 have l64:=lok.l
 have m60:=lok.m
 trivial
 refine⟨_,hv.kd,?_⟩
 cases hv with
 | lst hc hA hz =>
  rename_i c xs ds
  rw[if_neg (fun z:mj (knD (Dt.lst ds)) Kn.lst=false=>by cases z)]
  refine⟨_,.inl hrm,rooms.length,by rw[List.length_map],by omega,fun r hr'=>?_⟩
  obtain⟨H1,g1,S1,T1⟩:∃ H1,H1=upd H r (.lst ((List.range rooms.length).map fun j:Nat=>V.int (j:Int)))∧Same H H1∧H1 r=some (.lst ((List.range rooms.length).map fun j:Nat=>V.int (j:Int))):=⟨_,rfl,fS hr' _,er⟩
  rw[← g1]
  clear g1
  refine⟨c,r,xs,ds,rgI rooms.length,rfl,S1.seq hc,hA.same S1,hz,by rw[rgI,List.map_map]; exact SqL.of T1,fun H2 S2=>⟨_,rfl,?_⟩⟩
  have e2:=S1.trans S2
  cases hz1:nP (rgI rooms.length) ds with
  | false =>
   rw[if_pos rfl]
   have:=q _ e2
   rw[wj,hz1] at this
   exact this
  | true =>
   rw[if_neg (by decide)]
   have hz1':=hz1
   unfold nP at hz1'
   rw[Bool.and_eq_true] at hz1'
   have eu:=all_ints hA hz1'.1
   obtain⟨ns,hns⟩:∃ ns,ns=ds.map intOf:=⟨_,rfl⟩
   rw[← hns] at eu
   rw[eu] at hc
   have rg:∀ x∈ns,∃ j:Nat,x=(j:Int)∧j<rooms.length:=fun x hx=>by
    rw[hns] at hx
    obtain⟨d,hd,rfl⟩:=List.mem_map.mp hx
    have hp:=List.all_eq_true.mp hz1'.1 d hd
    cases d with
    | int i =>
     obtain⟨j,hj,ej⟩:=List.mem_map.mp (of_decide_eq_true hp)
     exact⟨j,ej.symm,List.mem_range.mp hj⟩
    | _=>cases hp
   have lns:ns.length≤500:=by rw[hns,List.length_map]; exact hz
   obtain⟨en,hen⟩:∃ en,L[L.length-1]?=some en:=⟨_,List.getElem?_eq_getElem (by omega)⟩
   obtain⟨te,qe,a1,a2,a3⟩:=sH (uq e2 hpa) hen
   have ep:pl L (L.length-1)=en.1:=by rw[pl,List.getD,hen]; rfl
   refine⟨us,e2.seq hus,_,vU (by omega) (by rw[lus]; exact a1),te,qe,c,_,en.1,ns,rfl,a2,a3,(lok.pl en (List.mem_of_getElem? hen)).1,e2.seq hc,fun H3 S3=>⟨_,rfl,?_⟩⟩
   have e3:=e2.trans S3
   have eq0:∀ H',Same H H'→Q (.bl (en.1.all (inS ns) && decide (sumG L (fun e=>G.getD e 0) (inS ns) L.length=yj rooms ns))) H':=fun H' e=>by
    have:=q _ e
    rw[wj,hz1,← hns,ep,Bool.true_and] at this
    exact this
   cases hz2:en.1.all (inS ns) with
   | false =>
    rw[if_pos rfl]
    have:=eq0 _ e3
    rw[hz2] at this
    exact this
   | true =>
    rw[if_neg (by decide)]
    refine⟨⟨_,e3.seq hus⟩,⟨_,e3.seq hg⟩,fun D hD=>?_⟩
    obtain⟨Pc,hC⟩:∃ Pc:Nat→St→Hp→Prop,Pc=fun i τ H'=>∃ (y z:Option V) (ms:List Int),H' D=some (.lst (ms.map V.int))∧ms.length≤i∧ms.sum=sumG L (fun e=>G.getD e 0) (inS ns) i∧Same H3 H'∧τ=[some (.ref c),y,z]:=⟨_,rfl⟩
    refine ym us (G.map V.int) (by rw[List.length_map]; omega) Pc ?_ (fun i τ H' _ h=>by rw[hC] at h; obtain⟨_,_,_,_,_,_,e,_⟩:=h; exact⟨(e3.trans e).seq hus,(e3.trans e).seq hg⟩) ?_ ?_
    ·rw[hC]
     exact⟨_,_,[],er,Nat.le_refl _,rfl,fS hD _,rfl⟩
    ·intro i x y T τ H' R' hx hy h hT next
     rw[hC] at h
     obtain⟨y0,z0,ms,d1,lm,em,e,rfl⟩:=h
     have li:=(List.getElem?_eq_some_iff.mp hx).1
     obtain⟨ei,hei⟩:∃ ei,L[i]?=some ei:=⟨_,List.getElem?_eq_getElem (by omega)⟩
     obtain⟨ti,qi,b1,b2,b3⟩:=sH hpa hei
     rw[hx] at b1
     cases b1
     rw[List.getElem?_map] at hy
     obtain⟨gi,hgi,rfl⟩:=Option.map_eq_some_iff.mp hy
     have eg:G.getD i 0=gi:=by rw[List.getD,hgi]; rfl
     have epi:pl L i=ei.1:=by rw[pl,List.getD,hei]; rfl
     obtain⟨H4,g4,S4,T4⟩:=ji (K:=K) hT [.ref ti,.int gi]
     rw[← g4]
     clear g4
     have e4:=(e3.trans e).trans S4
     trivial
     refine⟨_,T4,rfl,?_⟩
     trivial
     refine⟨ti,qi,c,_,ei.1,ns,rfl,Same.tup e4 b2,e4.seq b3,(lok.pl ei (List.mem_of_getElem? hei)).1,e4.seq hc,fun H5 S5=>⟨_,rfl,?_⟩⟩
     have d5:=(S4.trans S5) _ _ d1
     have es:sumG L (fun e=>G.getD e 0) (inS ns) (i+1)=sumG L (fun e=>G.getD e 0) (inS ns) i+(if ei.1.all (inS ns)=true then gi else 0):=by
      unfold sumG
      rw[iW,epi,← eg]
     by_cases hz3:ei.1.all (inS ns)=true
     ·rw[if_pos hz3]
      refine⟨_,d5,by rw[List.length_map]; exact Nat.lt_of_lt_of_le (m:=1000) (by omega) (by decide),next _ _ ?_⟩
      rw[hC]
      refine⟨_,_,ms++[gi],by rw[er,List.map_append]; rfl,by rw[List.length_append,List.length_singleton]; omega,?_,gu ((e.trans S4).trans S5) hD _,rfl⟩
      rw[List.sum_append,es,if_pos hz3,em]
      simp
     ·rw[if_neg hz3]
      refine next _ _ ?_
      rw[hC]
      refine⟨_,_,ms,d5,by omega,?_,(e.trans S4).trans S5,rfl⟩
      rw[es,if_neg hz3,em,Int.add_zero]
    intro τ H4 h
    rw[hC] at h
    obtain⟨y0,z0,ms,d4,lm,em,e4,rfl⟩:=h
    rw[lus] at em
    have e34:=e3.trans e4
    refine⟨D,rfl,_,SqL.of d4,_,rfl,⟨_,e34.seq hc⟩,fun D2 hD2=>?_⟩
    obtain⟨Pc,hC2⟩:∃ Pc:Nat→St→Hp→Prop,Pc=fun i τ H'=>∃ (z:Option V),H' D2=some (.lst (((ns.take i).map fun x=>rooms.getD x.toNat 0).map V.int))∧Same H4 H'∧τ=[some (.ref rm),z]:=⟨_,rfl⟩
    refine mJ (ns.map V.int) Pc ?_ (fun i τ H' _ h=>by rw[hC2] at h; obtain⟨_,_,e,_⟩:=h; exact (e34.trans e).seq hc) ?_ ?_
    ·rw[hC2]
     exact⟨_,er,fS hD2 _,rfl⟩
    ·intro i v τ H' R' hv h next
     rw[hC2] at h
     obtain⟨z2,d1,e,rfl⟩:=h
     rw[List.getElem?_map] at hv
     obtain⟨x,hx,rfl⟩:=Option.map_eq_some_iff.mp hv
     obtain⟨j,ej,hj⟩:=rg x (List.mem_of_getElem? hx)
     have li:=(List.getElem?_eq_some_iff.mp hx).1
     have xat:atI (rooms.map V.int) x=some (.int (rooms.getD x.toNat 0)):=ux (by omega) (by omega)
     trivial
     refine⟨_,(e34.trans e).seq hrm,_,xat,_,d1,?_,next _ _ ?_⟩
     ·rw[List.length_map,List.length_map,List.length_take]
      exact Nat.lt_of_lt_of_le (m:=1000) (by omega) (by decide)
     ·rw[hC2]
      refine⟨_,?_,gu e hD2 _,rfl⟩
      rw[er,List.take_add_one,hx,List.map_append,List.map_append]
      rfl
    intro τ H5 h
    rw[hC2] at h
    obtain⟨z2,d5,e5,rfl⟩:=h
    rw[List.length_map,List.take_length] at d5
    refine⟨D2,rfl,_,SqL.of d5,?_⟩
    have:=eq0 _ (e34.trans e5)
    rw[hz2,Bool.true_and,← em] at this
    exact this
 | _=>exact q _ (fun _ _ h=>h)
theorem AA (F:Fun K "cut_holds" "cut_holds" bG f fd) (M:Mg mg) (kT:Cal P w K mg base CX0 "is_cut" 3 ["rooms","line","granted","cut"] (AG K)):FnOk P w K mg base CX0 4 f fd ["rooms","line","granted","cut"] (xZ K):=by
 refine F.ok qh (fun vs H Q E h=>?_) (fun cdv A outer s H vs Q E hr h=>?_)
 ·obtain⟨rm,l,g,v,d,rooms,G,L,rfl,_⟩:=h
  rfl
 obtain⟨rm,l,g,v,d,rooms,G,L,rfl,hrm,hL,lok,l0,hg,lG,hv,q⟩:=h
 refine⟨_,(@fL _ _ _ (@ic _ _ _ _ (@IA _ _ _ _ _ _ _ (@qp _ _ _ _ _ _ _ _ (@t9 _) (@gf _ _ _ _ _ _ _ (@gK _) (@cg _ 2 _ _ rfl jo cV cW) (@vF _ _ _ _ _ _ (@u7 _) (@dR _ _ _ _)) (fun _ _=>rfl)) (@gf _ _ _ _ _ _ _ (@jl _) (@gf _ _ _ _ _ _ _ (@gK _) (@cg _ 1 _ _ rfl jn bC bE) (@vF _ _ _ _ _ _ (@u7 _) (@dR _ _ _ _)) (fun _ _=>rfl)) (@dR _ _ _ _) (fun _ _=>rfl)) (iG _)) (@vE _ _ _ _ _ (@gv _ _ _ _ _ _ _ _ _ _ _ kT hr j3 (@cT _ _ _ _ _ (@cg _ 0 _ _ rfl nT cM cO) (@cT _ _ _ _ _ (@cg _ 1 _ _ rfl jn bC bE) (@cT _ _ _ _ _ (@cg _ 2 _ _ rfl jo cV cW) (@cT _ _ _ _ _ (@cg _ 3 _ _ rfl nU iR iS) (@dB _) (di rfl)) (di rfl)) (di rfl)) (di rfl)) (by decide) sF (di rfl) (gw rfl (gw rfl (gw rfl fD)))))))),?_⟩
 obtain⟨us,hus,hpa⟩:=id hL
 have lus:us.length=L.length:=Paired.length hpa
 obtain⟨en,hen⟩:∃ en,L[L.length-1]?=some en:=⟨_,List.getElem?_eq_getElem (by omega)⟩
 obtain⟨te,qe,a1,a2,a3⟩:=sH hpa hen
 have ew:wt L (L.length-1)=en.2:=by rw[wt,List.getD,hen]; rfl
 rw[← ew] at a2
 have gl:(G.map V.int)[(G.map V.int).length-1]?=some (.int (G.getD (L.length-1) 0)):=by
  rw[List.length_map,lG,List.getElem?_map,List.getElem?_eq_getElem (by omega),My.getD_at (by omega)]
  rfl
 trivial
 refine⟨_,hg,_,vU (by rw[List.length_map]; omega) gl,us,hus,_,vU (by omega) (by rw[lus]; exact a1),te,rfl,_,a2,_,rfl,rfl,?_⟩
 by_cases hz:G.getD (L.length-1) 0=wt L (L.length-1)
 ·rw[if_pos (by rw[hz])]
  have:=q _ (fun _ _ h=>h)
  unfold uL at this
  rw[decide_eq_true hz] at this
  exact this
 ·rw[if_neg (fun y=>hz (V.int.inj y))]
  refine⟨rm,l,g,v,d,rooms,G,L,rfl,hrm,hL,lok,l0,hg,lG,hv,fun H1 e1=>?_⟩
  have:=q _ e1
  unfold uL at this
  rw[decide_eq_false hz] at this
  exact this
end
end MyU
namespace MyV
open My MyB MyC MyD MyE MyF MyG MyS MyI MyJ MyK MyT MyU PySem L2
def top (i:Nat):Stmt:=PySem.Challenge.pw_tariffgate_k67_whole_no_other.main.body.getD i (.Pass ⟨0,0,0,0⟩)
theorem kU:(("keep_to_rooms":Str) == ("__debug__":Str))=false:=by decide
theorem qj:(("cut_holds":Str) == ("__debug__":Str))=false:=by decide
theorem nV:(("is_list_of":Str) == ("__debug__":Str))=false:=by decide
theorem qS:(("is_grant":Str) == ("__debug__":Str))=false:=by decide
theorem qT:(("is_route":Str) == ("__debug__":Str))=false:=by decide
abbrev bw:Stmt:=top 13
theorem rZ:FnScope ["rooms","line","granted","routes","cuts"] ["rooms","line","granted","routes","cuts"] (defScope bw):=⟨rfl,rfl,rfl,by decide +kernel,rfl,by decide +kernel,by decide +kernel⟩
theorem qU:Vis (defScope bw) "rooms":=by decreasing_trivial
theorem kD:Vis (defScope bw) "line":=by decreasing_trivial
theorem im:Vis (defScope bw) "granted":=by decreasing_trivial
theorem io:Vis (defScope bw) "routes":=by decreasing_trivial
theorem ip:Vis (defScope bw) "cuts":=by decreasing_trivial
theorem dI:(defScope bw).names.lookup ("all":Str)=some .globalImplicit:=by rfl
theorem jp:(defScope bw).names.lookup ("zip":Str)=some .globalImplicit:=by rfl
theorem hG:(defScope bw).names.lookup ("keep_to_rooms":Str)=some .globalImplicit:=by rfl
theorem eJ:(defScope bw).names.lookup ("enumerate":Str)=some .globalImplicit:=by rfl
def t8 (rooms:List Int) (L:List En) (dg dr dc:Dt):Bool :=
 (pX L.length dg && (pX L.length dr && pX L.length dc)) && match dg,dr,dc with
 | .lst gs,.lst rs,.lst cs=>((List.range L.length).all fun e=>uh (wt L e) (gs.getD e .non)) && (((List.range L.length).all fun e=>tN (pl L e) (intOf (gs.getD e .non)) (rs.getD e .non)) && (xm rooms rs && (List.range L.length).all fun e=>uL rooms (L.take (e+1)) ((gs.map intOf).take (e+1)) (cs.getD e .non)))
 | _,_,_=>false
def wJ (K:PySem.W.Frag):Sp:=fun vs H Q _=>∃ (rm l:Addr) (vg vr vc:V) (rooms:List Int) (L:List En) (dg dr dc:Dt),vs=[.ref rm,.ref l,vg,vr,vc]∧SqL K H rm (rooms.map V.int)∧LnAt K H l L∧LnOk rooms.length L∧Rp K H vg dg∧Rp K H vr dr∧Rp K H vc dc∧∀ H',Same H H'→Q (.bl (t8 rooms L dg dr dc)) H'
theorem yD (rooms:List Int) (L:List En) (gs rs cs:List Dt) (h1:gs.length=L.length) (h2:rs.length=L.length) (h3:cs.length=L.length):t8 rooms L (.lst gs) (.lst rs) (.lst cs)=(((List.range L.length).all fun e=>uh (wt L e) (gs.getD e .non)) && (((List.range L.length).all fun e=>tN (pl L e) (intOf (gs.getD e .non)) (rs.getD e .non)) && (xm rooms rs && (List.range L.length).all fun e=>uL rooms (L.take (e+1)) ((gs.map intOf).take (e+1)) (cs.getD e .non)))):=by
 unfold t8
 rw[show pX L.length (.lst gs)=true from decide_eq_true h1,show pX L.length (.lst rs)=true from decide_eq_true h2,show pX L.length (.lst cs)=true from decide_eq_true h3]
 rfl
theorem vS {n:Nat} {d:Dt} (h:pX n d=true):∃ ds,d=.lst ds∧ds.length=n:=by
 cases d with
 | lst ds=>exact⟨ds,rfl,of_decide_eq_true h⟩
 | _=>cases h
theorem Cj {K:PySem.W.Frag} {H:Hp} {us:List V} {gs:List Dt} (hA:RpAll K H us gs) (h:∀ e,e<gs.length→∃ w,uh w (gs.getD e .non)=true):us=(gs.map intOf).map V.int:=by
 induction gs generalizing us with
 | nil=>cases hA; rfl
 | cons d gs ih =>
  cases hA with
  | cons hv r =>
   rw[List.map_cons,List.map_cons,← ih r fun e he=>by
    obtain⟨w,hw⟩:=h (e+1) (by rw[List.length_cons]; omega)
    exact⟨w,hw⟩]
   obtain⟨w,hw⟩:=h 0 (by rw[List.length_cons]; omega)
   change uh w d=true at hw
   cases hv with
   | int i=>rfl
   | _=>cases hw
theorem BJ {d:Dt} (h:uw d=true):∃ x i,d=.tup [x,.int i]∧1≤i:=by
 cases d with
 | tup ds =>
  rcases ds with _ | ⟨x,_ | ⟨y,_ | ⟨z,r⟩⟩⟩
  ·cases h
  ·cases h
  ·cases y with
   | int i=>exact⟨x,i,rfl,of_decide_eq_true h⟩
   | _=>cases h
  ·cases y <;> cases h
 | _=>cases h
theorem vW {al:List Int} {d:Dt} (h:uN al d=true):∃ j,d=.int j∧j∈al:=by
 cases d with
 | int j=>exact⟨j,rfl,of_decide_eq_true h⟩
 | _=>cases h
theorem Gu {ps:List Nat} {g:Int} {d:Dt} (h:tN ps g d=true):RtI d:=by
 cases d with
 | lst ds =>
  rw[sC,Bool.and_eq_true,Bool.and_eq_true] at h
  obtain⟨h1,h2,h3⟩:=h
  unfold nP at h2
  rw[Bool.and_eq_true] at h2
  refine⟨ds,rfl,fun p hp=>?_⟩
  have a1:=List.all_eq_true.mp h1 p hp
  have a2:=List.all_eq_true.mp h2.1 (qq p) (List.mem_map.mpr ⟨p,hp,rfl⟩)
  obtain⟨x,i,rfl,_⟩:=BJ a1
  obtain⟨j,rfl,_⟩:=vW a2
  exact⟨j,i,rfl⟩
 | _=>cases h
theorem GK {m:Nat} {L:List En} (h:LnOk m L) (k:Nat):LnOk m (L.take k):=⟨by rw[List.length_take]; have:=h.l; omega,fun en he=>h.pl en (List.mem_of_mem_take he),fun en he=>h.nd en (List.mem_of_mem_take he),h.m,fun en he=>h.w en (List.mem_of_mem_take he)⟩
theorem zx {α β:Type} {R:α→β→Prop}:∀ {xs:List α} {ys:List β} (k:Nat),Paired R xs ys→Paired R (xs.take k) (ys.take k)
 | _,_,0,_=>by rw[List.take_zero,List.take_zero]; exact .nil
 | _,_,_+1,.nil=>.nil
 | _,_,k+1,.cons r t=>by rw[List.take_succ_cons,List.take_succ_cons]; exact .cons r (zx k t)
theorem BK {xs:List V} {n:Nat}:x8 xs none (some ((n:Int)+1))=xs.take (n+1):=by
 rw[show ((n:Int)+1)=((n+1:Nat):Int) by omega]
 exact Hh
theorem nL {H:Hp} {p:Addr} (h:H p=none) (xs:List V):∃ H1,H1=upd H p (.lst xs)∧Same H H1∧H1 p=some (.lst xs):=⟨_,rfl,fS h _,er⟩
section
variable {P:Program} {w:World} {K:PySem.W.Frag} {mg:Str→Option Value} {base:Heap} {f:Addr} {fd:FuncData}
theorem Cu (F:Fun K "lets_by" "lets_by" bw f fd) (M:Mg mg) (gR:Cal P w K mg base CX0 "is_list_of" 1 ["thing","many"] (xU K)) (i9:Cal P w K mg base CX0 "is_grant" 2 ["entry","grant"] (xQ K)) (ja:Cal P w K mg base CX0 "is_route" 3 ["entry","grant","route"] (xV K)) (eh:Cal P w K mg base CX0 "keep_to_rooms" 2 ["rooms","routes"] (Am K)) (iq:Cal P w K mg base CX0 "cut_holds" 4 ["rooms","line","granted","cut"] (xZ K)):FnOk P w K mg base CX0 5 f fd ["rooms","line","granted","routes","cuts"] (wJ K):=by
 refine F.ok rZ (fun vs H Q E h=>?_) (fun cdv A outer s H vs Q E hr h=>?_)
 ·obtain⟨rm,l,vg,vr,vc,rooms,L,dg,dr,dc,rfl,_⟩:=h
  rfl
 obtain⟨rm,l,vg,vr,vc,rooms,L,dg,dr,dc,rfl,hrm,hL,lok,hg,hr',hc,q⟩:=h
 refine⟨_,(@ff _ _ _ _ _ (@nS _ _ _ _ _ _ _ _ (@tO _ _ _ _ (@sG _ _ _ (@fZ _ _ _ _ _ _ _ _ _ (tY rfl) dI M.m_all vJ (@cT _ _ _ _ _ (@lB _ _ _ _ _ _ _ _ _ _ _ _ _ _ _ rfl (CompOk.make (N':=["line","thing"]) (ix:=[1]) (nl:=1) (by rfl) (fm1 rfl fm0) (by rfl) (by decide +kernel) rfl (by decide +kernel) rfl (And.intro ⟨rfl,.inl rfl,.inl rfl⟩ True.intro)) (@Hw _ _ _ _ (@qt _ _ _ _ _ (@cT _ _ _ _ _ (@cg _ 2 _ _ rfl im cV cW) (@cT _ _ _ _ _ (@cg _ 3 _ _ rfl io fH fJ) (@cT _ _ _ _ _ (@cg _ 4 _ _ rfl ip gn gp) (@dB _) (di rfl)) (di rfl)) (di rfl)))) (fun _ _ _ _ _=>(@fT _ _ 1 _ (show List.Nodup (["line","thing"]:List Str) from by decide) rfl (Or.inl rfl) (by first | exact .inl rfl | exact .inr rfl | assumption))) (fun _ _ _ _ _=>(@mH _)) (fun _ _ _ _ _=>(@gv _ _ _ _ _ _ _ _ _ _ _ gR hr rfl (@cT _ _ _ _ _ (@pv _ 1 _ _ (by rfl) (by decreasing_trivial) (by decide) (by decide)) (@cT _ _ _ _ _ (@fZ _ _ _ _ _ _ _ _ _ (zG (K:=K) rfl) rfl M.m_len nj (@cT _ _ _ _ _ (@pv _ 0 _ _ (by rfl) (by decreasing_trivial) (by decide) (by decide)) (@dB _) (di rfl)) aF aE (di rfl) fD) (@dB _) (di rfl)) (di rfl)) (by decide) nV (di rfl) (gw rfl fD))) (by intro _; rfl)) (@dB _) (di rfl)) dG dF (di rfl) fD) (um rfl))) (@fL _ _ _ (@ic _ _ _ _ (@uv _ _ _ _))) (@kN _)) (@ff _ _ _ _ _ (@nS _ _ _ _ _ _ _ _ (@tO _ _ _ _ (@sG _ _ _ (@fZ _ _ _ _ _ _ _ _ _ (tY rfl) dI M.m_all vJ (@cT _ _ _ _ _ (@lB _ _ _ _ _ _ _ _ _ _ _ _ _ _ _ rfl (CompOk.make (N':=["entry","grant"]) (ix:=[]) (nl:=2) (by rfl) fm0 (by rfl) (by decide +kernel) rfl (by decide +kernel) rfl True.intro) (@BG _ _ _ _ _ _ _ _ _ jp M.m_zip (@cT _ _ _ _ _ (@cg _ 1 _ _ rfl kD bC bE) (@cT _ _ _ _ _ (@cg _ 2 _ _ rfl im cV cW) (@dB _) (di rfl)) (di rfl)) (star2' rfl rfl) (star1' rfl)) (fun _ _ _ _ _=>(@uI _ K _ _ 2 _ _ rfl rfl (@ia _ _ _ _ _ (@fT _ _ 0 _ (show List.Nodup (["entry","grant"]:List Str) from by decide) rfl (Or.inl rfl) (by first | exact .inl rfl | exact .inr rfl | assumption)) (@ia _ _ _ _ _ (@fT _ _ 1 _ (show List.Nodup (["entry","grant"]:List Str) from by decide) rfl (Or.inl rfl) (by first | exact .inl rfl | exact .inr rfl | assumption)) (@pB _) (by rfl)) (by rfl)) (by rfl) (by rfl))) (fun _ _ _ _ _=>(@mH _)) (fun _ _ _ _ _=>(@gv _ _ _ _ _ _ _ _ _ _ _ i9 hr rfl (@cT _ _ _ _ _ (@pv _ 0 _ _ (by rfl) (by decreasing_trivial) (by decide) (by decide)) (@cT _ _ _ _ _ (@pv _ 1 _ _ (by rfl) (by decreasing_trivial) (by decide) (by decide)) (@dB _) (di rfl)) (di rfl)) (by decide) qS (di rfl) (gw rfl fD))) (by intro _; rfl)) (@dB _) (di rfl)) dG dF (di rfl) fD) (um rfl))) (@fL _ _ _ (@ic _ _ _ _ (@uv _ _ _ _))) (@kN _)) (@ff _ _ _ _ _ (@nS _ _ _ _ _ _ _ _ (@tO _ _ _ _ (@sG _ _ _ (@fZ _ _ _ _ _ _ _ _ _ (tY rfl) dI M.m_all vJ (@cT _ _ _ _ _ (@lB _ _ _ _ _ _ _ _ _ _ _ _ _ _ _ rfl (CompOk.make (N':=["entry","grant","route"]) (ix:=[]) (nl:=3) (by rfl) fm0 (by rfl) (by decide +kernel) rfl (by decide +kernel) rfl True.intro) (@Gx _ _ _ _ _ _ _ _ _ _ jp M.m_zip (@cT _ _ _ _ _ (@cg _ 1 _ _ rfl kD bC bE) (@cT _ _ _ _ _ (@cg _ 2 _ _ rfl im cV cW) (@cT _ _ _ _ _ (@cg _ 3 _ _ rfl io fH fJ) (@dB _) (di rfl)) (di rfl)) (di rfl)) rfl rfl) (fun _ _ _ _ _=>(@uI _ K _ _ 3 _ _ rfl rfl (@ia _ _ _ _ _ (@fT _ _ 0 _ (show List.Nodup (["entry","grant","route"]:List Str) from by decide) rfl (Or.inl rfl) (by first | exact .inl rfl | exact .inr rfl | assumption)) (@ia _ _ _ _ _ (@fT _ _ 1 _ (show List.Nodup (["entry","grant","route"]:List Str) from by decide) rfl (Or.inl rfl) (by first | exact .inl rfl | exact .inr rfl | assumption)) (@ia _ _ _ _ _ (@fT _ _ 2 _ (show List.Nodup (["entry","grant","route"]:List Str) from by decide) rfl (Or.inl rfl) (by first | exact .inl rfl | exact .inr rfl | assumption)) (@pB _) (by rfl)) (by rfl)) (by rfl)) (by rfl) (by rfl))) (fun _ _ _ _ _=>(@mH _)) (fun _ _ _ _ _=>(@gv _ _ _ _ _ _ _ _ _ _ _ ja hr rfl (@cT _ _ _ _ _ (@pv _ 0 _ _ (by rfl) (by decreasing_trivial) (by decide) (by decide)) (@cT _ _ _ _ _ (@pv _ 1 _ _ (by rfl) (by decreasing_trivial) (by decide) (by decide)) (@cT _ _ _ _ _ (@pv _ 2 _ _ (by rfl) (by decreasing_trivial) (by decide) (by decide)) (@dB _) (di rfl)) (di rfl)) (di rfl)) (by decide) qT (di rfl) (gw rfl (gw rfl fD)))) (by intro _; rfl)) (@dB _) (di rfl)) dG dF (di rfl) fD) (um rfl))) (@fL _ _ _ (@ic _ _ _ _ (@uv _ _ _ _))) (@kN _)) (@ff _ _ _ _ _ (@nS _ _ _ _ _ _ _ _ (@tO _ _ _ _ (@sG _ _ _ (@gv _ _ _ _ _ _ _ _ _ _ _ eh hr hG (@cT _ _ _ _ _ (@cg _ 0 _ _ rfl qU cM cO) (@cT _ _ _ _ _ (@cg _ 3 _ _ rfl io fH fJ) (@dB _) (di rfl)) (di rfl)) (by decide) kU (di rfl) (gw rfl fD)) (um rfl))) (@fL _ _ _ (@ic _ _ _ _ (@uv _ _ _ _))) (@kN _)) (@fL _ _ _ (@ic _ _ _ _ (@fZ _ _ _ _ _ _ _ _ _ (tY rfl) dI M.m_all vJ (@cT _ _ _ _ _ (@lB _ _ _ _ _ _ _ _ _ _ _ _ _ _ _ rfl (CompOk.make (N':=["rooms","line","granted","place","cut"]) (ix:=[0,1,2]) (nl:=2) (by rfl) (fm1 rfl (fm1 rfl (fm1 rfl fm0))) (by rfl) (by decide +kernel) rfl (by decide +kernel) rfl (And.intro ⟨rfl,.inl rfl,.inl rfl⟩ (And.intro ⟨rfl,.inl rfl,.inl rfl⟩ (And.intro ⟨rfl,.inl rfl,.inl rfl⟩ True.intro)))) (@CU _ _ _ _ _ (@wm _ _ _ _ _ _ _ _ eJ M.m_enumerate (@cT _ _ _ _ _ (@cg _ 4 _ _ rfl ip gn gp) (@dB _) (di rfl)) (by rfl)) (@ya _ _ _ _ _ _ _ _ eJ M.m_enumerate (@cT _ _ _ _ _ (@cg _ 4 _ _ rfl ip gn gp) (@dB _) (di rfl)) (by rfl))) (fun _ _ _ _ _=>(@uI _ K _ _ 2 _ _ rfl rfl (@ia _ _ _ _ _ (@fT _ _ 3 _ (show List.Nodup (["rooms","line","granted","place","cut"]:List Str) from by decide) rfl (Or.inl rfl) (by first | exact .inl rfl | exact .inr rfl | assumption)) (@ia _ _ _ _ _ (@fT _ _ 4 _ (show List.Nodup (["rooms","line","granted","place","cut"]:List Str) from by decide) rfl (Or.inl rfl) (by first | exact .inl rfl | exact .inr rfl | assumption)) (@pB _) (by rfl)) (by rfl)) (by rfl) (by rfl))) (fun _ _ _ _ _=>(@mH _)) (fun _ _ _ _ _=>(@gv _ _ _ _ _ _ _ _ _ _ _ iq hr rfl (@cT _ _ _ _ _ (@pv _ 0 _ _ (by rfl) (by decreasing_trivial) (by decide) (by decide)) (@cT _ _ _ _ _ (@AF _ _ _ _ _ _ _ _ _ _ (zZ (K:=K) rfl) (@pv _ 1 _ _ (by rfl) (by decreasing_trivial) (by decide) (by decide)) (@BW _) (@uX _ _ _ (@gj _ _ _ _ _ _ _ _ (@ni _) (@pv _ 3 _ _ (by rfl) (by decreasing_trivial) (by decide) (by decide)) (@dR _ _ _ _)))) (@cT _ _ _ _ _ (@AF _ _ _ _ _ _ _ _ _ _ (zZ (K:=K) rfl) (@pv _ 2 _ _ (by rfl) (by decreasing_trivial) (by decide) (by decide)) (@BW _) (@uX _ _ _ (@gj _ _ _ _ _ _ _ _ (@ni _) (@pv _ 3 _ _ (by rfl) (by decreasing_trivial) (by decide) (by decide)) (@dR _ _ _ _)))) (@cT _ _ _ _ _ (@pv _ 4 _ _ (by rfl) (by decreasing_trivial) (by decide) (by decide)) (@dB _) (di rfl)) (di rfl)) (di rfl)) (di rfl)) (by decide) qj (di rfl) (gw rfl (gw rfl (gw rfl fD))))) (by intro _; rfl)) (@dB _) (di rfl)) dG dF (di rfl) fD))))))),?_⟩
 obtain⟨us,hus,hpa⟩:=id hL
 have lus:us.length=L.length:=Paired.length hpa
 have l64:=lok.l
 have m60:=lok.m
 trivial
 refine⟨by decide,fun t ht=>?_⟩
 obtain⟨H1,g1,S1,T1⟩:=ji (K:=K) ht [vg,vr,vc]
 rw[← g1]
 clear g1
 refine⟨⟨_,T1⟩,fun D hD=>?_⟩
 obtain⟨Pc,hC⟩:∃ Pc:Nat→St→Hp→Prop,Pc=fun i τ H'=>∃ (z:Option V),H' D=some (.lst ((([dg,dr,dc].take i).map (pX L.length)).map V.bl))∧Same H1 H'∧τ=[some (.ref l),z]:=⟨_,rfl⟩
 refine Do [vg,vr,vc] Pc ?_ (fun i τ H' _ h=>by rw[hC] at h; obtain⟨_,_,e,_⟩:=h; exact Same.tup e T1) ?_ ?_
 ·rw[hC]
  exact⟨_,er,fS hD _,rfl⟩
 ·intro i x τ H' R' hx h next
  rw[hC] at h
  obtain⟨z,d1,e,rfl⟩:=h
  have e1:=S1.trans e
  obtain⟨d,hd,hv⟩:∃ d,[dg,dr,dc][i]?=some d∧Rp K H x d:=by
   rcases i with _ | _ | _ | i
   ·cases hx
    exact⟨_,rfl,hg⟩
   ·cases hx
    exact⟨_,rfl,hr'⟩
   ·cases hx
    exact⟨_,rfl,hc⟩
   ·cases hx
  have li:i<3:=(List.getElem?_eq_some_iff.mp hd).1
  trivial
  refine⟨_,.inl (e1.seq hus),x,d,L.length,by rw[lus],hv.same e1,_,d1,?_,next _ _ ?_⟩
  ·rw[List.length_map,List.length_map,List.length_take]
   exact Nat.lt_of_lt_of_le (m:=1000) (by omega) (by decide)
  ·rw[hC]
   refine⟨_,?_,gu e hD _,rfl⟩
   rw[er,List.take_add_one,hd,List.map_append,List.map_append]
   rfl
 intro τ H2 h
 rw[hC] at h
 obtain⟨z,d2,e2,rfl⟩:=h
 clear hC
 have e12:=S1.trans e2
 refine⟨D,rfl,_,SqL.of d2,?_⟩
 have ea:((([dg,dr,dc].take [vg,vr,vc].length).map (pX L.length)).all id)=(pX L.length dg && (pX L.length dr && pX L.length dc)):=by
  show (pX L.length dg && (pX L.length dr && (pX L.length dc && true)))=_
  rw[Bool.and_true]
 rw[ea]
 cases hz0:(pX L.length dg && (pX L.length dr && pX L.length dc)) with
 | false =>
  rw[if_pos rfl]
  have:=q _ e12
  unfold t8 at this
  rw[hz0,Bool.false_and] at this
  exact this
 | true =>
  rw[if_neg (by decide)]
  rw[Bool.and_eq_true,Bool.and_eq_true] at hz0
  obtain⟨gs,rfl,lg⟩:=vS hz0.1
  obtain⟨rs,rfl,lr⟩:=vS hz0.2.1
  obtain⟨cs,rfl,lc⟩:=vS hz0.2.2
  replace q:∀ H',Same H H'→Q (.bl (((List.range L.length).all fun e=>uh (wt L e) (gs.getD e .non)) && (((List.range L.length).all fun e=>tN (pl L e) (intOf (gs.getD e .non)) (rs.getD e .non)) && (xm rooms rs && (List.range L.length).all fun e=>uL rooms (L.take (e+1)) ((gs.map intOf).take (e+1)) (cs.getD e .non))))) H':=fun H' e=>by
   have:=q H' e
   rw[yD rooms L gs rs cs lg lr lc] at this
   exact this
  cases hg with
  | lst gL gA gz =>
   rename_i ag gus
   cases hr' with
   | lst rL rA rz =>
    rename_i ar rus
    cases hc with
    | lst cL cA cz =>
     rename_i ac cus
     have lgu:=gA.len
     have lru:=rA.len
     have lcu:=cA.len
     have gat:∀ {i:Nat} {d:Dt},gs[i]?=some d→gs.getD i .non=d:=fun h=>by rw[List.getD,h]; rfl
     have rat:∀ {i:Nat} {d:Dt},rs[i]?=some d→rs.getD i .non=d:=fun h=>by rw[List.getD,h]; rfl
     have cat:∀ {i:Nat} {d:Dt},cs[i]?=some d→cs.getD i .non=d:=fun h=>by rw[List.getD,h]; rfl
     have ent:∀ {H':Hp} {i:Nat} {x:V},Same H H'→us[i]?=some x→∃ te qe,x=V.ref te∧SqT K H' te [.ref qe,.int (wt L i)]∧SqL K H' qe ((pl L i).map fun j:Nat=>V.int (j:Int)):=fun {H' i x} e hx=>by
      have li:=(List.getElem?_eq_some_iff.mp hx).1
      obtain⟨en,hen⟩:∃ en,L[i]?=some en:=⟨_,List.getElem?_eq_getElem (by omega)⟩
      obtain⟨te,qe,b1,b2,b3⟩:=sH (uq e hpa) hen
      rw[hx] at b1
      cases b1
      have ew:wt L i=en.2:=by rw[wt,List.getD,hen]; rfl
      have ep:pl L i=en.1:=by rw[pl,List.getD,hen]; rfl
      rw[ew,ep]
      exact⟨te,qe,rfl,b2,b3⟩
     refine⟨ag,rfl,⟨_,e12.seq hus⟩,⟨_,e12.seq gL⟩,fun D2 hD2=>?_⟩
     obtain⟨Pc,hC⟩:∃ Pc:Nat→St→Hp→Prop,Pc=fun i τ H'=>∃ (y z:Option V),H' D2=some (.lst (((List.range i).map fun e=>uh (wt L e) (gs.getD e .non)).map V.bl))∧Same H2 H'∧τ=[y,z]:=⟨_,rfl⟩
     refine ym us gus (by omega) Pc ?_ (fun i τ H' _ h=>by rw[hC] at h; obtain⟨_,_,_,e,_⟩:=h; exact⟨(e12.trans e).seq hus,(e12.trans e).seq gL⟩) ?_ ?_
     ·rw[hC]
      exact⟨_,_,er,fS hD2 _,rfl⟩
     ·intro i x y T τ H' R' hx hy h hT next
      rw[hC] at h
      obtain⟨y0,z0,d1,e,rfl⟩:=h
      have li:=(List.getElem?_eq_some_iff.mp hx).1
      obtain⟨d,hd,hv⟩:=gA.get hy
      obtain⟨H4,g4,S4,T4⟩:=ji (K:=K) hT [x,y]
      rw[← g4]
      clear g4
      have e4:=(e12.trans e).trans S4
      obtain⟨te,qe,rfl,b2,b3⟩:=ent e4 hx
      trivial
      refine⟨_,T4,rfl,?_⟩
      trivial
      refine⟨y,_,d,te,wt L i,rfl,b2,hv.same e4,_,S4 _ _ d1,?_,next _ _ ?_⟩
      ·rw[List.length_map,List.length_map,List.length_range]
       exact Nat.lt_of_lt_of_le (m:=1000) (by omega) (by decide)
      ·rw[hC]
       refine⟨_,_,?_,gu (e.trans S4) hD2 _,rfl⟩
       rw[er,List.range_succ,List.map_append,List.map_append,← gat hd]
       rfl
     intro τ H3 h
     rw[hC] at h
     obtain⟨y0,z0,d3,e3,rfl⟩:=h
     clear hC
     rw[lus] at d3
     have e13:=e12.trans e3
     refine⟨D2,rfl,_,SqL.of d3,?_⟩
     rw[List.all_map,show (id ∘ fun e=>uh (wt L e) (gs.getD e .non))=fun e=>uh (wt L e) (gs.getD e .non) from rfl]
     cases hz1:((List.range L.length).all fun e=>uh (wt L e) (gs.getD e .non)) with
     | false =>
      rw[if_pos rfl]
      have:=q _ e13
      rw[hz1] at this
      exact this
     | true =>
      rw[if_neg (by decide)]
      have gr:=List.all_eq_true.mp hz1
      have eg:=Cj gA fun e he=>⟨_,gr e (List.mem_range.mpr (by omega))⟩
      have lG:(gs.map intOf).length=L.length:=by rw[List.length_map,lg]
      refine⟨ag,rfl,ar,rfl,⟨_,e13.seq hus⟩,⟨_,e13.seq gL⟩,⟨_,e13.seq rL⟩,fun D3 hD3=>?_⟩
      obtain⟨Pc,hC⟩:∃ Pc:Nat→St→Hp→Prop,Pc=fun i τ H'=>∃ (x y z:Option V),H' D3=some (.lst (((List.range i).map fun e=>tN (pl L e) (intOf (gs.getD e .non)) (rs.getD e .non)).map V.bl))∧Same H3 H'∧τ=[x,y,z]:=⟨_,rfl⟩
      refine CM us gus rus (by omega) (by omega) Pc ?_ (fun i τ H' _ h=>by rw[hC] at h; obtain⟨_,_,_,_,e,_⟩:=h; exact⟨(e13.trans e).seq hus,(e13.trans e).seq gL,(e13.trans e).seq rL⟩) ?_ ?_
      ·rw[hC]
       exact⟨_,_,_,er,fS hD3 _,rfl⟩
      ·intro i x y v T τ H' R' hx hy hv0 h hT next
       rw[hC] at h
       obtain⟨x0,y0,z0,d1,e,rfl⟩:=h
       have li:=(List.getElem?_eq_some_iff.mp hx).1
       obtain⟨d,hd,_⟩:=gA.get hy
       obtain⟨dr',hdr,hvr⟩:=rA.get hv0
       obtain⟨H4,g4,S4,T4⟩:=ji (K:=K) hT [x,y,v]
       rw[← g4]
       clear g4
       have e4:=(e13.trans e).trans S4
       obtain⟨te,qe,rfl,b2,b3⟩:=ent e4 hx
       obtain rfl:y=V.int (intOf d):=by
        rw[eg,List.map_map,List.getElem?_map,hd] at hy
        exact (Option.some.inj hy).symm
       trivial
       refine⟨_,T4,rfl,?_⟩
       trivial
       refine⟨v,dr',te,qe,pl L i,wt L i,_,rfl,b2,b3,hvr.same e4,fun H5 e5=>⟨_,(S4.trans e5) _ _ d1,?_,next _ _ ?_⟩⟩
       ·rw[List.length_map,List.length_map,List.length_range]
        exact Nat.lt_of_lt_of_le (m:=1000) (by omega) (by decide)
       ·rw[hC]
        refine⟨_,_,_,?_,gu ((e.trans S4).trans e5) hD3 _,rfl⟩
        rw[er,List.range_succ,List.map_append,List.map_append,← gat hd,← rat hdr]
        rfl
      intro τ H4 h
      rw[hC] at h
      obtain⟨x0,y0,z0,d4,e4,rfl⟩:=h
      clear hC
      rw[lus] at d4
      have e14:=e13.trans e4
      refine⟨D3,rfl,_,SqL.of d4,?_⟩
      rw[List.all_map,show (id ∘ fun e=>tN (pl L e) (intOf (gs.getD e .non)) (rs.getD e .non))=fun e=>tN (pl L e) (intOf (gs.getD e .non)) (rs.getD e .non) from rfl]
      cases hz2:((List.range L.length).all fun e=>tN (pl L e) (intOf (gs.getD e .non)) (rs.getD e .non)) with
      | false =>
       rw[if_pos rfl]
       have:=q _ e14
       rw[hz1,hz2] at this
       exact this
      | true =>
       rw[if_neg (by decide)]
       have rr:=List.all_eq_true.mp hz2
       have rok:∀ d∈rs,RtI d:=fun d hd=>by
        obtain⟨i,hi,rfl⟩:=List.getElem_of_mem hd
        have:=rr i (List.mem_range.mpr (by omega))
        rw[rat (List.getElem?_eq_getElem hi)] at this
        exact Gu this
       refine⟨rm,ar,rooms,rus,rs,rfl,e14.seq hrm,m60,e14.seq rL,rA.same e14,rok,fun H5 e5=>⟨_,rfl,?_⟩⟩
       have e15:=e14.trans e5
       cases hz3:xm rooms rs with
       | false =>
        rw[if_pos rfl]
        have:=q _ e15
        rw[hz1,hz2,hz3] at this
        exact this
       | true =>
        rw[if_neg (by decide)]
        refine .inl ⟨ac,rfl,⟨_,e15.seq cL⟩,fun D4 hD4=>?_⟩
        obtain⟨Pc,hC⟩:∃ Pc:Nat→St→Hp→Prop,Pc=fun i τ H'=>∃ (y z:Option V),H' D4=some (.lst (((List.range i).map fun e=>uL rooms (L.take (e+1)) ((gs.map intOf).take (e+1)) (cs.getD e .non)).map V.bl))∧Same H5 H'∧τ=[some (.ref rm),some (.ref l),some (.ref ag),y,z]:=⟨_,rfl⟩
        refine wI cus Pc ?_ (fun i τ H' _ h=>by rw[hC] at h; obtain⟨_,_,_,e,_⟩:=h; exact (e15.trans e).seq cL) ?_ ?_
        ·rw[hC]
         exact⟨_,_,er,fS hD4 _,rfl⟩
        ·intro i x T τ H' R' hx h hT next
         rw[hC] at h
         obtain⟨y0,z0,d1,e,rfl⟩:=h
         have li:=(List.getElem?_eq_some_iff.mp hx).1
         obtain⟨d,hd,hv⟩:=cA.get hx
         obtain⟨H6,g6,S6,T6⟩:=ji (K:=K) hT [.int i,x]
         rw[← g6]
         clear g6
         have e6:=(e15.trans e).trans S6
         trivial
         refine⟨_,T6,rfl,?_⟩
         trivial
         refine⟨us,e6.seq hus,fun p1 hp1=>?_⟩
         rw[BK]
         obtain⟨H7,g7,S7,T7⟩:=nL hp1 (us.take (i+1))
         rw[← g7]
         clear g7
         have e7:=e6.trans S7
         refine⟨gus,e7.seq gL,fun p2 hp2=>?_⟩
         rw[BK]
         obtain⟨H8,g8,S8,T8⟩:=nL hp2 (gus.take (i+1))
         rw[← g8]
         clear g8
         have e8:=e7.trans S8
         rw[eg,← List.map_take] at T8
         refine⟨rm,p1,p2,x,d,rooms,(gs.map intOf).take (i+1),L.take (i+1),rfl,e8.seq hrm,⟨_,SqL.of (S8 _ _ T7),zx (i+1) (uq e8 hpa)⟩,GK lok _,by rw[List.length_take]; omega,SqL.of T8,by rw[List.length_take,List.length_take,lG],hv.same e8,fun H9 e9=>⟨_,(((S6.trans S7).trans S8).trans e9) _ _ d1,?_,next _ _ ?_⟩⟩
         ·rw[List.length_map,List.length_map,List.length_range]
          exact Nat.lt_of_lt_of_le (m:=1000) (by omega) (by decide)
         ·rw[hC]
          refine⟨_,_,?_,gu ((((e.trans S6).trans S7).trans S8).trans e9) hD4 _,rfl⟩
          rw[er,List.range_succ,List.map_append,List.map_append,← cat hd]
          rfl
        intro τ H6 h
        rw[hC] at h
        obtain⟨y0,z0,d6,e6,rfl⟩:=h
        rw[lcu,lc] at d6
        refine⟨D4,rfl,_,SqL.of d6,?_⟩
        have:=q _ (e15.trans e6)
        rw[hz1,hz2,hz3] at this
        rw[List.all_map]
        exact this
end
end MyV
namespace MyW
open My MyB MyC MyD MyE MyF MyG MyS MyI MyJ MyK MyT MyU MyV PySem L2
theorem vI {g:Nat→Int} {j:Nat}:∀ n,jh n (fun k=>if k=j then g k else 0)=if j<n then g j else 0
 | 0=>rfl
 | n+1=>by
  rw[iW,vI n]
  by_cases h:n=j
  ·subst h
   rw[if_neg (Nat.lt_irrefl _),if_pos rfl,if_pos (Nat.lt_succ_self _)]
   omega
  ·rw[if_neg h]
   by_cases h2:j<n
   ·rw[if_pos h2,if_pos (by omega)]; omega
   ·rw[if_neg h2,if_neg (by omega)]; rfl
theorem wR {g:Nat→Int} {m:Nat}:∀ {ns:List Int},ns.Nodup→(∀ x∈ns,∃ j:Nat,x=(j:Int)∧j<m)→(ns.map fun x=>g x.toNat).sum=jh m fun j=>if inS ns j=true then g j else 0
 | [],_,_=>by
  rw[uU fun j _=>by rw[if_neg (by simp [inS])]]
  rfl
 | x::ns,nd,h=>by
  have nd':=List.nodup_cons.mp nd
  obtain⟨j0,ej,hj⟩:=h x List.mem_cons_self
  rw[List.map_cons,List.sum_cons,wR nd'.2 fun y hy=>h y (List.mem_cons_of_mem _ hy)]
  have e1:(jh m fun j=>if j=j0 then g j else 0)=g j0:=by
   rw[vI,if_pos hj]
  have e2:x.toNat=j0:=by omega
  rw[e2,← e1,← vA]
  refine jH fun j _=>?_
  have ei:inS (x::ns) j=(decide (j=j0) || inS ns j):=by
   unfold inS
   rw[Bool.eq_iff_iff]
   simp only [decide_eq_true_eq,List.mem_cons,Bool.or_eq_true]
   refine⟨fun z=>?_,fun z=>?_⟩
   ·rcases z with z | z
    ·exact .inl (by omega)
    ·exact .inr z
   ·rcases z with z | z
    ·exact .inl (by omega)
    ·exact .inr z
  rw[ei]
  by_cases z:j=j0
  ·have:inS ns j=false:=decide_eq_false fun y=>nd'.1 (by rw[ej,← z]; exact y)
   rw[this,if_pos z,decide_eq_true z]
   simp
  ·rw[if_neg z,decide_eq_false z]
   simp
theorem GC {j:Int} {d:Dt} (h:∀ ds,d=.lst ds→ds.all uw=true):0≤uO j d:=by
 cases d with
 | lst ds =>
  have hp:=List.all_eq_true.mp (h ds rfl)
  show 0≤((ds.filter fun p=>decide (intOf (qq p)=j)).map uG).sum
  have:∀ l:List Dt,(∀ p∈l,uw p=true)→0≤(l.map uG).sum:=fun l=>by
   induction l with
   | nil=>intro _; exact Int.le_refl _
   | cons p l ih =>
    intro hl
    obtain⟨x,i,rfl,hi⟩:=BJ (hl p List.mem_cons_self)
    have:=ih fun q hq=>hl q (List.mem_cons_of_mem _ hq)
    rw[List.map_cons,List.sum_cons]
    show 0≤i+_
    omega
  exact this _ fun p hp'=>hp p (List.mem_filter.mp hp').1
 | _=>exact Int.le_refl _
theorem Gm {j:Nat} {ps:List Nat} {g:Int} {d:Dt} (h:tN ps g d=true) (hj:0<uO (j:Int) d):j∈ps:=by
 cases d with
 | lst ds =>
  rw[sC,Bool.and_eq_true,Bool.and_eq_true] at h
  obtain⟨h1,h2,_⟩:=h
  unfold nP at h2
  rw[Bool.and_eq_true] at h2
  change 0<((ds.filter fun p=>decide (intOf (qq p)=(j:Int))).map uG).sum at hj
  cases hf:ds.filter fun p=>decide (intOf (qq p)=(j:Int)) with
  | nil=>rw[hf] at hj; exact absurd hj (by decide)
  | cons p l =>
   have hp:p∈ds.filter fun p=>decide (intOf (qq p)=(j:Int)):=by rw[hf]; exact List.mem_cons_self
   obtain⟨m1,m2⟩:=List.mem_filter.mp hp
   have m2:=of_decide_eq_true m2
   obtain⟨i,ei,hi⟩:=vW (List.all_eq_true.mp h2.1 _ (List.mem_map.mpr ⟨p,m1,rfl⟩))
   rw[ei] at m2
   change i=(j:Int) at m2
   subst m2
   obtain⟨j',hj',ej'⟩:=List.mem_map.mp hi
   have:j'=j:=by omega
   rw[← this]
   exact hj'
 | _=>exact (Int.lt_irrefl 0 hj).elim
theorem GJ {m:Nat} {ps:List Nat} {g:Int} {d:Dt} (h:tN ps g d=true) (hm:∀ j∈ps,j<m):(jh m fun j=>uO (j:Int) d)=g:=by
 cases d with
 | lst ds =>
  rw[sC,Bool.and_eq_true,Bool.and_eq_true] at h
  obtain⟨h1,h2,h3⟩:=h
  unfold nP at h2
  rw[Bool.and_eq_true] at h2
  rw[← of_decide_eq_true h3]
  have key:∀ l:List Dt,(∀ p∈l,∃ j:Nat,intOf (qq p)=(j:Int)∧j<m)→(jh m fun j=>((l.filter fun p=>decide (intOf (qq p)=(j:Int))).map uG).sum)=(l.map uG).sum:=fun l=>by
   induction l with
   | nil=>intro _; exact uU fun _ _=>rfl
   | cons p l ih =>
    intro hl
    obtain⟨j0,ej,hj⟩:=hl p List.mem_cons_self
    rw[List.map_cons,List.sum_cons,← ih fun q hq=>hl q (List.mem_cons_of_mem _ hq)]
    have e1:(jh m fun j=>if j=j0 then uG p else 0)=uG p:=by rw[vI (g:=fun _=>uG p),if_pos hj]
    rw[← e1,← vA]
    refine jH fun j _=>?_
    by_cases z:j=j0
    ·rw[if_pos z,List.filter_cons_of_pos (by rw[ej,z]; exact decide_eq_true rfl),List.map_cons,List.sum_cons]
    ·rw[if_neg z,List.filter_cons_of_neg (by rw[ej]; intro y; have:=of_decide_eq_true y; omega),Int.zero_add]
  refine key ds fun p hp=>?_
  obtain⟨i,ei,hi⟩:=vW (List.all_eq_true.mp h2.1 _ (List.mem_map.mpr ⟨p,hp,rfl⟩))
  obtain⟨j',hj',ej'⟩:=List.mem_map.mp hi
  exact⟨j',by rw[ei]; exact ej'.symm,hm j' hj'⟩
 | _=>cases h
theorem yC {L:List En} {k e:Nat} (h:e<k):pl (L.take k) e=pl L e:=by
 unfold pl
 rw[List.getD,List.getD,List.getElem?_take_of_lt h]
theorem BZ {L:List En} {k e:Nat} (h:e<k):wt (L.take k) e=wt L e:=by
 unfold wt
 rw[List.getD,List.getD,List.getElem?_take_of_lt h]
theorem yT {G:List Int} {k e:Nat} (h:e<k):(G.take k).getD e 0=G.getD e 0:=by
 rw[List.getD,List.getD,List.getElem?_take_of_lt h]
theorem zE {L:List En} {G:List Int} {S:Nat→Bool} {k:Nat}:∀ {i:Nat},i≤k→sumG (L.take k) (fun e=>(G.take k).getD e 0) S i=sumG L (fun e=>G.getD e 0) S i:=fun {i} hi=>by
 unfold sumG
 refine jH fun e he=>?_
 rw[yC (by omega)]
 show (if _ then (G.take k).getD e 0 else 0)=(if _ then G.getD e 0 else 0)
 rw[yT (by omega)]
theorem Dv {m:Nat} {ds:List Dt} (h:nP (rgI m) ds=true):(ds.map intOf).Nodup∧∀ x∈ds.map intOf,∃ j:Nat,x=(j:Int)∧j<m:=by
 unfold nP at h
 rw[Bool.and_eq_true] at h
 refine⟨of_decide_eq_true h.2,fun x hx=>?_⟩
 obtain⟨d,hd,rfl⟩:=List.mem_map.mp hx
 obtain⟨i,rfl,hi⟩:=vW (List.all_eq_true.mp h.1 d hd)
 obtain⟨j,hj,ej⟩:=List.mem_map.mp hi
 exact⟨j,ej.symm,List.mem_range.mp hj⟩
theorem DZ {rooms:List Int} {L:List En} {gs rs cs:List Dt} (lok:LnOk rooms.length L) (h1:gs.length=L.length) (h2:rs.length=L.length) (h3:cs.length=L.length) (h:t8 rooms L (.lst gs) (.lst rs) (.lst cs)=true):Most rooms L (gs.map intOf):=by
 rw[yD rooms L gs rs cs h1 h2 h3,Bool.and_eq_true,Bool.and_eq_true,Bool.and_eq_true] at h
 obtain⟨hg,hr,hk,hc⟩:=h
 have hg:=List.all_eq_true.mp hg
 have hr:=List.all_eq_true.mp hr
 have hk:=List.all_eq_true.mp hk
 have hc:=List.all_eq_true.mp hc
 have gi:∀ e,(gs.map intOf).getD e 0=intOf (gs.getD e .non):=fun e=>by
  rw[List.getD,List.getD,List.getElem?_map]
  cases gs[e]? <;> rfl
 have g1:∀ e,e<L.length→0≤(gs.map intOf).getD e 0∧(gs.map intOf).getD e 0≤wt L e:=fun e he=>by
  have:=hg e (List.mem_range.mpr he)
  rw[gi]
  generalize gs.getD e .non=d at this
  cases d with
  | int i =>
   change (decide (0≤i) && decide (i≤wt L e))=true at this
   rw[Bool.and_eq_true] at this
   exact⟨of_decide_eq_true this.1,of_decide_eq_true this.2⟩
  | _=>cases this
 obtain⟨F,hF⟩:∃ F:List (List Int),F=rs.map fun d=>(List.range rooms.length).map fun j:Nat=>uO (j:Int) d:=⟨_,rfl⟩
 obtain⟨lf,hlf⟩:∃ lf:List Int,lf=(List.range rooms.length).map fun j:Nat=>rooms.getD j 0-thr rs (j:Int):=⟨_,rfl⟩
 have flE:∀ e j,e<L.length→j<rooms.length→fl F e j=uO (j:Int) (rs.getD e .non):=fun e j he hj=>by
  unfold fl
  rw[hF]
  have:(rs.map fun d=>(List.range rooms.length).map fun j:Nat=>uO (j:Int) d).getD e []=(List.range rooms.length).map fun j:Nat=>uO (j:Int) (rs.getD e .non):=by
   rw[List.getD,List.getElem?_map,List.getElem?_eq_getElem (by omega),List.getD,List.getElem?_eq_getElem (by omega)]
   rfl
  rw[this,List.getD,List.getElem?_map,List.getElem?_range hj]
  rfl
 have flO:∀ e j,¬ (e<L.length∧j<rooms.length)→fl F e j=0:=fun e j hn=>by
  unfold fl
  rw[hF]
  by_cases he:e<rs.length
  ·have hj:¬ j<rooms.length:=fun z=>hn ⟨by omega,z⟩
   rw[List.getD,List.getD,List.getElem?_map,List.getElem?_eq_getElem he]
   show (((List.range rooms.length).map fun j:Nat=>uO (j:Int) rs[e])[j]?).getD 0=0
   rw[List.getElem?_eq_none (by rw[List.length_map,List.length_range]; omega)]
   rfl
  ·have:(rs.map fun d=>(List.range rooms.length).map fun j:Nat=>uO (j:Int) d).getD e []=[]:=by
    rw[List.getD,List.getElem?_eq_none (by rw[List.length_map]; omega)]
    rfl
   rw[this]
   rfl
 have R:Rows L.length rooms.length F:=by
  refine⟨by rw[hF,List.length_map,h2],fun r hr'=>?_⟩
  rw[hF] at hr'
  obtain⟨d,_,rfl⟩:=List.mem_map.mp hr'
  rw[List.length_map,List.length_range]
 have rn:∀ e,e<L.length→∀ ds,rs.getD e .non=.lst ds→ds.all uw=true:=fun e he ds eds=>by
  have:=hr e (List.mem_range.mpr he)
  rw[eds,sC,Bool.and_eq_true] at this
  exact this.1
 have colE:∀ j,j<rooms.length→colS F j=thr rs (j:Int):=fun j hj=>by
  rw[xg R]
  unfold thr
  rw[uV,List.length_map,h2]
  refine jH fun e he=>?_
  rw[flE e j he hj]
  rw[List.getD,List.getD,List.getElem?_map]
  cases hh:rs[e]? with
  | none =>
   have:=List.getElem?_eq_none_iff.mp hh
   omega
  | some d=>rfl
 have flo:Flo L L.length rooms.length rooms F lf:=by
  refine⟨R,fun e j=>?_,fun e j hp=>?_,by rw[hlf,List.length_map,List.length_range],fun j=>?_,fun j hj=>?_⟩
  ·by_cases z:e<L.length∧j<rooms.length
   ·rw[flE e j z.1 z.2]
    exact GC (rn e z.1)
   ·rw[flO e j z]
    exact Int.le_refl _
  ·by_cases z:e<L.length∧j<rooms.length
   ·rw[flE e j z.1 z.2] at hp
    exact Gm (hr e (List.mem_range.mpr z.1)) hp
   ·rw[flO e j z] at hp
    exact absurd hp (by decide)
  ·rw[hlf]
   by_cases hj:j<rooms.length
   ·rw[List.getD,List.getElem?_map,List.getElem?_range hj]
    have:=of_decide_eq_true (hk j (List.mem_range.mpr hj))
    show 0≤rooms.getD j 0-thr rs (j:Int)
    omega
   ·rw[List.getD,List.getElem?_eq_none (by rw[List.length_map,List.length_range]; omega)]
    exact Int.le_refl _
  ·rw[colE j hj,hlf,List.getD,List.getElem?_map,List.getElem?_range hj]
   show thr rs (j:Int)+(rooms.getD j 0-thr rs (j:Int))=_
   omega
 have rowE:∀ e,e<L.length→m9 F e=(gs.map intOf).getD e 0:=fun e he=>by
  rw[xj R he,gi]
  have hr':=hr e (List.mem_range.mpr he)
  rw[← GJ hr' (m:=rooms.length) fun j hj=>by
   have hm:L[e]∈L:=List.getElem_mem he
   refine (lok.pl _ hm).2 j ?_
   unfold pl at hj
   rwa [My.getD_at he] at hj]
  exact jH fun j hj=>flE e j he hj
 refine⟨by rw[List.length_map,h1],fun e he=>(g1 e he).1,fun e he=>(g1 e he).2,fun S k hk'=>?_,fun e he hlt=>?_⟩
 ·rw[← uQ (G:=m9 F) fun e he=>rowE e (by omega)]
  exact MyS.loose flo S k hk'
 ·have hc':=hc e (List.mem_range.mpr he)
  unfold uL at hc'
  have lt:(L.take (e+1)).length=e+1:=by rw[List.length_take]; omega
  rw[lt,Nat.add_sub_cancel,yT (by omega),BZ (by omega),decide_eq_false (by omega),Bool.false_or] at hc'
  generalize hcd:cs.getD e .non=d at hc'
  cases d with
  | lst ds =>
   rw[wj,lt,Nat.add_sub_cancel,yC (by omega),Bool.and_eq_true,Bool.and_eq_true] at hc'
   obtain⟨p1,p2,p3⟩:=hc'
   obtain⟨nd,rg⟩:=Dv p1
   refine⟨inS (ds.map intOf),p2,?_⟩
   rw[← zE (k:=e+1) (Nat.le_refl _),of_decide_eq_true p3]
   unfold yj
   rw[wR (g:=fun j=>rooms.getD j 0) nd rg]
   rfl
  | _=>cases hc'
end MyW
namespace MyX
open My MyB MyC MyD MyE MyF MyG MyS MyI MyJ MyK MyT MyU MyV MyW PySem L2
def top (i:Nat):Stmt:=PySem.Challenge.pw_tariffgate_k67_whole_no_other.main.body.getD i (.Pass ⟨0,0,0,0⟩)
theorem aj:(("_law_rooms_here":Str) == ("__debug__":Str))=false:=by decide
theorem ak:(("_law_rooms_here":Str) == ("__classdict__":Str))=false:=by decide
theorem bH:(("_law_spare":Str) == ("__debug__":Str))=false:=by decide
theorem bI:(("_law_spare":Str) == ("__classdict__":Str))=false:=by decide
theorem bS:(("_law_due_here":Str) == ("__debug__":Str))=false:=by decide
theorem bT:(("_law_due_here":Str) == ("__classdict__":Str))=false:=by decide
theorem aX:(("_law_cuts_here":Str) == ("__debug__":Str))=false:=by decide
theorem aY:(("_law_cuts_here":Str) == ("__classdict__":Str))=false:=by decide
theorem eA:(("_law_bits":Str) == ("__debug__":Str))=false:=by decide
theorem eB:(("_law_bits":Str) == ("__classdict__":Str))=false:=by decide
theorem gT:(("_law_most":Str) == ("__debug__":Str))=false:=by decide
theorem gU:(("_law_most":Str) == ("__classdict__":Str))=false:=by decide
theorem qk:(("_law_held":Str) == ("__debug__":Str))=false:=by decide
theorem ql:(("_law_held":Str) == ("__classdict__":Str))=false:=by decide
abbrev ai:Stmt:=top 28
theorem aV:FnScope ["_law_rooms_here","_law_line_here","_law_spare","_law_room","_law_due_here","_law_cuts_here","_law_places","_law_weight","_law_bits","_law_most","_law_held","_law_k"] ["_law_rooms_here","_law_line_here"] (defScope ai):=⟨rfl,rfl,rfl,by decide +kernel,rfl,by decide +kernel,by decide +kernel⟩
theorem kE:Vis (defScope ai) "_law_rooms_here":=by decreasing_trivial
theorem qV:Vis (defScope ai) "_law_line_here":=by decreasing_trivial
theorem bX:Vis (defScope ai) "_law_spare":=by decreasing_trivial
theorem kF:Loc (defScope ai) "_law_spare":=by first | exact Or.inl rfl | exact Or.inr rfl
theorem qW:Loc (defScope ai) "_law_room":=by first | exact Or.inl rfl | exact Or.inr rfl
theorem kG:Vis (defScope ai) "_law_due_here":=by decreasing_trivial
theorem qX:Loc (defScope ai) "_law_due_here":=by first | exact Or.inl rfl | exact Or.inr rfl
theorem kH:Vis (defScope ai) "_law_cuts_here":=by decreasing_trivial
theorem qY:Loc (defScope ai) "_law_cuts_here":=by first | exact Or.inl rfl | exact Or.inr rfl
theorem qZ:Vis (defScope ai) "_law_places":=by decreasing_trivial
theorem re:Loc (defScope ai) "_law_places":=by first | exact Or.inl rfl | exact Or.inr rfl
theorem kI:Vis (defScope ai) "_law_weight":=by decreasing_trivial
theorem rf:Loc (defScope ai) "_law_weight":=by first | exact Or.inl rfl | exact Or.inr rfl
theorem fo:Vis (defScope ai) "_law_bits":=by decreasing_trivial
theorem rh:Loc (defScope ai) "_law_bits":=by first | exact Or.inl rfl | exact Or.inr rfl
theorem ir:Vis (defScope ai) "_law_most":=by decreasing_trivial
theorem kJ:Loc (defScope ai) "_law_most":=by first | exact Or.inl rfl | exact Or.inr rfl
theorem qm:Vis (defScope ai) "_law_held":=by decreasing_trivial
theorem j4:Loc (defScope ai) "_law_held":=by first | exact Or.inl rfl | exact Or.inr rfl
theorem cw:Vis (defScope ai) "_law_k":=by decreasing_trivial
theorem j5:Loc (defScope ai) "_law_k":=by first | exact Or.inl rfl | exact Or.inr rfl
theorem nX:(defScope ai).names.lookup ("sum":Str)=some .globalImplicit:=by rfl
theorem eC:(defScope ai).names.lookup ("range":Str)=some .globalImplicit:=by rfl
theorem fO:(defScope ai).names.lookup ("len":Str)=some .globalImplicit:=by rfl
def spr (rooms:List Int) (L:List En) (G:List Int) (k s:Nat):Int:=roomS rooms rooms.length (kW s)-sumG L (fun e=>G.getD e 0) (kW s) k
theorem two_m {m:Nat} (h:m≤6):2 ^ m≤64:=Nat.pow_le_pow_right (by decide) h
theorem An {rooms:List Int} {L:List En} {G:List Int} {k s:Nat} (h:(pl L k).all (kW s)=true):spr rooms L G (k+1) s=spr rooms L G k s-G.getD k 0:=by
 unfold spr sumG
 rw[iW,if_pos h]
 dsimp only
 omega
theorem BP {rooms:List Int} {L:List En} {G:List Int} {k s:Nat} (h:¬ (pl L k).all (kW s)=true):spr rooms L G (k+1) s=spr rooms L G k s:=by
 unfold spr sumG
 rw[iW,if_neg h]
 omega
def uf (rooms:List Int) (L:List En) (G:List Int) (N k s:Nat):List Int:=(List.range N).map fun t=>spr rooms L G (if t<s then k+1 else k) t
theorem nY {rooms:List Int} {L:List En} {G:List Int} {N k s:Nat}:(uf rooms L G N k s).length=N:=by rw[uf,List.length_map,List.length_range]
theorem uK {rooms:List Int} {L:List En} {G:List Int} {N k s t:Nat} (h:t<N):(uf rooms L G N k s)[t]?=some (spr rooms L G (if t<s then k+1 else k) t):=by
 rw[uf,List.getElem?_map,List.getElem?_range h]
 rfl
theorem EY {rooms:List Int} {L:List En} {G:List Int} {N k:Nat}:uf rooms L G N k N=uf rooms L G N (k+1) 0:=by
 refine List.ext_getElem? fun t=>?_
 by_cases h:t<N
 ·rw[uK h,uK h,if_pos h,if_neg (by omega)]
 ·rw[List.getElem?_eq_none (by rw[nY]; omega),List.getElem?_eq_none (by rw[nY]; omega)]
theorem E4 {rooms:List Int} {L:List En} {G:List Int} {N k s:Nat}:(uf rooms L G N k s).set s (spr rooms L G (k+1) s)=uf rooms L G N k (s+1):=by
 refine List.ext_getElem? fun t=>?_
 by_cases h:t<N
 ·rw[uK h]
  by_cases z:s=t
  ·subst z
   rw[List.getElem?_set_self (by rw[nY]; exact h),if_pos (by omega)]
  ·rw[List.getElem?_set_ne z,uK h]
   by_cases y:t<s
   ·rw[if_pos y,if_pos (by omega)]
   ·rw[if_neg y,if_neg (by omega)]
 ·rw[List.getElem?_eq_none (by rw[List.length_set,nY]; omega),List.getElem?_eq_none (by rw[nY]; omega)]
theorem EK {rooms:List Int} {L:List En} {G:List Int} {N k s:Nat} (h:¬ (pl L k).all (kW s)=true):uf rooms L G N k s=uf rooms L G N k (s+1):=by
 refine List.ext_getElem? fun t=>?_
 by_cases ht:t<N
 ·rw[uK ht,uK ht]
  by_cases z:t=s
  ·subst z
   rw[if_neg (by omega),if_pos (by omega),BP h]
  ·by_cases y:t<s
   ·rw[if_pos y,if_pos (by omega)]
   ·rw[if_neg y,if_neg (by omega)]
 ·rw[List.getElem?_eq_none (by rw[nY]; omega),List.getElem?_eq_none (by rw[nY]; omega)]
def CutN (K:PySem.W.Frag) (H:Hp) (rooms:List Int) (L:List En) (G:List Int) (e:Nat) (v:V):Prop:=(v=.non∧G.getD e 0=wt L e)∨∃ (c:Addr) (ns:List Int),v=.ref c∧SqL K H c (ns.map V.int)∧ns.length≤6∧G.getD e 0<wt L e∧ns.Nodup∧(∀ x∈ns,∃ j:Nat,x=(j:Int)∧j<rooms.length)∧(pl L e).all (inS ns)=true∧roomS rooms rooms.length (inS ns)=sumG L (fun e=>G.getD e 0) (inS ns) (e+1)
theorem CutN.same {K:PySem.W.Frag} {H H':Hp} {rooms:List Int} {L:List En} {G:List Int} {e:Nat} {v:V} (h:CutN K H rooms L G e v) (s:Same H H'):CutN K H' rooms L G e v:=by
 rcases h with h | ⟨c,ns,h1,h2,h3⟩
 ·exact .inl h
 ·exact .inr ⟨c,ns,h1,s.seq h2,h3⟩
def CY (K:PySem.W.Frag):Sp:=fun vs H Q _=>∃ (rm l:Addr) (rooms:List Int) (L:List En),vs=[.ref rm,.ref l]∧SqL K H rm (rooms.map V.int)∧LnAt K H l L∧LnL rooms.length L∧rooms.length≤6∧(∀ x∈rooms,0≤x)∧∀ (t du ow:Addr) (G:List Int) (us:List V) (H':Hp),Same H H'→SqT K H' t [.ref du,.ref ow]→H' du=some (.lst (G.map V.int))→H' ow=some (.lst us)→us.length=L.length→(∀ (e:Nat) (v:V),us[e]?=some v→CutN K H' rooms L G e v)→Most rooms L G→Q (.ref t) H'
theorem By:∀ i∈List.range 6,∀ s∈List.range (2 ^ i),(kW (2 ^ i+s) i=true∧kW s i=false)∧∀ j∈List.range i,kW (2 ^ i+s) j=kW s j:=by decide +kernel
theorem E3 {rooms:List Int} {i:Nat} (h:i<6):(List.range (2 ^ i)).map (fun s=>roomS rooms i (kW s))++((List.range (2 ^ i)).map (fun s=>roomS rooms i (kW s))).map (fun x=>x+rooms.getD i 0)=(List.range (2 ^ (i+1))).map fun s=>roomS rooms (i+1) (kW s):=by
 have e1:2 ^ (i+1)=2 ^ i+2 ^ i:=by rw[Nat.pow_succ]; omega
 rw[e1,List.range_add,List.map_append,List.map_map,List.map_map]
 congr 1
 ·refine List.map_congr_left fun s hs=>?_
  obtain⟨⟨_,b⟩,_⟩:=By i (List.mem_range.mpr h) s hs
  unfold roomS
  rw[iW,b,if_neg (by decide),Int.add_zero]
 ·refine List.map_congr_left fun s hs=>?_
  obtain⟨⟨a,_⟩,c⟩:=By i (List.mem_range.mpr h) s hs
  show roomS rooms i (kW s)+_=roomS rooms (i+1) (kW (2 ^ i+s))
  unfold roomS
  rw[iW,a,if_pos rfl]
  congr 1
  exact jH fun j hj=>by rw[c j (List.mem_range.mpr hj)]
theorem BH {rooms:List Int} {L:List En} {G:List Int} {x:Int} {k s:Nat} (h:k≤G.length):spr rooms L (G++[x]) k s=spr rooms L G k s:=by
 unfold spr
 congr 1
 refine uQ fun e he=>?_
 rw[List.getD,List.getD,List.getElem?_append_left (by omega)]
theorem EM {rooms:List Int} {L:List En} {G:List Int} {x:Int} {N k:Nat} (h:k≤G.length):uf rooms L (G++[x]) N k 0=uf rooms L G N k 0:=by
 unfold uf
 refine List.map_congr_left fun t _=>?_
 rw[if_neg (by omega)]
 exact BH h
theorem getD_snoc {G:List Int} {x:Int}:(G++[x]).getD G.length 0=x:=by
 rw[List.getD,List.getElem?_append_right (Nat.le_refl _),Nat.sub_self]
 rfl
theorem GM {G:List Int} {x:Int} {e:Nat} (h:e<G.length):(G++[x]).getD e 0=G.getD e 0:=by
 rw[List.getD,List.getD,List.getElem?_append_left h]
def vz (m s:Nat):List Int:=((List.range m).filter (kW s)).map fun j:Nat=>(j:Int)
theorem yO {m s j:Nat} (h:j<m):inS (vz m s) j=kW s j:=by
 unfold inS vz
 rw[Bool.eq_iff_iff,decide_eq_true_iff,List.mem_map]
 refine⟨?_,fun z=>⟨j,List.mem_filter.mpr ⟨List.mem_range.mpr h,z⟩,rfl⟩⟩
 rintro⟨i,hi,e⟩
 have:i=j:=by omega
 rw[← this]
 exact (List.mem_filter.mp hi).2
theorem GE {m s:Nat}:∀ x∈vz m s,∃ j:Nat,x=(j:Int)∧j<m:=fun x hx=>by
 obtain⟨i,hi,rfl⟩:=List.mem_map.mp hx
 exact⟨i,rfl,List.mem_range.mp (List.mem_filter.mp hi).1⟩
theorem GR {m s:Nat}:(vz m s).Nodup:=by
 unfold vz
 rw[List.Nodup,List.pairwise_map]
 exact List.Pairwise.filter _ (List.Pairwise.imp (fun h=>by omega) List.pairwise_lt_range)
theorem EH {m s:Nat}:(vz m s).length≤m:=by
 unfold vz
 rw[List.length_map]
 refine Nat.le_trans (List.length_filter_le ..) ?_
 rw[List.length_range]
 exact Nat.le_refl _
section
variable {P:Program} {w:World} {K:PySem.W.Frag} {mg:Str→Option Value} {base:Heap} {f:Addr} {fd:FuncData}
theorem Cp (F:Fun K "_law_due" "_law_due" ai f fd) (M:Mg mg):FnOk P w K mg base CX0 1 f fd ["_law_rooms_here","_law_line_here"] (CY K):=by
 refine F.ok aV (fun vs H Q E h=>?_) (fun cdv A outer s H vs Q E hr h=>?_)
 ·obtain⟨rm,l,rooms,L,rfl,_⟩:=h
  rfl
 obtain⟨rm,l,rooms,L,rfl,hrm,hL,ln,m6,r0,q⟩:=h
 refine⟨_,(@ff _ _ _ _ _ (@gI _ _ 2 _ _ _ _ aV.nd rfl kF (@rC _ _ _ _ (@cT _ _ _ _ _ (@dR _ _ _ _) (@dB _) (di rfl))) (gG rfl) (.inl rfl)) (@ff _ _ _ _ _ (@rB _ _ _ _ _ _ _ _ PassesOwn.never rfl (@m8 _ _ _ _ (@cg _ 0 _ _ rfl kE aj ak)) (@fT _ _ 3 _ aV.nd rfl qW (.inl rfl)) (@fL _ _ _ (@gI _ _ 2 _ _ _ _ aV.nd rfl kF (@gj _ _ _ _ _ _ _ _ (@DE _) (@cg _ 2 _ _ rfl bX bH bI) (@lB _ _ _ _ _ _ _ _ _ _ _ _ _ _ _ rfl (CompOk.make (N':=["_law_room","_law_number"]) (ix:=[3]) (nl:=1) (by rfl) (fm1 rfl fm0) (by rfl) (by decide +kernel) rfl (by decide +kernel) rfl (And.intro ⟨rfl,.inl rfl,.inl rfl⟩ True.intro)) (@m8 _ _ _ _ (@cg _ 2 _ _ rfl bX bH bI)) (fun _ _ _ _ _=>(@fT _ _ 1 _ (show List.Nodup (["_law_room","_law_number"]:List Str) from by decide) rfl (Or.inl rfl) (by first | exact .inl rfl | exact .inr rfl | assumption))) (fun _ _ _ _ _=>(@mH _)) (fun _ _ _ _ _=>(@gj _ _ _ _ _ _ _ _ (@ni _) (@pv _ 1 _ _ (by rfl) (by decreasing_trivial) (by decide) (by decide)) (@pv _ 0 _ _ (by rfl) (by decreasing_trivial) (by decide) (by decide)))) (by intro _; rfl))) (gG rfl) (.inl rfl))) (by intro _; rfl)) (@ff _ _ _ _ _ (@gI _ _ 4 _ _ _ _ aV.nd rfl qX (@rC _ _ _ _ (@dB _)) (gG rfl) (.inl rfl)) (@ff _ _ _ _ _ (@gI _ _ 5 _ _ _ _ aV.nd rfl qY (@rC _ _ _ _ (@dB _)) (gG rfl) (.inl rfl)) (@ff _ _ _ _ _ (@rB _ _ _ _ _ _ _ _ PassesOwn.never rfl (@m8 _ _ _ _ (@cg _ 1 _ _ rfl qV aa ae)) (@ve _ _ _ _ _ _ rfl (@ia _ _ _ _ _ (@fT _ _ 6 _ aV.nd rfl re (.inl rfl)) (@ia _ _ _ _ _ (@fT _ _ 7 _ aV.nd rfl rf (.inl rfl)) (@pB _) (by rfl)) (by rfl)) (by rfl) (by rfl)) (@ff _ _ _ _ _ (@gI _ _ 8 _ _ _ _ aV.nd rfl rh (@fZ _ _ _ _ _ _ _ _ _ (uJ rfl) nX M.m_sum xx (@cT _ _ _ _ _ (@lB _ _ _ _ _ _ _ _ _ _ _ _ _ _ _ rfl (CompOk.make (N':=["_law_place"]) (ix:=[]) (nl:=1) (by rfl) fm0 (by rfl) (by decide +kernel) rfl (by decide +kernel) rfl True.intro) (@m8 _ _ _ _ (@cg _ 6 _ _ rfl qZ eQ eR)) (fun _ _ _ _ _=>(@fT _ _ 0 _ (show List.Nodup (["_law_place"]:List Str) from by decide) rfl (Or.inl rfl) (by first | exact .inl rfl | exact .inr rfl | assumption))) (fun _ _ _ _ _=>(@mH _)) (fun _ _ _ _ _=>(@vn _ _ _ _ _ _ _ (@cT _ _ _ _ _ (@dR _ _ _ _) (@cT _ _ _ _ _ (@dR _ _ _ _) (@cT _ _ _ _ _ (@dR _ _ _ _) (@cT _ _ _ _ _ (@dR _ _ _ _) (@cT _ _ _ _ _ (@dR _ _ _ _) (@cT _ _ _ _ _ (@dR _ _ _ _) (@dB _) (di rfl)) (di rfl)) (di rfl)) (di rfl)) (di rfl)) (di rfl)) (@pv _ 0 _ _ (by rfl) (by decreasing_trivial) (by decide) (by decide)) (fun _ _=>rfl))) (by intro _; rfl)) (@dB _) (di rfl)) dW dU (di rfl) fD) (gG rfl) (.inl rfl)) (@ff _ _ _ _ _ (@gI _ _ 9 _ _ _ _ aV.nd rfl kJ (@cg _ 7 _ _ rfl kI eS eT) (gG rfl) (.inl rfl)) (@ff _ _ _ _ _ (@gI _ _ 10 _ _ _ _ aV.nd rfl j4 (@vQ _ _ _) (gG rfl) (.inl rfl)) (@ff _ _ _ _ _ (@rB _ _ _ _ _ _ _ _ PassesOwn.never rfl (@pA _ _ _ _ _ _ eC M.m_range (@cT _ _ _ _ _ (@fZ _ _ _ _ _ _ _ _ _ gJ fO M.m_len nj (@cT _ _ _ _ _ (@cg _ 2 _ _ rfl bX bH bI) (@dB _) (di rfl)) aF aE (di rfl) fD) (@dB _) (di rfl)) (star1' rfl)) (@fT _ _ 11 _ aV.nd rfl j5 (.inl rfl)) (@fL _ _ _ (@nS _ _ _ _ _ _ _ _ (@PW.pt _ _ _ (@vC _ _ _ _ _ _ _ (@jj _ _ _ _ _ _ _ _ (@t9 _) (@gj _ _ _ _ _ _ _ _ yi (@cg _ 11 _ _ rfl cw aq au) (@cg _ 8 _ _ rfl fo eA eB)) (@cg _ 8 _ _ rfl fo eA eB) (iG _)) (@vC _ _ _ _ _ _ _ (@jj _ _ _ _ _ _ _ _ (@Fq _) (@gf _ _ _ _ _ _ _ (@gK _) (@cg _ 2 _ _ rfl bX bH bI) (@cg _ 11 _ _ rfl cw aq au) (fun _ _=>rfl)) (@cg _ 7 _ _ rfl kI eS eT) (iG _)) (@vt _ _ _ _ (@jj _ _ _ _ _ _ _ _ yw (@gf _ _ _ _ _ _ _ (@gK _) (@cg _ 2 _ _ rfl bX bH bI) (@cg _ 11 _ _ rfl cw aq au) (fun _ _=>rfl)) (@cg _ 9 _ _ rfl ir gT gU) (iG _)))))) (@ff _ _ _ _ _ (@gI _ _ 9 _ _ _ _ aV.nd rfl kJ (@gf _ _ _ _ _ _ _ (@gK _) (@cg _ 2 _ _ rfl bX bH bI) (@cg _ 11 _ _ rfl cw aq au) (fun _ _=>rfl)) (gG rfl) (.inl rfl)) (@fL _ _ _ (@uu _ _ _ _ _ _ _ _ _ _ _ _ _ _ _ 10 _ _ _ aV.nd rfl j4 rfl (CompOk.make (N':=["_law_k","_law_place"]) (ix:=[11]) (nl:=1) (by rfl) (fm1 rfl fm0) (by rfl) (by decide +kernel) rfl (by decide +kernel) rfl (And.intro ⟨rfl,.inl rfl,.inl rfl⟩ True.intro)) (@pA _ _ _ _ _ _ eC M.m_range (@cT _ _ _ _ _ (@fZ _ _ _ _ _ _ _ _ _ gJ fO M.m_len nj (@cT _ _ _ _ _ (@cg _ 0 _ _ rfl kE aj ak) (@dB _) (di rfl)) aF aE (di rfl) fD) (@dB _) (di rfl)) (star1' rfl)) (fun _ _ _ _ _=>(@fT _ _ 1 _ (show List.Nodup (["_law_k","_law_place"]:List Str) from by decide) rfl (Or.inl rfl) (by first | exact .inl rfl | exact .inr rfl | assumption))) (fun _ _ _ _ _=>(@uZ _ _ _ (@jj _ _ _ _ _ _ _ _ (@t9 _) (@gj _ _ _ _ _ _ _ _ yi (@gj _ _ _ _ _ _ _ _ DM (@pv _ 0 _ _ (by rfl) (by decreasing_trivial) (by decide) (by decide)) (@pv _ 1 _ _ (by rfl) (by decreasing_trivial) (by decide) (by decide))) (@dR _ _ _ _)) (@dR _ _ _ _) (iG _)))) (fun _ _ _ _ _=>(@pv _ 1 _ _ (by rfl) (by decreasing_trivial) (by decide) (by decide))) (by rfl) (by intro _; rfl) (by first | exact .inl rfl | exact .inr rfl | assumption)))) (@kN _))) (by intro _; rfl)) (@ff _ _ _ _ _ (@rB _ _ _ _ _ _ _ _ PassesOwn.never rfl (@pA _ _ _ _ _ _ eC M.m_range (@cT _ _ _ _ _ (@fZ _ _ _ _ _ _ _ _ _ gJ fO M.m_len nj (@cT _ _ _ _ _ (@cg _ 2 _ _ rfl bX bH bI) (@dB _) (di rfl)) aF aE (di rfl) fD) (@dB _) (di rfl)) (star1' rfl)) (@fT _ _ 11 _ aV.nd rfl j5 (.inl rfl)) (@fL _ _ _ (@nS _ _ _ _ _ _ _ _ (@jj _ _ _ _ _ _ _ _ (@t9 _) (@gj _ _ _ _ _ _ _ _ yi (@cg _ 11 _ _ rfl cw aq au) (@cg _ 8 _ _ rfl fo eA eB)) (@cg _ 8 _ _ rfl fo eA eB) (iG _)) (@fL _ _ _ (@uB _ _ _ _ _ _ (@gj _ _ _ _ _ _ _ _ (@yh _) (@gf _ _ _ _ _ _ _ (@gK _) (@cg _ 2 _ _ rfl bX bH bI) (@cg _ 11 _ _ rfl cw aq au) (fun _ _=>rfl)) (@cg _ 9 _ _ rfl ir gT gU)) (@vD _ _ _ _ _ _ _ (@cg _ 2 _ _ rfl bX bH bI) (@cg _ 11 _ _ rfl cw aq au) set_list (by intro _; rfl)) (by rfl) (by rfl) (by rfl))) (@kN _))) (by intro _; rfl)) (@ff _ _ _ _ _ (@tM _ _ _ _ (@uS _ _ _ _ _ _ _ _ _ _ _ _ PySem.F.plainAttrs_list PySem.F.slot_list_append PySem.F.type_list_append pD (@cg _ 4 _ _ rfl kG bS bT) (@cT _ _ _ _ _ (@cg _ 9 _ _ rfl ir gT gU) (@dB _) (di rfl)) (by rfl) (by rfl) (by rfl) (by rfl) (by rfl)) (gG rfl)) (@fL _ _ _ (@tM _ _ _ _ (@uS _ _ _ _ _ _ _ _ _ _ _ _ PySem.F.plainAttrs_list PySem.F.slot_list_append PySem.F.type_list_append pD (@cg _ 5 _ _ rfl kH aX aY) (@cT _ _ _ _ _ (@cg _ 10 _ _ rfl qm qk ql) (@dB _) (di rfl)) (by rfl) (by rfl) (by rfl) (by rfl) (by rfl)) (gG rfl))))))))) (by intro _; rfl)) (@fL _ _ _ (@ic _ _ _ _ (@qt _ _ _ _ _ (@cT _ _ _ _ _ (@cg _ 4 _ _ rfl kG bS bT) (@cT _ _ _ _ _ (@cg _ 5 _ _ rfl kH aX aY) (@dB _) (di rfl)) (di rfl)))))))))),?_⟩
 obtain⟨us,hus,hpa⟩:=id hL
 have lus:us.length=L.length:=Paired.length hpa
 have l40:=ln.l
 trivial
 refine⟨by decide,fun p0 hp0=>?_⟩
 obtain⟨H0,g0,S0,T0⟩:=nL hp0 [V.int 0]
 rw[← g0]
 clear g0
 refine⟨⟨_,S0.seq hrm⟩,?_⟩
 obtain⟨Pv,hP⟩:∃ Pv:Nat→St→Hp→Prop,Pv=fun i σ H'=>∃ (sp:Addr) (z:Option V),H' sp=some (.lst (((List.range (2 ^ i)).map fun s=>roomS rooms i (kW s)).map V.int))∧H sp=none∧Same H H'∧σ=[some (.ref rm),some (.ref l),some (.ref sp),z,none,none,none,none,none,none,none,none]:=⟨_,rfl⟩
 refine uH (rooms.map V.int) Pv ?_ (fun i σ H' _ h=>by rw[hP] at h; obtain⟨_,_,_,_,e,_⟩:=h; exact e.seq hrm) ?_ ?_
 ·rw[hP]
  exact⟨p0,_,T0,hp0,S0,rfl⟩
 ·intro i v σ H1 hv h
  rw[hP] at h
  obtain⟨sp,z,d1,hsp,e1,rfl⟩:=h
  rw[List.getElem?_map] at hv
  obtain⟨x,hx,rfl⟩:=Option.map_eq_some_iff.mp hv
  have li:=(List.getElem?_eq_some_iff.mp hx).1
  have ex:rooms.getD i 0=x:=by rw[List.getD,hx]; rfl
  have s2:2 ^ i≤64:=Nat.le_trans (two_m (m:=i) (by omega)) (Nat.le_refl _)
  have llen:((List.range (2 ^ i)).map fun s=>roomS rooms i (kW s)).length=2 ^ i:=by rw[List.length_map,List.length_range]
  trivial
  refine⟨⟨_,SqL.of d1⟩,fun D hD=>?_⟩
  obtain⟨ms,hms⟩:∃ ms,ms=(List.range (2 ^ i)).map fun s=>roomS rooms i (kW s):=⟨_,rfl⟩
  rw[← hms] at d1 llen
  obtain⟨Pc,hC⟩:∃ Pc:Nat→St→Hp→Prop,Pc=fun k τ H'=>∃ (z:Option V),H' D=some (.lst (((ms.take k).map fun y=>y+x).map V.int))∧Same H1 H'∧τ=[some (.int x),z]:=⟨_,rfl⟩
  refine mJ (ms.map V.int) Pc ?_ (fun i τ H' _ h=>by rw[hC] at h; obtain⟨_,_,e,_⟩:=h; exact SqL.of (e _ _ d1)) ?_ ?_
  ·rw[hC]
   exact⟨_,er,fS hD _,rfl⟩
  ·intro k v τ H' R' hv h next
   rw[hC] at h
   obtain⟨z2,d2,e2,rfl⟩:=h
   rw[List.getElem?_map] at hv
   obtain⟨y,hy,rfl⟩:=Option.map_eq_some_iff.mp hv
   have lk:=(List.getElem?_eq_some_iff.mp hy).1
   trivial
   refine⟨_,d2,?_,next _ _ ?_⟩
   ·rw[List.length_map,List.length_map,List.length_take]
    exact Nat.lt_of_lt_of_le (m:=1000) (by omega) (by decide)
   ·rw[hC]
    refine⟨_,?_,gu e2 hD _,rfl⟩
    rw[er,List.take_add_one,hy,List.map_append,List.map_append]
    rfl
  intro τ H2 h
  rw[hC] at h
  obtain⟨z2,d2,e2,rfl⟩:=h
  rw[List.length_map,List.take_length] at d2
  refine⟨D,rfl,_,e2 _ _ d1,_,d2,?_,fun p hp=>?_⟩
  ·rw[List.length_map,List.length_map,List.length_map,llen]
   exact Nat.le_trans (m:=1000) (by omega) (by decide)
  rw[hP]
  refine⟨p,_,?_,none_of (e1.trans e2) hp,(e1.trans e2).trans (fS hp _),rfl⟩
  rw[er,← List.map_append,hms,← ex,E3 (by omega)]
 intro σ H1 h
 rw[hP] at h
 obtain⟨sp,z,d1,hsp,e1,rfl⟩:=h
 clear hP
 rw[List.length_map] at d1
 obtain⟨N,hN⟩:∃ N,N=2 ^ rooms.length:=⟨_,rfl⟩
 have N64:N≤64:=by rw[hN]; exact two_m m6
 have d1':H1 sp=some (.lst ((uf rooms L [] N 0 0).map V.int)):=by
  rw[d1,hN]
  congr 3
  unfold uf
  refine List.map_congr_left fun t _=>?_
  rw[if_neg (by omega)]
  show _=roomS rooms rooms.length (kW t)-0
  omega
 trivial
 refine⟨by decide,fun du hdu=>⟨by decide,fun ow how=>?_⟩⟩
 have hdu':=none_of e1 hdu
 have nOD:ow≠du:=fun z=>by rw[z,er] at how; cases how
 have how1:H1 ow=none:=by rw[fj nOD] at how; exact how
 have how':=none_of e1 how1
 have nn:∀ {Hx:Hp} {a b:Addr} {u:HO},Hx a=none→Hx b=some u→a≠b:=fun h1 h2 z=>by rw[← z,h1] at h2; cases h2
 have nSD:du≠sp:=nn hdu d1
 have nSO:ow≠sp:=nn how1 d1
 have S2:Same H (upd (upd H1 du (.lst [])) ow (.lst [])):=gu (gu e1 hdu' _) how' _
 refine⟨⟨_,S2.seq hus⟩,?_⟩
 obtain⟨Pv,hP⟩:∃ Pv:Nat→St→Hp→Prop,Pv=fun e σ H'=>∃ (G:List Int) (cs:List V) (z6 z7 z8 z9 z10 z11:Option V),H' sp=some (.lst ((uf rooms L G N e 0).map V.int))∧H' du=some (.lst (G.map V.int))∧H' ow=some (.lst cs)∧G.length=e∧cs.length=e∧(∀ k s,k≤e→s<N→0≤spr rooms L G k s)∧(∀ k,k<e→0≤G.getD k 0∧G.getD k 0≤wt L k)∧(∀ (k:Nat) (v:V),cs[k]?=some v→(v=.non∧G.getD k 0=wt L k)∨∃ (c:Addr) (s:Nat),v=.ref c∧H' c=some (.lst ((vz rooms.length s).map V.int))∧c≠sp∧c≠du∧c≠ow∧G.getD k 0<wt L k∧(pl L k).all (kW s)=true∧spr rooms L G (k+1) s=0)∧Same H H'∧σ=[some (.ref rm),some (.ref l),some (.ref sp),z,some (.ref du),some (.ref ow),z6,z7,z8,z9,z10,z11]:=⟨_,rfl⟩
 refine uH us Pv ?_ (fun i σ H' _ h=>by rw[hP] at h; obtain⟨_,_,_,_,_,_,_,_,_,_,_,_,_,_,_,_,e,_⟩:=h; exact e.seq hus) ?_ ?_
 ·rw[hP]
  refine⟨[],[],_,_,_,_,_,_,?_,?_,er,rfl,rfl,fun k s hk hs=>?_,(fun k hk=>by omega),(fun k v hv=>by cases hv),S2,rfl⟩
  ·rw[fj (Ne.symm nSO),fj (Ne.symm nSD)]
   exact d1'
  ·rw[fj (Ne.symm nOD),er]
   rfl
  ·have k0:k=0:=by omega
   subst k0
   show 0≤roomS rooms rooms.length (kW s)-0
   have:0≤roomS rooms rooms.length (kW s):=by
    unfold roomS
    refine xy fun j hj=>?_
    split
    ·rw[My.getD_at hj]
     exact r0 _ (List.getElem_mem hj)
    ·exact Int.le_refl _
   omega
 ·intro e v σ H2 hv h
  rw[hP] at h
  obtain⟨G,cs,z6,z7,z8,z9,z10,z11,dsp,ddu,dow,lG,lc,sn,gb,cut,e2,rfl⟩:=h
  have le:=(List.getElem?_eq_some_iff.mp hv).1
  have he:e<L.length:=by omega
  obtain⟨en,hen⟩:∃ en,L[e]?=some en:=⟨_,List.getElem?_eq_getElem he⟩
  obtain⟨te,qe,b1,b2,b3⟩:=sH hpa hen
  rw[hv] at b1
  cases b1
  have ew:wt L e=en.2:=by rw[wt,List.getD,hen]; rfl
  have ep:pl L e=en.1:=by rw[pl,List.getD,hen]; rfl
  have w0:0≤wt L e:=by rw[ew]; exact (ln.w en (List.mem_of_getElem? hen)).1
  rw[← ew] at b2
  rw[← ep] at b3
  have ple:=ye ln he
  have pm:∀ j∈pl L e,j<rooms.length:=fun j hj=>List.mem_range.mp (ple.subset hj)
  have pll:(pl L e).length≤6:=by
   have:=ple.length_le
   rw[List.length_range] at this
   omega
  trivial
  refine⟨_,Same.tup e2 b2,rfl,?_⟩
  trivial
  refine⟨⟨_,e2.seq b3⟩,fun D hD=>?_⟩
  obtain⟨Pc,hC⟩:∃ Pc:Nat→St→Hp→Prop,Pc=fun i τ H'=>∃ (z:Option V),H' D=some (.lst ((((pl L e).take i).map tw).map V.int))∧Same H2 H'∧τ=[z]:=⟨_,rfl⟩
  refine mJ _ Pc ?_ (fun i τ H' _ h=>by rw[hC] at h; obtain⟨_,_,e',_⟩:=h; exact (e2.trans e').seq b3) ?_ ?_
  ·rw[hC]
   exact⟨_,er,fS hD _,rfl⟩
  ·intro i x τ H' R' hx h next
   rw[hC] at h
   obtain⟨z,d1,e',rfl⟩:=h
   rw[List.getElem?_map] at hx
   obtain⟨j,hj,rfl⟩:=Option.map_eq_some_iff.mp hx
   have li:=(List.getElem?_eq_some_iff.mp hj).1
   have j6:=pm j (List.mem_of_getElem? hj)
   have me:[V.int 1,V.int 2,V.int 4,V.int 8,V.int 16,V.int 32][((j:Nat):Int).toNat]?=some (.int (tw j)):=by
    rw[Int.toNat_natCast]
    rcases j with _ | _ | _ | _ | _ | _ | j
    ·rfl
    ·rfl
    ·rfl
    ·rfl
    ·rfl
    ·rfl
    ·omega
   trivial
   refine⟨by decide,by omega,_,me,_,d1,?_,next _ _ ?_⟩
   ·rw[List.length_map,List.length_map,List.length_take]
    exact Nat.lt_of_lt_of_le (m:=1000) (by omega) (by decide)
   ·rw[hC]
    refine⟨_,?_,gu e' hD _,rfl⟩
    rw[er,List.take_add_one,hj,List.map_append,List.map_append]
    rfl
  intro τ H3 h
  rw[hC] at h
  obtain⟨zc,dD,e3,rfl⟩:=h
  clear hC
  rw[List.length_map,List.take_length] at dD
  have dsp3:=e3 _ _ dsp
  have e23:=e2.trans e3
  refine⟨D,rfl,_,SqL.of dD,_,.inl (SqL.of dsp3),by rw[List.length_map,nY]; omega,by rw[List.length_map,nY]; omega,?_⟩
  rw[List.length_map,nY,Int.toNat_natCast,show ((pl L e).map tw).sum=xR (pl L e) from rfl]
  obtain⟨Pa,hA⟩:∃ Pa:Nat→St→Hp→Prop,Pa=fun i σ H'=>∃ (mo:Int) (hv:V) (y:Option V),Same H3 H'∧0≤mo∧mo≤wt L e∧(∀ s,s<i→(pl L e).all (kW s)=true→mo≤spr rooms L G e s)∧((hv=.non∧mo=wt L e)∨∃ (c:Addr) (s:Nat),hv=.ref c∧H' c=some (.lst ((vz rooms.length s).map V.int))∧H3 c=none∧(pl L e).all (kW s)=true∧spr rooms L G e s=mo∧mo<wt L e)∧σ=[some (.ref rm),some (.ref l),some (.ref sp),z,some (.ref du),some (.ref ow),some (.ref qe),some (.int (wt L e)),some (.int (xR (pl L e))),some (.int mo),some hv,y]:=⟨_,rfl⟩
  refine ua Pa ?_ ?_ ?_
  ·rw[hA]
   exact⟨_,_,_,fun _ _ h=>h,w0,Int.le_refl _,(fun s hs=>by omega),.inl ⟨rfl,rfl⟩,rfl⟩
  ·intro i σ H4 hi h
   rw[hA] at h
   obtain⟨mo,hv,y,e4,m0,mw,ml,mh,rfl⟩:=h
   have iw:=BC ln m6 (show i<64 by omega) he
   have ei:(0+(i:Int))=(i:Int):=by omega
   have dsp4:=e4 _ _ dsp3
   have iat:atI ((uf rooms L G N e 0).map V.int) (i:Int)=some (.int (spr rooms L G e i)):=by
    refine nM ?_
    rw[List.getElem?_map,uK hi,if_neg (by omega)]
    rfl
   have sni:=sn e i (Nat.le_refl _) hi
   trivial
   by_cases hin:(pl L e).all (kW i)=true
   ·rw[ei,if_pos (iw.mpr hin)]
    refine⟨_,SqL.of dsp4,_,iat,_,rfl,?_⟩
    by_cases h1:spr rooms L G e i<wt L e
    ·rw[if_pos h1]
     refine⟨_,SqL.of dsp4,_,iat,_,rfl,?_⟩
     by_cases h2:spr rooms L G e i≤mo
     ·rw[if_pos h2]
      refine⟨_,SqL.of dsp4,_,iat,_,.inl ((e23.trans e4).seq hrm),by rw[List.length_map]; omega,by rw[List.length_map]; omega,fun D2 hD2=>?_⟩
      rw[List.length_map,Int.toNat_natCast]
      obtain⟨Pc,hC⟩:∃ Pc:Nat→St→Hp→Prop,Pc=fun j τ H'=>∃ (z:Option V),H' D2=some (.lst (((List.range j).filter (kW i)).map fun j:Nat=>V.int (j:Int)))∧Same H4 H'∧τ=[some (.int (i:Int)),z]:=⟨_,rfl⟩
      refine uC Pc ?_ ?_ ?_
      ·rw[hC]
       exact⟨_,er,fS hD2 _,rfl⟩
      ·intro j τ H' R' hj h next
       rw[hC] at h
       obtain⟨z,d4,e5,rfl⟩:=h
       have epj:(List.range (j+1)).filter (kW i)=(List.range j).filter (kW i)++[j].filter (kW i):=by
        rw[List.range_succ,List.filter_append]
       have ll:((List.range j).filter (kW i)).length≤j:=by
        refine Nat.le_trans (List.length_filter_le ..) ?_
        rw[List.length_range]
        exact Nat.le_refl _
       trivial
       rw[show (0+(j:Int))=((j:Nat):Int) by omega,Int.toNat_natCast]
       refine⟨by omega,?_⟩
       by_cases hz:Builtin.bitAnd ((i:Int) / 2 ^ j) 1=1
       ·rw[if_pos hz]
        refine⟨_,d4,by rw[List.length_map]; exact Nat.lt_of_lt_of_le (m:=1000) (by omega) (by decide),next _ _ ?_⟩
        rw[hC]
        refine⟨_,?_,gu e5 hD2 _,rfl⟩
        rw[er,epj,List.filter_cons_of_pos (show kW i j=true from decide_eq_true hz),List.filter_nil,List.map_append]
        rfl
       ·rw[if_neg hz]
        refine next _ _ ?_
        rw[hC]
        refine⟨_,?_,e5,rfl⟩
        rw[epj,List.filter_cons_of_neg (show ¬ kW i j=true from fun y=>hz (of_decide_eq_true y)),List.filter_nil,List.append_nil]
        exact d4
      intro τ H5 h
      rw[hC] at h
      obtain⟨z',d5,e5,rfl⟩:=h
      rw[hA]
      refine⟨_,_,_,e4.trans e5,sni,Int.le_of_lt h1,fun s hs hs2=>?_,.inr ⟨D2,i,rfl,?_,none_of e4 hD2,hin,rfl,h1⟩,rfl⟩
      ·by_cases y:s=i
       ·rw[y]
        exact Int.le_refl _
       ·exact Int.le_trans h2 (ml s (by omega) hs2)
      ·rw[d5,vz,List.map_map]
       rfl
     ·rw[if_neg h2,hA]
      refine⟨_,_,_,e4,m0,mw,fun s hs hs2=>?_,mh,rfl⟩
      by_cases y:s=i
      ·rw[y]
       omega
      ·exact ml s (by omega) hs2
    ·rw[if_neg h1,hA]
     refine⟨_,_,_,e4,m0,mw,fun s hs hs2=>?_,mh,rfl⟩
     by_cases y:s=i
     ·rw[y]
      omega
     ·exact ml s (by omega) hs2
   ·rw[ei,if_neg fun y=>hin (iw.mp y),hA]
    refine⟨_,_,_,e4,m0,mw,fun s hs hs2=>?_,mh,rfl⟩
    by_cases y:s=i
    ·subst y
     exact absurd hs2 hin
    ·exact ml s (by omega) hs2
  ·intro σ H4 h
   rw[hA] at h
   obtain⟨mo,hv,y,e4,m0,mw,ml,mh,rfl⟩:=h
   clear hA
   have dsp4:=e4 _ _ dsp3
   have ddu4:=(e3.trans e4) _ _ ddu
   have dow4:=(e3.trans e4) _ _ dow
   have e24:=e23.trans e4
   trivial
   refine⟨_,.inl (SqL.of dsp4),by rw[List.length_map,nY]; omega,by rw[List.length_map,nY]; omega,?_⟩
   rw[List.length_map,nY,Int.toNat_natCast]
   obtain⟨G',hG'⟩:∃ G',G'=G++[mo]:=⟨_,rfl⟩
   have ge:G'.getD e 0=mo:=by rw[hG',← lG]; exact getD_snoc
   have gl:∀ k,k<e→G'.getD k 0=G.getD k 0:=fun k hk=>by rw[hG']; exact GM (by omega)
   have sx:∀ k s,k≤e→spr rooms L G' k s=spr rooms L G k s:=fun k s hk=>by rw[hG']; exact BH (by omega)
   obtain⟨Pb,hB⟩:∃ Pb:Nat→St→Hp→Prop,Pb=fun i σ H'=>∃ (y:Option V),H' sp=some (.lst ((uf rooms L G' N e i).map V.int))∧(∀ b u,b≠sp→H4 b=some u→H' b=some u)∧Same H H'∧σ=[some (.ref rm),some (.ref l),some (.ref sp),z,some (.ref du),some (.ref ow),some (.ref qe),some (.int (wt L e)),some (.int (xR (pl L e))),some (.int mo),some hv,y]:=⟨_,rfl⟩
   refine ua Pb ?_ ?_ ?_
   ·rw[hB]
    refine⟨_,?_,fun _ _ _ h=>h,e24,rfl⟩
    rw[dsp4,hG',EM (by omega)]
   ·intro i σ H5 hi h
    rw[hB] at h
    obtain⟨y,d5,k5,e5,rfl⟩:=h
    have iw:=BC ln m6 (show i<64 by omega) he
    have ei:(0+(i:Int))=(i:Int):=by omega
    trivial
    by_cases hin:(pl L e).all (kW i)=true
    ·rw[ei,if_pos (iw.mpr hin)]
     have iat:atI ((uf rooms L G' N e i).map V.int) (i:Int)=some (.int (spr rooms L G' e i)):=by
      refine nM ?_
      rw[List.getElem?_map,uK hi,if_neg (by omega)]
      rfl
     have si:=An (rooms:=rooms) (G:=G') hin
     rw[ge] at si
     refine⟨_,SqL.of d5,_,iat,_,rfl,_,d5,i,vR (by rw[List.length_map,nY]; exact hi),?_⟩
     rw[← si,← List.map_set,E4,hB]
     exact⟨_,er,fun b u hb h=>by rw[fj hb]; exact k5 b u hb h,gu e5 hsp _,rfl⟩
    ·rw[ei,if_neg fun y=>hin (iw.mp y),hB]
     exact⟨_,by rw[← EK hin]; exact d5,k5,e5,rfl⟩
   ·intro σ H5 h
    rw[hB] at h
    obtain⟨y,d5,k5,e5,rfl⟩:=h
    rw[EY] at d5
    have ddu5:=k5 _ _ nSD ddu4
    have dow5:=k5 _ _ nSO dow4
    trivial
    refine⟨.inl ⟨rfl,_,SqL.of ddu5⟩,_,ddu5,Nat.lt_of_lt_of_le (m:=1000) (by rw[List.length_map]; omega) (by decide),?_⟩
    have dow6:upd H5 du (.lst (G.map V.int++[V.int mo])) ow=some (.lst cs):=by rw[fj nOD]; exact dow5
    refine⟨.inl ⟨rfl,_,SqL.of dow6⟩,_,dow6,Nat.lt_of_lt_of_le (m:=1000) (by omega) (by decide),?_⟩
    have keep:∀ b u,b≠sp→b≠du→b≠ow→H4 b=some u→upd (upd H5 du (.lst (G.map V.int++[V.int mo]))) ow (.lst (cs++[hv])) b=some u:=fun b u h1 h2 h3 h4=>by
     rw[fj h3,fj h2]
     exact k5 b u h1 h4
    rw[hP]
    refine⟨G',cs++[hv],_,_,_,_,_,_,?_,?_,er,by rw[hG',List.length_append,lG]; rfl,by rw[List.length_append,lc]; rfl,fun k s hk hs=>?_,fun k hk=>?_,fun k v hv'=>?_,gu (gu e5 hdu' _) how' _,rfl⟩
    ·rw[fj (Ne.symm nSO),fj (Ne.symm nSD)]
     exact d5
    ·rw[fj (Ne.symm nOD),er,hG',List.map_append]
     rfl
    ·by_cases k1:k≤e
     ·rw[sx k s k1]
      exact sn k s k1 hs
     ·have ke:k=e+1:=by omega
      subst ke
      by_cases hin:(pl L e).all (kW s)=true
      ·rw[An hin,ge,sx e s (Nat.le_refl _)]
       have:=ml s hs hin
       omega
      ·rw[BP hin,sx e s (Nat.le_refl _)]
       exact sn e s (Nat.le_refl _) hs
    ·by_cases k1:k<e
     ·rw[gl k k1]
      exact gb k k1
     ·have ke:k=e:=by omega
      subst ke
      rw[ge]
      exact⟨m0,mw⟩
    ·by_cases k1:k<cs.length
     ·rw[List.getElem?_append_left k1] at hv'
      rw[gl k (by omega)]
      rcases cut k v hv' with h | ⟨c,s,h1,h2,h3,h4,h5,h6,h7,h8⟩
      ·exact .inl h
      ·exact .inr ⟨c,s,h1,keep c _ h3 h4 h5 ((e3.trans e4) _ _ h2),h3,h4,h5,h6,h7,by rw[sx (k+1) s (by omega)]; exact h8⟩
     ·have k2:=(List.getElem?_eq_some_iff.mp hv').1
      rw[List.length_append,List.length_singleton] at k2
      have ke:k=e:=by omega
      rw[List.getElem?_append_right (by omega),show k-cs.length=0 by omega] at hv'
      cases hv'
      subst ke
      rw[ge]
      rcases mh with h | ⟨c,s,h1,h2,h3,h4,h5,h6⟩
      ·exact .inl h
      ·have n1:c≠sp:=nn h3 dsp3
       have n2:c≠du:=nn h3 (e3 _ _ ddu)
       have n3:c≠ow:=nn h3 (e3 _ _ dow)
       exact .inr ⟨c,s,h1,keep c _ n1 n2 n3 h2,n1,n2,n3,h6,h4,by rw[An h4,ge,sx _ s (Nat.le_refl _),h5]; omega⟩
 ·intro σ H2 h
  rw[hP] at h
  obtain⟨G,cs,z6,z7,z8,z9,z10,z11,dsp,ddu,dow,lG,lc,sn,gb,cut,e2,rfl⟩:=h
  rw[lus] at lG lc sn gb
  trivial
  refine⟨by decide,fun t ht=>?_⟩
  obtain⟨H3,g3,S3,T3⟩:=ji (K:=K) ht [V.ref du,V.ref ow]
  rw[← g3]
  clear g3
  have HY:∀ (k:Nat) (v:V),cs[k]?=some v→CutN K H3 rooms L G k v:=fun k v hv=>by
   have lk:=(List.getElem?_eq_some_iff.mp hv).1
   rcases cut k v hv with h | ⟨c,s,h1,h2,_,_,_,h3,h4,h5⟩
   ·exact .inl h
   ·have plm:∀ j∈pl L k,j<rooms.length:=fun j hj=>List.mem_range.mp ((ye ln (by omega)).subset hj)
    refine .inr ⟨c,vz rooms.length s,h1,SqL.of (S3 _ _ h2),Nat.le_trans EH m6,h3,GR,GE,?_,?_⟩
    ·rw[all_congr fun j hj=>yO (plm j hj)]
     exact h4
    ·rw[xD (S':=kW s) fun j hj=>yO hj,xK (S':=kW s) fun e' he' j hj=>yO (List.mem_range.mp ((ye ln (by omega)).subset hj))]
     unfold spr at h5
     omega
  refine q t du ow G cs H3 (e2.trans S3) T3 (S3 _ _ ddu) (S3 _ _ dow) lc HY ⟨lG,fun e he=>(gb e he).1,fun e he=>(gb e he).2,fun S k hk=>?_,fun e he hlt=>?_⟩
  ·obtain⟨s,sN,sS⟩:=GU m6 S
   have:=sn k s hk (by rw[hN]; exact sN)
   unfold spr at this
   rw[xD sS,xK fun e' he' j hj=>sS j (List.mem_range.mp ((ye ln (by omega)).subset hj))] at this
   omega
  ·obtain⟨v,hv⟩:∃ v,cs[e]?=some v:=⟨_,List.getElem?_eq_getElem (by omega)⟩
   rcases cut e v hv with ⟨_,h⟩ | ⟨c,s,_,_,_,_,_,_,h4,h5⟩
   ·omega
   ·refine⟨kW s,h4,?_⟩
    unfold spr at h5
    omega
end
end MyX
namespace MyY
open My MyB MyC MyD MyE MyF MyG MyS MyI MyJ MyK MyT MyU MyV MyW MyX PySem L2
def top (i:Nat):Stmt:=PySem.Challenge.pw_tariffgate_k67_whole_no_other.main.body.getD i (.Pass ⟨0,0,0,0⟩)
theorem fP:(("_law_route":Str) == ("__debug__":Str))=false:=by decide
theorem fQ:(("_law_route":Str) == ("__classdict__":Str))=false:=by decide
theorem j7:(("_law_rest":Str) == ("__debug__":Str))=false:=by decide
theorem j8:(("_law_rest":Str) == ("__classdict__":Str))=false:=by decide
theorem eW:(("_law_amount":Str) == ("__debug__":Str))=false:=by decide
theorem eX:(("_law_amount":Str) == ("__classdict__":Str))=false:=by decide
theorem gW:(("_law_less":Str) == ("__debug__":Str))=false:=by decide
theorem gX:(("_law_less":Str) == ("__classdict__":Str))=false:=by decide
theorem gY:(("_law_sums":Str) == ("__debug__":Str))=false:=by decide
theorem gZ:(("_law_sums":Str) == ("__classdict__":Str))=false:=by decide
abbrev aI:Stmt:=top 29
theorem cI:FnScope ["_law_route","_law_many","_law_rest","_law_place","_law_amount","_law_less"] ["_law_route","_law_many"] (defScope aI):=⟨rfl,rfl,rfl,by decide +kernel,rfl,by decide +kernel,by decide +kernel⟩
theorem nZ:Vis (defScope aI) "_law_route":=by decreasing_trivial
theorem jq:Vis (defScope aI) "_law_many":=by decreasing_trivial
theorem n5:Loc (defScope aI) "_law_many":=by first | exact Or.inl rfl | exact Or.inr rfl
theorem jr:Vis (defScope aI) "_law_rest":=by decreasing_trivial
theorem n8:Loc (defScope aI) "_law_rest":=by first | exact Or.inl rfl | exact Or.inr rfl
theorem n9:Vis (defScope aI) "_law_place":=by decreasing_trivial
theorem og:Loc (defScope aI) "_law_place":=by first | exact Or.inl rfl | exact Or.inr rfl
theorem fR:Vis (defScope aI) "_law_amount":=by decreasing_trivial
theorem oh:Loc (defScope aI) "_law_amount":=by first | exact Or.inl rfl | exact Or.inr rfl
theorem fU:Vis (defScope aI) "_law_less":=by decreasing_trivial
theorem oj:Loc (defScope aI) "_law_less":=by first | exact Or.inl rfl | exact Or.inr rfl
theorem lJ:(defScope aI).names.lookup ("min":Str)=some .globalImplicit:=by rfl
abbrev bA:Stmt:=top 30
theorem j9:FnScope ["_law_route","_law_place","_law_many","_law_sums"] ["_law_route","_law_place","_law_many"] (defScope bA):=⟨rfl,rfl,rfl,by decide +kernel,rfl,by decide +kernel,by decide +kernel⟩
theorem oo:Vis (defScope bA) "_law_route":=by decreasing_trivial
theorem js:Vis (defScope bA) "_law_place":=by decreasing_trivial
theorem oq:Vis (defScope bA) "_law_many":=by decreasing_trivial
theorem fV:Vis (defScope bA) "_law_sums":=by decreasing_trivial
theorem ou:Loc (defScope bA) "_law_sums":=by first | exact Or.inl rfl | exact Or.inr rfl
theorem kX:(defScope bA).names.lookup ("dict":Str)=some .globalImplicit:=by rfl
def vM (xs:List (Nat×Int)) (p:Nat) (a:Int):List (Nat×Int):=if p∈xs.map Prod.fst then xs.map (fun x=>if x.1=p then (p,x.2+a) else x) else xs++[(p,a)]
def encK (x:Nat×Int):Key×V:=(.inl (x.1:Int),.int x.2)
theorem EI {xs:List (Nat×Int)} {p:Nat} {a:Int}:(vM xs p a).map Prod.fst=if p∈xs.map Prod.fst then xs.map Prod.fst else xs.map Prod.fst++[p]:=by
 unfold vM
 by_cases h:p∈xs.map Prod.fst
 ·rw[if_pos h,if_pos h,List.map_map]
  refine List.map_congr_left fun x _=>?_
  show (if x.1=p then (p,x.2+a) else x).1=x.1
  split
  ·rename_i z; exact z.symm
  ·rfl
 ·rw[if_neg h,if_neg h,List.map_append]
  rfl
theorem yF {xs:List (Nat×Int)} {p:Nat} {a:Int} (h:(xs.map Prod.fst).Nodup):((vM xs p a).map Prod.fst).Nodup:=by
 rw[EI]
 split
 ·exact h
 ·rename_i z
  exact yk h z
theorem yb {xs:List (Nat×Int)} {p:Nat} {a:Int}:(vM xs p a).length≤xs.length+1:=by
 unfold vM
 split
 ·rw[List.length_map]; omega
 ·rw[List.length_append]; exact Nat.le_refl _
theorem BR {xs:List (Nat×Int)} {p:Nat}:valV (xs.map encK) (.inl (p:Int))=(xs.find? fun x=>decide (x.1=p)).map fun x=>V.int x.2:=by
 unfold valV
 induction xs with
 | nil=>rfl
 | cons x xs ih =>
  rw[List.map_cons,List.find?_cons,List.find?_cons]
  have:(decide ((encK x).1=Sum.inl (p:Int)))=decide (x.1=p):=decide_eq_decide.mpr ⟨fun z=>by have:(x.1:Int)=(p:Int):=Sum.inl.inj z; omega,fun z=>by show (Sum.inl (x.1:Int):Key)=_; rw[z]⟩
  rw[this]
  cases decide (x.1=p)
  ·exact ih
  ·rfl
theorem GF {xs:List (Nat×Int)} {p:Nat} {b:Int}:putK (xs.map encK) (.inl (p:Int)) (.int b)=(if p∈xs.map Prod.fst then xs.map (fun x=>if x.1=p then (p,b) else x) else xs++[(p,b)]).map encK:=by
 unfold putK
 have e1:∀ x:Nat×Int,(encK x).1=(.inl (p:Int):Key)↔x.1=p:=fun x=>⟨fun z=>by have:(x.1:Int)=(p:Int):=Sum.inl.inj z; omega,fun z=>by show (Sum.inl (x.1:Int):Key)=_; rw[z]⟩
 by_cases h:p∈xs.map Prod.fst
 ·rw[if_pos h]
  have:((xs.map encK).any fun kv=>decide (kv.1=(.inl (p:Int):Key)))=true:=by
   obtain⟨x,hx,e⟩:=List.mem_map.mp h
   rw[List.any_eq_true]
   exact⟨encK x,List.mem_map.mpr ⟨x,hx,rfl⟩,decide_eq_true ((e1 x).mpr e)⟩
  rw[if_pos this,List.map_map,List.map_map]
  refine List.map_congr_left fun x _=>?_
  show (if (encK x).1=(.inl (p:Int):Key) then ((encK x).1,V.int b) else encK x)=encK (if x.1=p then (p,b) else x)
  by_cases z:x.1=p
  ·rw[if_pos ((e1 x).mpr z),if_pos z]
   unfold encK
   rw[z]
  ·rw[if_neg (fun y=>z ((e1 x).mp y)),if_neg z]
 ·rw[if_neg h]
  have:((xs.map encK).any fun kv=>decide (kv.1=(.inl (p:Int):Key)))=false:=by
   rw[List.any_eq_false]
   intro kv hkv
   obtain⟨x,hx,rfl⟩:=List.mem_map.mp hkv
   intro z
   exact h (List.mem_map.mpr ⟨x,hx,(e1 x).mp (of_decide_eq_true z)⟩)
  rw[if_neg (by rw[this]; decide),List.map_append]
  rfl
def Hv (xs:List (Nat×Int)) (p:Nat) (b:Int):List (Nat×Int):=if p∈xs.map Prod.fst then xs.map (fun x=>if x.1=p then (p,b) else x) else xs++[(p,b)]
theorem BL {xs:List (Nat×Int)} {p:Nat} (nd:(xs.map Prod.fst).Nodup) {x:Nat×Int} (hx:x∈xs) (e:x.1=p):xs.find? (fun x=>decide (x.1=p))=some x:=by
 induction xs with
 | nil=>cases hx
 | cons y ys ih =>
  rw[List.map_cons,List.nodup_cons] at nd
  rw[List.find?_cons]
  rcases List.mem_cons.mp hx with rfl | hx'
  ·rw[decide_eq_true e]
  ·have:¬ y.1=p:=fun z=>nd.1 (List.mem_map.mpr ⟨x,hx',by rw[e,z]⟩)
   rw[decide_eq_false this]
   exact ih nd.2 hx'
theorem Gh {xs:List (Nat×Int)} {p:Nat} {a:Int} (nd:(xs.map Prod.fst).Nodup):Hv xs p (((xs.find? fun x=>decide (x.1=p)).map fun x=>x.2).getD 0+a)=vM xs p a:=by
 unfold Hv vM
 by_cases h:p∈xs.map Prod.fst
 ·rw[if_pos h,if_pos h]
  refine List.map_congr_left fun x hx=>?_
  by_cases z:x.1=p
  ·rw[if_pos z,if_pos z,BL nd hx z]
   rfl
  ·rw[if_neg z,if_neg z]
 ·rw[if_neg h,if_neg h]
  have:xs.find? (fun x=>decide (x.1=p))=none:=by
   rw[List.find?_eq_none]
   intro x hx z
   exact h (List.mem_map.mpr ⟨x,hx,of_decide_eq_true z⟩)
  rw[this]
  show xs++[(p,0+a)]=_
  rw[Int.zero_add]
theorem G1 {xs:List (Nat×Int)} (nd:(xs.map Prod.fst).Nodup):((xs.map encK).map (·.1)).Nodup:=by
 rw[List.map_map,List.Nodup,List.pairwise_map]
 rw[List.Nodup,List.pairwise_map] at nd
 exact nd.imp fun h z=>h (by have:=Sum.inl.inj z; omega)
theorem B4 {K:PySem.W.Frag} {H:Hp}:∀ {us:List V} {xs:List (Nat×Int)},RtAt K H us xs→∃ ps:List Addr,us=ps.map V.ref∧ps.length=xs.length∧∀ (j:Nat) (a:Addr) (kv:Key×V),ps[j]?=some a→(xs.map encK)[j]?=some kv→SqT K H a [kV kv.1,kv.2]
 | _,_,.nil=>⟨[],rfl,rfl,fun j a kv h=>by cases h⟩
 | _,_,.cons ⟨t,e,h⟩ r=>by
  obtain⟨ps,e1,l1,h1⟩:=B4 r
  refine⟨t::ps,by rw[List.map_cons,← e1,e],by rw[List.length_cons,List.length_cons,l1],fun j a kv ha hk=>?_⟩
  cases j with
  | zero =>
   cases ha
   cases hk
   exact h
  | succ j =>
   rw[List.getElem?_cons_succ] at ha
   rw[List.map_cons,List.getElem?_cons_succ] at hk
   exact h1 j a kv ha hk
def zh (K:PySem.W.Frag):Sp:=fun vs H Q _=>∃ (r:Addr) (us:List V) (xs:List (Nat×Int)) (m:Int),vs=[.ref r,.int m]∧SqL K H r us∧RtAt K H us xs∧xs.length≤200∧∀ (r':Addr) (us':List V) (xs':List (Nat×Int)) (H':Hp),Same H H'→H r'=none→H' r'=some (.lst us')→RtAt K H' us' xs'→(xs'.map Prod.fst).Sublist (xs.map Prod.fst)→Q (.ref r') H'
def yZ (K:PySem.W.Frag) (flt:Nat×Int→Bool):Sp:=fun vs H Q _=>∃ (r:Addr) (us:List V) (xs:List (Nat×Int)) (p:Nat) (m:Int),vs=[.ref r,.int (p:Int),.int m]∧SqL K H r us∧RtAt K H us xs∧xs.length≤300∧(xs.map Prod.fst).Nodup∧∀ (r':Addr) (us':List V) (H':Hp),Same H H'→H r'=none→H' r'=some (.lst us')→RtAt K H' us' ((vM xs p m).filter flt)→Q (.ref r') H'
theorem Bx {K:PySem.W.Frag} {H:Hp}:∀ {us:List V} {xs:List (Nat×Int)} {i:Nat} {v:V},RtAt K H us xs→us[i]?=some v→∃ t x,v=V.ref t∧xs[i]?=some x∧SqT K H t [.int (x.1:Int),.int x.2]
 | _,_,_,_,.nil,h=>by cases h
 | _,_,0,_,.cons ⟨t,a,b⟩ _,h=>by
  cases h
  exact⟨t,_,a,rfl,b⟩
 | _,_,i+1,_,.cons _ r,h=>by
  rw[List.getElem?_cons_succ] at h
  obtain⟨t,x,a,b,c⟩:=Bx r h
  exact⟨t,x,a,by rw[List.getElem?_cons_succ]; exact b,c⟩
section
variable {P:Program} {w:World} {K:PySem.W.Frag} {mg:Str→Option Value} {base:Heap} {f:Addr} {fd:FuncData}
theorem zX (F:Fun K "_law_taken" "_law_taken" aI f fd) (M:Mg mg):FnOk P w K mg base CX0 1 f fd ["_law_route","_law_many"] (zh K):=by
 refine F.ok cI (fun vs H Q E h=>?_) (fun cdv A outer s H vs Q E hr h=>?_)
 ·obtain⟨r,us,xs,m,rfl,_⟩:=h
  rfl
 obtain⟨r,us,xs,m,rfl,hr',hx,l200,q⟩:=h
 refine⟨_,(@ff _ _ _ _ _ (@gI _ _ 2 _ _ _ _ cI.nd rfl n8 (@rC _ _ _ _ (@dB _)) (gG rfl) (.inl rfl)) (@ff _ _ _ _ _ (@rB _ _ _ _ _ _ _ _ PassesOwn.never rfl (@m8 _ _ _ _ (@cg _ 0 _ _ rfl nZ fP fQ)) (@ve _ _ _ _ _ _ rfl (@ia _ _ _ _ _ (@fT _ _ 3 _ cI.nd rfl og (.inl rfl)) (@ia _ _ _ _ _ (@fT _ _ 4 _ cI.nd rfl oh (.inl rfl)) (@pB _) (by rfl)) (by rfl)) (by rfl) (by rfl)) (@ff _ _ _ _ _ (@gI _ _ 5 _ _ _ _ cI.nd rfl oj (@fZ _ _ _ _ _ _ _ _ _ (D6 rfl) lJ M.m_min FI (@cT _ _ _ _ _ (@cg _ 4 _ _ rfl fR eW eX) (@cT _ _ _ _ _ (@cg _ 1 _ _ rfl jq aP aQ) (@dB _) (di rfl)) (di rfl)) o8 o7 (di rfl) (gw rfl fD)) (gG rfl) (.inl rfl)) (@ff _ _ _ _ _ (@gI _ _ 1 _ _ _ _ cI.nd rfl n5 (@gj _ _ _ _ _ _ _ _ (@yh _) (@cg _ 1 _ _ rfl jq aP aQ) (@cg _ 5 _ _ rfl fU gW gX)) (gG rfl) (.inl rfl)) (@fL _ _ _ (@nS _ _ _ _ _ _ _ _ (@jj _ _ _ _ _ _ _ _ (@u0 _) (@cg _ 4 _ _ rfl fR eW eX) (@cg _ 5 _ _ rfl fU gW gX) (iG _)) (@fL _ _ _ (@tM _ _ _ _ (@uS _ _ _ _ _ _ _ _ _ _ _ _ PySem.F.plainAttrs_list PySem.F.slot_list_append PySem.F.type_list_append pD (@cg _ 2 _ _ rfl jr j7 j8) (@cT _ _ _ _ _ (@qt _ _ _ _ _ (@cT _ _ _ _ _ (@cg _ 3 _ _ rfl n9 cZ db) (@cT _ _ _ _ _ (@gj _ _ _ _ _ _ _ _ (@yh _) (@cg _ 4 _ _ rfl fR eW eX) (@cg _ 5 _ _ rfl fU gW gX)) (@dB _) (di rfl)) (di rfl))) (@dB _) (di rfl)) (by rfl) (by rfl) (by rfl) (by rfl) (by rfl)) (gG rfl))) (@kN _))))) (by intro _; rfl)) (@fL _ _ _ (@ic _ _ _ _ (@cg _ 2 _ _ rfl jr j7 j8))))),?_⟩
 have lux:=hx.len
 trivial
 refine⟨by decide,fun D hD=>?_⟩
 refine⟨⟨_,(fS hD _).seq hr'⟩,?_⟩
 obtain⟨Pv,hP⟩:∃ Pv:Nat→St→Hp→Prop,Pv=fun i σ H'=>∃ (us':List V) (xs':List (Nat×Int)) (n:Int) (z1 z2 z3:Option V),H' D=some (.lst us')∧RtAt K H' us' xs'∧(xs'.map Prod.fst).Sublist ((xs.take i).map Prod.fst)∧Same H H'∧σ=[some (.ref r),some (.int n),some (.ref D),z1,z2,z3]:=⟨_,rfl⟩
 refine uH us Pv ?_ (fun i σ H' _ h=>by rw[hP] at h; obtain⟨_,_,_,_,_,_,_,_,_,e,_⟩:=h; exact e.seq hr') ?_ ?_
 ·rw[hP]
  exact⟨[],[],_,_,_,_,er,.nil,List.nil_sublist _,fS hD _,rfl⟩
 ·intro i v σ H1 hv h
  rw[hP] at h
  obtain⟨us',xs',n,z1,z2,z3,d1,rx,sb,e1,rfl⟩:=h
  obtain⟨t,x,rfl,hx',ht⟩:=Bx hx hv
  have li:=(List.getElem?_eq_some_iff.mp hv).1
  have lx':xs'.length≤i:=by
   have:=sb.length_le
   rw[List.length_map,List.length_map,List.length_take] at this
   omega
  have lu':=rx.len
  have ht':=Same.tup e1 ht
  have et:(xs.take (i+1)).map Prod.fst=(xs.take i).map Prod.fst++[x.1]:=by
   rw[List.take_add_one,hx',List.map_append]
   rfl
  trivial
  refine⟨_,ht',rfl,?_⟩
  trivial
  obtain⟨ls,hls⟩:∃ ls,ls=(if n<x.2 then n else x.2):=⟨_,rfl⟩
  rw[← hls]
  by_cases hz:ls<x.2
  ·rw[if_pos hz]
   refine⟨.inl ⟨rfl,_,SqL.of d1⟩,by decide,fun t2 ht2=>?_⟩
   obtain⟨H2,g2,S2,T2⟩:=ji (K:=K) ht2 [.int (x.1:Int),.int (x.2-ls)]
   rw[← g2]
   clear g2
   have d2:=S2 _ _ d1
   refine⟨_,d2,Nat.lt_of_lt_of_le (m:=1000) (by omega) (by decide),?_⟩
   rw[hP]
   refine⟨us'++[.ref t2],xs'++[(x.1,x.2-ls)],_,_,_,_,er,RtAt.upd d2 (fun ys z=>by cases z) (fun _ _ z=>by cases z) (RtAt.snoc T2 (rx.same S2)),?_,gu (e1.trans S2) hD _,rfl⟩
   rw[et,List.map_append]
   exact sb.append (List.Sublist.refl _)
  ·rw[if_neg hz,hP]
   refine⟨us',xs',_,_,_,_,d1,rx,?_,e1,rfl⟩
   rw[et]
   exact sb.trans (List.sublist_append_left _ _)
 ·intro σ H1 h
  rw[hP] at h
  obtain⟨us',xs',n,z1,z2,z3,d1,rx,sb,e1,rfl⟩:=h
  rw[lux,List.take_length] at sb
  trivial
  exact q D us' xs' H1 e1 hD d1 rx sb
theorem Ax (F:Fun K "_law_added" "_law_added" bA f fd) (M:Mg mg) (m_dict:mg "dict"=none):FnOk P w K mg base CX0 1 f fd ["_law_route","_law_place","_law_many"] (yZ K fun _=>true):=by
 refine F.ok j9 (fun vs H Q E h=>?_) (fun cdv A outer s H vs Q E hr h=>?_)
 ·obtain⟨r,us,xs,p,m,rfl,_⟩:=h
  rfl
 obtain⟨r,us,xs,p,m,rfl,hr',hx,l300,nd,q⟩:=h
 refine⟨_,(@ff _ _ _ _ _ (@gI _ _ 3 _ _ _ _ j9.nd rfl ou (@nt _ _ _ _ _ _ _ _ _ (yq rfl) kX m_dict C1 (@cT _ _ _ _ _ (@cg _ 0 _ _ rfl oo fP fQ) (@dB _) (di rfl)) lY lX (di rfl) fD) (gG rfl) (.inl rfl)) (@ff _ _ _ _ _ (@BI _ _ _ _ _ _ _ _ _ (u6 hr) (@cg _ 3 _ _ rfl fV gY gZ) (@cg _ 1 _ _ rfl js cZ db) (@gj _ _ _ _ _ _ _ _ (@ni _) (@Ek _ _ _ _ _ _ _ _ _ (u6 hr) (@cg _ 3 _ _ rfl fV gY gZ) (@cg _ 1 _ _ rfl js cZ db) (@dR _ _ _ _) ⟨rfl,rfl,rfl,rfl⟩) (@cg _ 2 _ _ rfl oq aP aQ)) (gG rfl)) (@fL _ _ _ (@ic _ _ _ _ (@lB _ _ _ _ _ _ _ _ _ _ _ _ _ _ _ rfl (CompOk.make (N':=["_law_sums","_law_k"]) (ix:=[3]) (nl:=1) (by rfl) (fm1 rfl fm0) (by rfl) (by decide +kernel) rfl (by decide +kernel) rfl (And.intro ⟨rfl,.inl rfl,.inl rfl⟩ True.intro)) (@xO _ _ _ _ (@cg _ 3 _ _ rfl fV gY gZ)) (fun _ _ _ _ _=>(@fT _ _ 1 _ (show List.Nodup (["_law_sums","_law_k"]:List Str) from by decide) rfl (Or.inl rfl) (by first | exact .inl rfl | exact .inr rfl | assumption))) (fun _ _ _ _ _=>(@mH _)) (fun _ _ _ _ _=>(@qt _ _ _ _ _ (@cT _ _ _ _ _ (@pv _ 1 _ _ (by rfl) (by decreasing_trivial) (by decide) (by decide)) (@cT _ _ _ _ _ (@yM _ _ _ _ _ _ (u6 hr) (@pv _ 0 _ _ (by rfl) (by decreasing_trivial) (by decide) (by decide)) (@pv _ 1 _ _ (by rfl) (by decreasing_trivial) (by decide) (by decide)) (fun _ _=>rfl)) (@dB _) (di rfl)) (di rfl)))) (by intro _; rfl)))))),?_⟩
 obtain⟨ps,eu,lp,hps⟩:=B4 hx
 rw[eu] at hr'
 trivial
 refine⟨ps,hr',xs.map encK,by rw[List.length_map,lp],hps,fun d hd=>?_⟩
 rw[Av (G1 nd)]
 obtain⟨b0,hb0⟩:∃ b0,b0=((xs.find? fun x=>decide (x.1=p)).map fun x=>x.2).getD 0:=⟨_,rfl⟩
 have hv0:(valV (xs.map encK) (.inl (p:Int))).getD (V.int 0)=V.int b0:=by
  rw[BR,hb0]
  cases xs.find? fun x=>decide (x.1=p) <;> rfl
 have ekv:putK (xs.map encK) (.inl (p:Int)) (.int (b0+m))=(vM xs p m).map encK:=by
  rw[GF,← Gh nd,hb0]
  rfl
 obtain⟨ys,hys⟩:∃ ys,ys=vM xs p m:=⟨_,rfl⟩
 have ndy:(ys.map Prod.fst).Nodup:=by rw[hys]; exact yF nd
 have lys:ys.length≤301:=by rw[hys]; exact Nat.le_trans yb (by omega)
 refine⟨.inl ⟨_,.inl er⟩,_,DGet.k (k:=.inl (p:Int)) er,b0,hv0,_,DPut.k (k:=.inl (p:Int)) er (by rw[List.length_map]; exact Nat.lt_of_le_of_lt l300 (by decide)),_,.inl er,fun o H2 h2 hk D hD=>?_⟩
 rw[ekv,← hys] at h2 ⊢
 have e2:Same H H2:=fun b u hb=>by
  have bd:b≠d:=fun z=>by rw[z,hd] at hb; cases hb
  rw[hk b bd,fj bd,fj bd]
  exact hb
 have Dd:D≠d:=fun z=>by rw[z,h2] at hD; cases hD
 obtain⟨Pc,hC⟩:∃ Pc:Nat→St→Hp→Prop,Pc=fun i τ H'=>∃ (us':List V) (z:Option V),H' D=some (.lst us')∧RtAt K H' us' ((ys.take i).filter (fun _=>true))∧Same H2 H'∧τ=[some (.ref d),z]:=⟨_,rfl⟩
 refine xM (ys.map encK) Pc ?_ (fun i τ H6 _ h=>by rw[hC] at h; obtain⟨_,_,_,_,e6,_⟩:=h; exact e6 _ _ h2) ?_ ?_
 ·rw[hC]
  exact⟨[],_,er,.nil,fS hD _,rfl⟩
 ·intro i k v τ H6 R' hk' h next
  rw[hC] at h
  obtain⟨us',z,d6,r6,e6,rfl⟩:=h
  rw[List.getElem?_map] at hk'
  obtain⟨x,hx',ex⟩:=Option.map_eq_some_iff.mp hk'
  obtain⟨rfl,rfl⟩:k=.inl (x.1:Int)∧v=.int x.2:=by cases ex; exact⟨rfl,rfl⟩
  have li:=(List.getElem?_eq_some_iff.mp hx').1
  have lf:us'.length≤301:=by
   rw[r6.len]
   refine Nat.le_trans (List.length_filter_le ..) ?_
   rw[List.length_take]
   omega
  have dg:DGet H6 d (V.int (x.1:Int)) (some (V.int x.2)):=.inl ⟨ys.map encK,.inl (x.1:Int),.inr ⟨o,e6 _ _ h2⟩,rfl,by rw[BR,BL ndy (List.mem_of_getElem? hx') rfl]; rfl⟩
  have ep:(ys.take (i+1)).filter (fun _=>true)=(ys.take i).filter (fun _=>true)++[x].filter (fun _=>true):=by
   rw[List.take_add_one,hx',List.filter_append]
   rfl
  show uo D (we 1) _ _ (V.int (x.1:Int)) _ _ _
  trivial
  refine⟨_,dg,by decide,fun t ht=>?_⟩
  obtain⟨H7,g7,S7,T7⟩:=ji (K:=K) ht [.int (x.1:Int),.int x.2]
  rw[← g7]
  clear g7
  have d7:=S7 _ _ d6
  refine⟨_,d7,Nat.lt_of_lt_of_le (m:=1000) (by omega) (by decide),next _ _ ?_⟩
  rw[hC]
  refine⟨us'++[.ref t],_,er,?_,gu (e6.trans S7) hD _,rfl⟩
  rw[ep]
  exact RtAt.upd d7 (fun ys z=>by cases z) (fun _ _ z=>by cases z) (RtAt.snoc T7 (r6.same S7))
 ·intro τ H6 h
  rw[hC] at h
  obtain⟨us',z,d6,r6,e6,rfl⟩:=h
  rw[List.length_map,List.take_length,hys] at r6
  exact q D us' H6 (e2.trans e6) (none_of e2 hD) d6 r6
end
end MyY
namespace MyZ
open My MyB MyC MyD MyE MyF MyG MyS MyI MyJ MyK MyT MyU MyV MyW MyX MyY PySem L2
def top (i:Nat):Stmt:=PySem.Challenge.pw_tariffgate_k67_whole_no_other.main.body.getD i (.Pass ⟨0,0,0,0⟩)
theorem ax:(("_law_granted":Str) == ("__debug__":Str))=false:=by decide
theorem ay:(("_law_granted":Str) == ("__classdict__":Str))=false:=by decide
theorem aS:(("_law_routes":Str) == ("__debug__":Str))=false:=by decide
theorem aT:(("_law_routes":Str) == ("__classdict__":Str))=false:=by decide
theorem eD:(("_law_told":Str) == ("__debug__":Str))=false:=by decide
theorem eE:(("_law_told":Str) == ("__classdict__":Str))=false:=by decide
theorem jb:(("lets_by":Str) == ("__debug__":Str))=false:=by decide
theorem dk:(("_law_copy":Str) == ("__debug__":Str))=false:=by decide
theorem iu:(("_law_own":Str) == ("__debug__":Str))=false:=by decide
theorem iy:(("_law_own":Str) == ("__classdict__":Str))=false:=by decide
theorem cJ:(("_law_back":Str) == ("__debug__":Str))=false:=by decide
theorem cK:(("_law_back":Str) == ("__classdict__":Str))=false:=by decide
theorem fW:(("_law_every":Str) == ("__debug__":Str))=false:=by decide
theorem fX:(("_law_every":Str) == ("__classdict__":Str))=false:=by decide
theorem qu:(("_law_some":Str) == ("__debug__":Str))=false:=by decide
theorem qv:(("_law_some":Str) == ("__classdict__":Str))=false:=by decide
theorem bi:(("_law_at":Str) == ("__debug__":Str))=false:=by decide
theorem bn:(("_law_at":Str) == ("__classdict__":Str))=false:=by decide
theorem cX:(("_law_to":Str) == ("__debug__":Str))=false:=by decide
theorem cY:(("_law_to":Str) == ("__classdict__":Str))=false:=by decide
theorem iA:(("_law_way":Str) == ("__debug__":Str))=false:=by decide
theorem iB:(("_law_way":Str) == ("__classdict__":Str))=false:=by decide
theorem jt:(("_law_added":Str) == ("__debug__":Str))=false:=by decide
theorem oz:(("_law_taken":Str) == ("__debug__":Str))=false:=by decide
theorem uc:(("max":Str) == ("__debug__":Str))=false:=by decide
theorem ud:("max":Str)≠"__name__":=by decide
abbrev aG:Stmt:=top 33
theorem iT:FnScope ["_law_rooms_here","_law_line_here","_law_granted","_law_routes","_law_cuts_here","_law_told"] ["_law_rooms_here","_law_line_here","_law_granted","_law_routes","_law_cuts_here"] (defScope aG):=⟨rfl,rfl,rfl,by decide +kernel,rfl,by decide +kernel,by decide +kernel⟩
theorem lM:Vis (defScope aG) "_law_rooms_here":=by decreasing_trivial
theorem lN:Vis (defScope aG) "_law_line_here":=by decreasing_trivial
theorem lO:Vis (defScope aG) "_law_granted":=by decreasing_trivial
theorem lP:Vis (defScope aG) "_law_routes":=by decreasing_trivial
theorem lQ:Vis (defScope aG) "_law_cuts_here":=by decreasing_trivial
theorem lS:Vis (defScope aG) "_law_told":=by decreasing_trivial
theorem lT:Loc (defScope aG) "_law_told":=by first | exact Or.inl rfl | exact Or.inr rfl
theorem iU:(defScope aG).names.lookup ("lets_by":Str)=some .globalImplicit:=by rfl
theorem ka:(defScope aG).names.lookup ("list":Str)=some .globalImplicit:=by rfl
theorem hJ:(defScope aG).names.lookup ("_law_copy":Str)=some .globalImplicit:=by rfl
abbrev aH:Stmt:=top 32
theorem fq:FnScope ["_law_line_here","_law_told","_law_own","_law_back","_law_every","_law_cell_here","_law_cuts_here","_law_k","_law_some"] ["_law_line_here","_law_told","_law_own","_law_back","_law_every","_law_cell_here"] (defScope aH):=⟨rfl,rfl,rfl,by decide +kernel,rfl,by decide +kernel,by decide +kernel⟩
theorem kc:Vis (defScope aH) "_law_line_here":=by decreasing_trivial
theorem qw:Vis (defScope aH) "_law_told":=by decreasing_trivial
theorem qx:Vis (defScope aH) "_law_own":=by decreasing_trivial
theorem qy:Vis (defScope aH) "_law_back":=by decreasing_trivial
theorem qz:Vis (defScope aH) "_law_every":=by decreasing_trivial
theorem kg:Vis (defScope aH) "_law_cell_here":=by decreasing_trivial
theorem kh:Vis (defScope aH) "_law_cuts_here":=by decreasing_trivial
theorem qA:Loc (defScope aH) "_law_cuts_here":=by first | exact Or.inl rfl | exact Or.inr rfl
theorem dl:Vis (defScope aH) "_law_k":=by decreasing_trivial
theorem qB:Loc (defScope aH) "_law_k":=by first | exact Or.inl rfl | exact Or.inr rfl
theorem qC:Vis (defScope aH) "_law_some":=by decreasing_trivial
theorem qD:Loc (defScope aH) "_law_some":=by first | exact Or.inl rfl | exact Or.inr rfl
theorem kY:(defScope aH).names.lookup ("range":Str)=some .globalImplicit:=by rfl
theorem mV:(defScope aH).names.lookup ("len":Str)=some .globalImplicit:=by rfl
theorem ie:(defScope aH).names.lookup ("list":Str)=some .globalImplicit:=by rfl
abbrev af:Stmt:=top 31
theorem cx:FnScope ["_law_line_here","_law_found","_law_cell_here","_law_granted","_law_routes","_law_at","_law_to","_law_way","_law_many"] ["_law_line_here","_law_found","_law_cell_here"] (defScope af):=⟨rfl,rfl,rfl,by decide +kernel,rfl,by decide +kernel,by decide +kernel⟩
theorem bR:Vis (defScope af) "_law_line_here":=by decreasing_trivial
theorem ju:Vis (defScope af) "_law_found":=by decreasing_trivial
theorem cC:Vis (defScope af) "_law_cell_here":=by decreasing_trivial
theorem bJ:Vis (defScope af) "_law_granted":=by decreasing_trivial
theorem oA:Loc (defScope af) "_law_granted":=by first | exact Or.inl rfl | exact Or.inr rfl
theorem ce:Vis (defScope af) "_law_routes":=by decreasing_trivial
theorem oB:Loc (defScope af) "_law_routes":=by first | exact Or.inl rfl | exact Or.inr rfl
theorem aK:Vis (defScope af) "_law_at":=by decreasing_trivial
theorem oC:Loc (defScope af) "_law_at":=by first | exact Or.inl rfl | exact Or.inr rfl
theorem cf:Vis (defScope af) "_law_to":=by decreasing_trivial
theorem oE:Loc (defScope af) "_law_to":=by first | exact Or.inl rfl | exact Or.inr rfl
theorem fY:Vis (defScope af) "_law_way":=by decreasing_trivial
theorem oF:Loc (defScope af) "_law_way":=by first | exact Or.inl rfl | exact Or.inr rfl
theorem de:Vis (defScope af) "_law_many":=by decreasing_trivial
theorem oG:Loc (defScope af) "_law_many":=by first | exact Or.inl rfl | exact Or.inr rfl
theorem kZ:(defScope af).names.lookup ("list":Str)=some .globalImplicit:=by rfl
theorem bZ:(defScope af).names.lookup ("len":Str)=some .globalImplicit:=by rfl
theorem lU:(defScope af).names.lookup ("max":Str)=some .globalImplicit:=by rfl
theorem dH:(defScope af).names.lookup ("_law_added":Str)=some .globalImplicit:=by rfl
theorem iC:(defScope af).names.lookup ("_law_taken":Str)=some .globalImplicit:=by rfl
def CuV (K:PySem.W.Frag) (H:Hp) (v:V):Prop:=v=.non∨∃ (c:Addr) (ns:List Int),v=.ref c∧SqL K H c (ns.map V.int)∧ns.length≤64
theorem CuV.same {K:PySem.W.Frag} {H H':Hp} {v:V} (h:CuV K H v) (e:Same H H'):CuV K H' v:=by
 rcases h with h | ⟨c,ns,h1,h2,h3⟩
 ·exact .inl h
 ·exact .inr ⟨c,ns,h1,e.seq h2,h3⟩
theorem BD {K:PySem.W.Frag} {H:Hp}:∀ ns:List Int,RpAll K H (ns.map V.int) (ns.map Dt.int)
 | []=>.nil
 | n::ns=>.cons (.int n) (BD ns)
theorem yf {K:PySem.W.Frag} {H:Hp} {c:Addr} {ns:List Int} (h:SqL K H c (ns.map V.int)) (l:ns.length≤500):Rp K H (.ref c) (.lst (ns.map Dt.int)):=.lst h (BD ns) (by rw[List.length_map]; exact l)
theorem CuV.rp {K:PySem.W.Frag} {H:Hp} {v:V} (h:CuV K H v):∃ d,Rp K H v d:=by
 rcases h with rfl | ⟨c,ns,rfl,h2,h3⟩
 ·exact⟨_,.non⟩
 ·exact⟨_,yf h2 (by omega)⟩
theorem Ae {K:PySem.W.Frag} {H:Hp}:∀ {vs:List V},(∀ v∈vs,∃ d,Rp K H v d)→∃ ds,RpAll K H vs ds
 | [],_=>⟨[],.nil⟩
 | v::vs,h=>by
  obtain⟨d,hd⟩:=h v List.mem_cons_self
  obtain⟨ds,hds⟩:=Ae fun x hx=>h x (List.mem_cons_of_mem _ hx)
  exact⟨d::ds,.cons hd hds⟩
theorem FQ {K:PySem.W.Frag} {H:Hp} {us:List V} {xs:List (Nat×Int)} (h:RtAt K H us xs):RpAll K H us (xs.map fun x=>Dt.tup [.int (x.1:Int),.int x.2]):=by
 induction h with
 | nil=>exact .nil
 | cons hh _ ih =>
  obtain⟨t,e,h1⟩:=hh
  subst e
  exact .cons (.tup h1 (.cons (.int _) (.cons (.int _) .nil))) ih
def RtV (K:PySem.W.Frag) (H:Hp) (B:Nat) (ok:Addr→Prop) (v:V):Prop:=∃ (r:Addr) (us:List V) (xs:List (Nat×Int)),v=.ref r∧H r=some (.lst us)∧RtAt K H us xs∧xs.length≤B∧(xs.map Prod.fst).Nodup∧ok r
theorem RtV.same {K:PySem.W.Frag} {H H':Hp} {B:Nat} {ok:Addr→Prop} {v:V} (h:RtV K H B ok v) (e:Same H H'):RtV K H' B ok v:=by
 obtain⟨r,us,xs,h1,h2,h3,h4⟩:=h
 exact⟨r,us,xs,h1,e _ _ h2,h3.same e,h4⟩
theorem RtV.upd {K:PySem.W.Frag} {H:Hp} {B:Nat} {ok:Addr→Prop} {v:V} {D:Addr} {ys zs:List V} (h:RtV K H B ok v) (hD:H D=some (.lst ys)) (n:∀ r,ok r→r≠D):RtV K (L2.upd H D (.lst zs)) B ok v:=by
 obtain⟨r,us,xs,h1,h2,h3,h4,h5,h6⟩:=h
 exact⟨r,us,xs,h1,by rw[fj (n r h6)]; exact h2,RtAt.upd hD (fun ys z=>by cases z) (fun _ _ z=>by cases z) h3,h4,h5,h6⟩
theorem RtV.up {K:PySem.W.Frag} {H:Hp} {B B':Nat} {ok:Addr→Prop} {v:V} (h:RtV K H B ok v) (hb:B≤B'):RtV K H B' ok v:=by
 obtain⟨r,us,xs,h1,h2,h3,h4,h5⟩:=h
 exact⟨r,us,xs,h1,h2,h3,Nat.le_trans h4 hb,h5⟩
theorem RtV.rp {K:PySem.W.Frag} {H:Hp} {B:Nat} {ok:Addr→Prop} {v:V} (h:RtV K H B ok v) (hb:B≤500):∃ d,Rp K H v d:=by
 obtain⟨r,us,xs,rfl,h2,h3,h4,_⟩:=h
 exact⟨_,.lst (SqL.of h2) (FQ h3) (by rw[List.length_map]; omega)⟩
theorem wW {α β:Type} {R:α→β→Prop}:∀ {xs:List α} {ys:List β} {x:α},Paired R xs ys→x∈xs→∃ y,y∈ys∧R x y
 | _,_,_,.nil,h=>by cases h
 | _,_,_,.cons r t,h=>by
  rcases List.mem_cons.mp h with h | h
  ·subst h
   exact⟨_,List.mem_cons_self,r⟩
  ·obtain⟨y,a,b⟩:=wW t h
   exact⟨y,List.mem_cons_of_mem _ a,b⟩
theorem Cm (row:List Int):((rt row).map Prod.fst).Nodup:=by
 unfold rt
 rw[List.map_map,List.Nodup,List.pairwise_map]
 exact List.Pairwise.filter _ (List.Pairwise.imp (fun {a b} h=>show a≠b by omega) List.pairwise_lt_range)
theorem zV {m:Nat} {row:List Int} (h:row.length=m):(rt row).length≤m:=by
 unfold rt
 rw[List.length_map]
 refine Nat.le_trans (List.length_filter_le ..) ?_
 rw[List.length_range,h]
 exact Nat.le_refl _
def zd (K:PySem.W.Frag):Sp:=fun vs H Q _=>∃ (l t ga ra ca:Addr) (c:Int) (m:Nat) (L:List En) (F:List (List Int)) (ras:List Addr) (cs:List V),vs=[.ref l,.ref t,.int c]∧LnAt K H l L∧LnOk m L∧0<L.length∧Fnd K H t ga ra ca F ras cs∧Rows L.length m F ∧
 ∀ (t' g' r':Addr) (G':List Int) (rv:List V) (H':Hp),Same H H'→SqT K H' t' [.ref g',.ref r']→H' g'=some (.lst (G'.map V.int))→G'.length≤64→H' r'=some (.lst rv)→rv.length≤64→(∀ v∈rv,RtV K H' 100 (fun r=>H r=none) v)→H g'=none→H r'=none→Q (.ref t') H'
def yJ (K:PySem.W.Frag):Sp:=fun vs H Q _=>∃ (l a b c ev:Addr) (m:Nat) (x:Int) (L:List En) (av bv cv:List V) (en:List Int),vs=[.ref l,.ref a,.ref b,.ref c,.ref ev,.int x]∧LnAt K H l L∧LnOk m L∧SqL K H a av∧SqL K H b bv∧SqL K H c cv∧SqL K H ev (en.map V.int)∧en.length≤6∧av.length=L.length∧bv.length=L.length∧cv.length=L.length∧(∀ v∈av,CuV K H v)∧(∀ v∈bv,CuV K H v)∧(∀ v∈cv,CuV K H v)∧∀ (r:Addr) (vs':List V) (H':Hp),Same H H'→H' r=some (.lst vs')→vs'.length=L.length→(∀ v∈vs',CuV K H' v)→Q (.ref r) H'
def x9 (K:PySem.W.Frag):Sp:=fun vs H Q _=>∃ (rm l:Addr) (vg vr vc:V) (rooms:List Int) (L:List En) (dg dr dc:Dt),vs=[.ref rm,.ref l,vg,vr,vc]∧SqL K H rm (rooms.map V.int)∧LnAt K H l L∧LnOk rooms.length L∧Rp K H vg dg∧Rp K H vr dr∧Rp K H vc dc∧∀ H',Same H H'→Q (.bl (!t8 rooms L dg dr dc)) H'
theorem Iw {s1 s2 s3 s4 s5 s6 tl:TS} {D:Ends} {σ:St} {H:Hp} (h:∀ tl',tl'=tl→lK s1 (lK s2 (lK s3 (lK s4 (lK s5 (lK s6 tl'))))) D σ H):lK s1 (lK s2 (lK s3 (lK s4 (lK s5 (lK s6 tl))))) D σ H:=h tl rfl
theorem Iq {s1 tl:TS} {D:Ends} {σ:St} {H:Hp} (h:∀ tl',tl'=tl→lK s1 tl' D σ H):lK s1 tl D σ H:=h tl rfl
section
variable {P:Program} {w:World} {K:PySem.W.Frag} {mg:Str→Option Value} {base:Heap} {f:Addr} {fd:FuncData}
theorem yN (F:Fun K "_law_not_let" "_law_not_let" aG f fd) (M:Mg mg) (dQ:Cal P w K mg base CX0 "lets_by" 5 ["rooms","line","granted","routes","cuts"] (wJ K)) (cE:Cal P w K mg base CX0 "_law_copy" 1 ["_law_line_here"] (wL K)):FnOk P w K mg base CX0 6 f fd ["_law_rooms_here","_law_line_here","_law_granted","_law_routes","_law_cuts_here"] (x9 K):=by
 refine F.ok iT (fun vs H Q E h=>?_) (fun cdv A outer s H vs Q E hr h=>?_)
 ·obtain⟨rm,l,vg,vr,vc,rooms,L,dg,dr,dc,rfl,_⟩:=h
  rfl
 obtain⟨rm,l,vg,vr,vc,rooms,L,dg,dr,dc,rfl,hrm,hL,lok,hg,hr',hc,q⟩:=h
 refine⟨_,(@ff _ _ _ _ _ (@gI _ _ 5 _ _ _ _ iT.nd rfl lT (@gv _ _ _ _ _ _ _ _ _ _ _ dQ hr iU (@cT _ _ _ _ _ (@nt _ _ _ _ _ _ _ _ _ pZ ka M.m_list r8 (@cT _ _ _ _ _ (@cg _ 0 _ _ rfl lM aj ak) (@dB _) (di rfl)) bq bo (di rfl) fD) (@cT _ _ _ _ _ (@gv _ _ _ _ _ _ _ _ _ _ _ cE hr hJ (@cT _ _ _ _ _ (@cg _ 1 _ _ rfl lN aa ae) (@dB _) (di rfl)) (by decide) dk (di rfl) fD) (@cT _ _ _ _ _ (@cg _ 2 _ _ rfl lO ax ay) (@cT _ _ _ _ _ (@cg _ 3 _ _ rfl lP aS aT) (@cT _ _ _ _ _ (@cg _ 4 _ _ rfl lQ aX aY) (@dB _) (di rfl)) (di rfl)) (di rfl)) (di rfl)) (di rfl)) (by decide) jb (di rfl) (gw rfl (gw rfl (gw rfl (gw rfl fD))))) (gG rfl) (.inl rfl)) (@fL _ _ _ (@ic _ _ _ _ (@qp _ _ _ _ _ _ _ _ (@DG _) (@cg _ 5 _ _ rfl lS eD eE) (@uv _ _ _ _) (iG _))))),?_⟩
 trivial
 refine⟨_,hrm,fun r2 hr2=>?_⟩
 obtain⟨H1,g1,S1,T1⟩:=zB (K:=K) hr2 (rooms.map V.int)
 rw[← g1]
 clear g1
 refine⟨l,L,rfl,hL.same S1,lok.l,fun l2 H2 S2 hl2 hL2=>?_⟩
 have e2:=S1.trans S2
 refine⟨r2,l2,vg,vr,vc,rooms,L,dg,dr,dc,rfl,S2.seq T1,hL2.at,lok,hg.same e2,hr'.same e2,hc.same e2,fun H3 e3=>?_⟩
 refine⟨_,rfl,?_⟩
 rw[show (t8 rooms L dg dr dc == false) = !t8 rooms L dg dr dc by cases t8 rooms L dg dr dc <;> rfl]
 exact q _ (e2.trans e3)
theorem AW (F:Fun K "_law_cuts" "_law_cuts" aH f fd) (M:Mg mg):FnOk P w K mg base CX0 1 f fd ["_law_line_here","_law_told","_law_own","_law_back","_law_every","_law_cell_here"] (yJ K):=by
 refine F.ok fq (fun vs H Q E h=>?_) (fun cdv A outer s H vs Q E hr h=>?_)
 ·obtain⟨l,a,b,c,ev,m,x,L,av,bv,cv,en,rfl,_⟩:=h
  rfl
 obtain⟨l,a,b,c,ev,m,x,L,av,bv,cv,en,rfl,hL,lok,ha,hb,hc,he,le6,la,lb,lc,ca,cb,cc,q⟩:=h
 refine⟨_,(@ff _ _ _ _ _ (@gI _ _ 6 _ _ _ _ fq.nd rfl qA (@rC _ _ _ _ (@dB _)) (gG rfl) (.inl rfl)) (@ff _ _ _ _ _ (@rB _ _ _ _ _ _ _ _ PassesOwn.never rfl (@pA _ _ _ _ _ _ kY M.m_range (@cT _ _ _ _ _ (@fZ _ _ _ _ _ _ _ _ _ gJ mV M.m_len nj (@cT _ _ _ _ _ (@cg _ 0 _ _ rfl kc aa ae) (@dB _) (di rfl)) aF aE (di rfl) fD) (@dB _) (di rfl)) (star1' rfl)) (@fT _ _ 7 _ fq.nd rfl qB (.inl rfl)) (@ff _ _ _ _ _ (@gI _ _ 8 _ _ _ _ fq.nd rfl qD (@rC _ _ _ _ (@cT _ _ _ _ _ (@gf _ _ _ _ _ _ _ (@gK _) (@cg _ 1 _ _ rfl qw eD eE) (@cg _ 7 _ _ rfl dl aq au) (fun _ _=>rfl)) (@cT _ _ _ _ _ (@nt _ _ _ _ _ _ _ _ _ pZ ie M.m_list r8 (@cT _ _ _ _ _ (@gf _ _ _ _ _ _ _ (@jl _) (@gf _ _ _ _ _ _ _ (@gK _) (@cg _ 0 _ _ rfl kc aa ae) (@cg _ 7 _ _ rfl dl aq au) (fun _ _=>rfl)) (@dR _ _ _ _) (fun _ _=>rfl)) (@dB _) (di rfl)) bq bo (di rfl) fD) (@cT _ _ _ _ _ (@nt _ _ _ _ _ _ _ _ _ pZ ie M.m_list r8 (@cT _ _ _ _ _ (@cg _ 4 _ _ rfl qz fW fX) (@dB _) (di rfl)) bq bo (di rfl) fD) (@cT _ _ _ _ _ (@gf _ _ _ _ _ _ _ (@gK _) (@cg _ 2 _ _ rfl qx iu iy) (@cg _ 7 _ _ rfl dl aq au) (fun _ _=>rfl)) (@cT _ _ _ _ _ (@gf _ _ _ _ _ _ _ (@gK _) (@cg _ 3 _ _ rfl qy cJ cK) (@cg _ 7 _ _ rfl dl aq au) (fun _ _=>rfl)) (@cT _ _ _ _ _ (@rC _ _ _ _ (@dB _)) (@dB _) (di rfl)) (di rfl)) (di rfl)) (di rfl)) (di rfl)) (di rfl))) (gG rfl) (.inl rfl)) (@fL _ _ _ (@tM _ _ _ _ (@uS _ _ _ _ _ _ _ _ _ _ _ _ PySem.F.plainAttrs_list PySem.F.slot_list_append PySem.F.type_list_append pD (@cg _ 6 _ _ rfl kh aX aY) (@cT _ _ _ _ _ (@gf _ _ _ _ _ _ _ (@gK _) (@cg _ 8 _ _ rfl qC qu qv) (@gj _ _ _ _ _ _ _ _ (@nk _) (@gj _ _ _ _ _ _ _ _ (@ni _) (@cg _ 5 _ _ rfl kg az aA) (@gj _ _ _ _ _ _ _ _ (@vo _) (@cg _ 7 _ _ rfl dl aq au) (@gj _ _ _ _ _ _ _ _ (@nk _) (@gj _ _ _ _ _ _ _ _ (@rT _) (@cg _ 5 _ _ rfl kg az aA) (@dR _ _ _ _)) (@dR _ _ _ _)))) (@dR _ _ _ _)) (fun _ _=>rfl)) (@dB _) (di rfl)) (by rfl) (by rfl) (by rfl) (by rfl) (by rfl)) (gG rfl)))) (by intro _; rfl)) (@fL _ _ _ (@ic _ _ _ _ (@cg _ 6 _ _ rfl kh aX aY))))),?_⟩
 obtain⟨us,hus,hpa⟩:=id hL
 have lus:us.length=L.length:=Paired.length hpa
 have l64:=lok.l
 trivial
 refine⟨by decide,fun D hD=>?_⟩
 refine⟨us,.inl ((fS hD _).seq hus),by omega,by omega,?_⟩
 rw[lus,Int.toNat_natCast]
 obtain⟨Pv,hP⟩:∃ Pv:Nat→St→Hp→Prop,Pv=fun i σ H'=>∃ (vs':List V) (z1 z2:Option V),H' D=some (.lst vs')∧vs'.length=i∧(∀ v∈vs',CuV K H v∨∃ (c:Addr) (ns:List Int),v=.ref c∧H' c=some (.lst (ns.map V.int))∧ns.length≤64∧c≠D)∧Same H H'∧σ=[some (.ref l),some (.ref a),some (.ref b),some (.ref c),some (.ref ev),some (.int x),some (.ref D),z1,z2]:=⟨_,rfl⟩
 refine ua Pv ?_ ?_ ?_
 ·rw[hP]
  exact⟨[],_,_,er,rfl,(fun v hv=>by cases hv),fS hD _,rfl⟩
 ·intro i σ H1 hi h
  rw[hP] at h
  obtain⟨vs',z1,z2,d1,lv,cv',e1,rfl⟩:=h
  obtain⟨en',hen⟩:∃ en,L[i]?=some en:=⟨_,List.getElem?_eq_getElem hi⟩
  obtain⟨te,qe,b1,b2,b3⟩:=sH hpa hen
  have lat:atI us (0+(i:Int))=some (.ref te):=by
   rw[Int.zero_add]
   exact nM b1
  have pick:∀ {vs:List V},vs.length=L.length→∃ v,v∈vs∧atI vs (0+(i:Int))=some v:=fun {vs} lv=>by
   have hl:i<vs.length:=by omega
   refine⟨vs[i],List.getElem_mem hl,?_⟩
   rw[Int.zero_add]
   exact nM (List.getElem?_eq_getElem hl)
  obtain⟨v1,m1,a1⟩:=pick la
  obtain⟨v2,m2,a2⟩:=pick lb
  obtain⟨v3,m3,a3⟩:=pick lc
  have lp:=(lok.pl en' (List.mem_of_getElem? hen)).1
  trivial
  refine⟨_,e1.seq ha,_,a1,_,e1.seq hus,_,lat,te,rfl,_,Same.tup e1 b2,_,rfl,qe,rfl,?_⟩
  refine⟨_,e1.seq b3,fun p1 hp1=>?_⟩
  have nD:∀ {Hx:Hp} {p:Addr},Same H1 Hx→Hx p=none→p≠D:=fun e h z=>by
   rw[z,e _ _ d1] at h
   cases h
  obtain⟨H2,g2,S2,T2⟩:=nL hp1 (en'.1.map fun j:Nat=>V.int (j:Int))
  rw[← g2]
  clear g2
  refine⟨_,(e1.trans S2).seq he,fun p2 hp2=>?_⟩
  obtain⟨H3,g3,S3,T3⟩:=nL hp2 (en.map V.int)
  rw[← g3]
  clear g3
  have e3:=(e1.trans S2).trans S3
  refine⟨_,e3.seq hb,_,a2,_,e3.seq hc,_,a3,by decide,fun p3 hp3=>?_⟩
  obtain⟨H4,g4,S4,T4⟩:=nL hp3 []
  rw[← g4]
  clear g4
  refine⟨by decide,fun p4 hp4=>?_⟩
  obtain⟨H5,g5,S5,T5⟩:=nL hp4 [v1,V.ref p1,V.ref p2,v2,v3,V.ref p3]
  rw[← g5]
  clear g5
  have S15:=((S2.trans S3).trans S4).trans S5
  have d5:=S15 _ _ d1
  have x0:=Int.emod_nonneg (x+(0+(i:Int)) * (x / 6 % 6)) (show (6:Int)≠0 by decide)
  have x1:=Int.emod_lt_of_pos (x+(0+(i:Int)) * (x / 6 % 6)) (show (0:Int)<6 by decide)
  have y0:=Int.emod_nonneg (x / 6) (show (6:Int)≠0 by decide)
  have y1:=Int.emod_lt_of_pos (x / 6) (show (0:Int)<6 by decide)
  have newL:∀ {p:Addr} {ns:List Int},H5 p=some (.lst (ns.map V.int))→ns.length≤64→p≠D→(CuV K H (V.ref p)∨∃ (c:Addr) (ns:List Int),V.ref p=.ref c∧H5 c=some (.lst (ns.map V.int))∧ns.length≤64∧c≠D):=fun h l n=>.inr ⟨_,_,rfl,h,l,n⟩
  obtain⟨vv,hvv,ok⟩:∃ vv,atI [v1,V.ref p1,V.ref p2,v2,v3,V.ref p3] ((x+(0+(i:Int)) * (x / 6 % 6)) % 6)=some vv∧(CuV K H vv∨∃ (c:Addr) (ns:List Int),vv=.ref c∧H5 c=some (.lst (ns.map V.int))∧ns.length≤64∧c≠D):=by
   obtain⟨k,hk,k6⟩:∃ k:Nat,(x+(0+(i:Int)) * (x / 6 % 6)) % 6=(k:Int)∧k<6:=⟨((x+(0+(i:Int)) * (x / 6 % 6)) % 6).toNat,by omega,by omega⟩
   rw[hk]
   rcases k with _ | _ | _ | _ | _ | _ | k
   ·exact⟨_,rfl,.inl (ca _ m1)⟩
   ·refine⟨_,rfl,newL (ns:=en'.1.map fun j:Nat=>(j:Int)) ?_ (by rw[List.length_map]; exact lp) (nD (fun _ _ h=>h) hp1)⟩
    rw[List.map_map]
    exact ((S3.trans S4).trans S5) _ _ T2
   ·exact⟨_,rfl,newL ((S4.trans S5) _ _ T3) (by omega) (nD S2 hp2)⟩
   ·exact⟨_,rfl,.inl (cb _ m2)⟩
   ·exact⟨_,rfl,.inl (cc _ m3)⟩
   ·exact⟨_,rfl,newL (ns:=[]) (S5 _ _ T4) (by decide) (nD (S2.trans S3) hp3)⟩
   ·omega
  refine⟨.inl ⟨rfl,_,SqL.of d5⟩,cdiv (by decide) (by decide),by decide,ze (by omega) (by omega) (by omega) (by omega),by decide,_,SqL.of T5,vv,hvv,_,d5,Nat.lt_of_lt_of_le (m:=1000) (by omega) (by decide),?_⟩
  rw[hP]
  refine⟨vs'++[vv],_,_,er,by rw[List.length_append,lv]; rfl,fun v hv=>?_,gu (e1.trans S15) hD _,rfl⟩
  rcases List.mem_append.mp hv with hv | hv
  ·rcases cv' v hv with h | ⟨c,ns,h1,h2,h3,h4⟩
   ·exact .inl h
   ·exact .inr ⟨c,ns,h1,by rw[fj h4]; exact S15 _ _ h2,h3,h4⟩
  ·rw[List.mem_singleton.mp hv]
   rcases ok with h | ⟨c,ns,h1,h2,h3,h4⟩
   ·exact .inl h
   ·exact .inr ⟨c,ns,h1,by rw[fj h4]; exact h2,h3,h4⟩
 ·intro σ H1 h
  rw[hP] at h
  obtain⟨vs',z1,z2,d1,lv,cv',e1,rfl⟩:=h
  trivial
  refine q D vs' H1 e1 d1 lv fun v hv=>?_
  rcases cv' v hv with h | ⟨c,ns,h1,h2,h3,_⟩
  ·exact h.same e1
  ·exact .inr ⟨c,ns,h1,SqL.of h2,h3⟩
theorem AE (F:Fun K "_law_other" "_law_other" af f fd) (M:Mg mg) (iD:Cal P w K mg base CX0 "_law_taken" 1 ["_law_route","_law_many"] (zh K)) (ft:Cal P w K mg base CX0 "_law_added" 1 ["_law_route","_law_place","_law_many"] (yZ K fun _=>true)):FnOk P w K mg base CX0 2 f fd ["_law_line_here","_law_found","_law_cell_here"] (zd K):=by
 refine F.ok cx (fun vs H Q E h=>?_) (fun cdv A outer s H vs Q E hr h=>?_)
 ·obtain⟨l,t,ga,ra,ca,c,m,L,F,ras,cs,rfl,_⟩:=h
  rfl
 obtain⟨l,t,ga,ra,ca,c,m,L,Fl,ras,cs,rfl,hL,lok,l0,fnd,R,q⟩:=h
 refine⟨_,(@ff _ _ _ _ _ (@gI _ _ 3 _ _ _ _ cx.nd rfl oA (@nt _ _ _ _ _ _ _ _ _ pZ kZ M.m_list r8 (@cT _ _ _ _ _ (@gf _ _ _ _ _ _ _ (@jl _) (@cg _ 1 _ _ rfl ju aM aN) (@dR _ _ _ _) (fun _ _=>rfl)) (@dB _) (di rfl)) bq bo (di rfl) fD) (gG rfl) (.inl rfl)) (@ff _ _ _ _ _ (@uu _ _ _ _ _ _ _ _ _ _ _ _ _ _ _ 4 _ _ _ cx.nd rfl oB rfl (CompOk.make (N':=["_law_route"]) (ix:=[]) (nl:=1) (by rfl) fm0 (by rfl) (by decide +kernel) rfl (by decide +kernel) rfl True.intro) (@m8 _ _ _ _ (@gf _ _ _ _ _ _ _ (@jl _) (@cg _ 1 _ _ rfl ju aM aN) (@dR _ _ _ _) (fun _ _=>rfl))) (fun _ _ _ _ _=>(@fT _ _ 0 _ (show List.Nodup (["_law_route"]:List Str) from by decide) rfl (Or.inl rfl) (by first | exact .inl rfl | exact .inr rfl | assumption))) (fun _ _ _ _ _=>(@mH _)) (fun _ _ _ _ _=>(@nt _ _ _ _ _ _ _ _ _ (xF (K:=K) rfl) rfl M.m_list r8 (@cT _ _ _ _ _ (@pv _ 0 _ _ (by rfl) (by decreasing_trivial) (by decide) (by decide)) (@dB _) (di rfl)) bq bo (di rfl) fD)) (by rfl) (by intro _; rfl) (by first | exact .inl rfl | exact .inr rfl | assumption)) (@ff _ _ _ _ _ (@gI _ _ 5 _ _ _ _ cx.nd rfl oC (@gj _ _ _ _ _ _ _ _ (@nk _) (@cg _ 2 _ _ rfl cC az aA) (@fZ _ _ _ _ _ _ _ _ _ gJ bZ M.m_len nj (@cT _ _ _ _ _ (@cg _ 0 _ _ rfl bR aa ae) (@dB _) (di rfl)) aF aE (di rfl) fD)) (gG rfl) (.inl rfl)) (@ff _ _ _ _ _ (@gI _ _ 6 _ _ _ _ cx.nd rfl oE (@gj _ _ _ _ _ _ _ _ (@nk _) (@gj _ _ _ _ _ _ _ _ (@ni _) (@gj _ _ _ _ _ _ _ _ (@ni _) (@cg _ 5 _ _ rfl aK bi bn) (@dR _ _ _ _)) (@gj _ _ _ _ _ _ _ _ (@nk _) (@gj _ _ _ _ _ _ _ _ (@rT _) (@cg _ 2 _ _ rfl cC az aA) (@dR _ _ _ _)) (@dR _ _ _ _))) (@fZ _ _ _ _ _ _ _ _ _ gJ bZ M.m_len nj (@cT _ _ _ _ _ (@cg _ 0 _ _ rfl bR aa ae) (@dB _) (di rfl)) aF aE (di rfl) fD)) (gG rfl) (.inl rfl)) (@ff _ _ _ _ _ (@gI _ _ 7 _ _ _ _ cx.nd rfl oF (@gj _ _ _ _ _ _ _ _ (@nk _) (@gj _ _ _ _ _ _ _ _ (@rT _) (@cg _ 2 _ _ rfl cC az aA) (@dR _ _ _ _)) (@dR _ _ _ _)) (gG rfl) (.inl rfl)) (@ff _ _ _ _ _ (@gI _ _ 8 _ _ _ _ cx.nd rfl oG (@gj _ _ _ _ _ _ _ _ (@ni _) (@dR _ _ _ _) (@gj _ _ _ _ _ _ _ _ (@nk _) (@gj _ _ _ _ _ _ _ _ (@rT _) (@cg _ 2 _ _ rfl cC az aA) (@dR _ _ _ _)) (@fZ _ _ _ _ _ _ _ _ _ (Dm rfl) lU M.m_max Ij (@cT _ _ _ _ _ (@dR _ _ _ _) (@cT _ _ _ _ _ (@gf _ _ _ _ _ _ _ (@gK _) (@cg _ 3 _ _ rfl bJ ax ay) (@cg _ 5 _ _ rfl aK bi bn) (fun _ _=>rfl)) (@dB _) (di rfl)) (di rfl)) ud uc (di rfl) (gw rfl fD)))) (gG rfl) (.inl rfl)) (@ff _ _ _ _ _ (@nS _ _ _ _ _ _ _ _ (@PW.pt _ _ _ (@vC _ _ _ _ _ _ _ (@jj _ _ _ _ _ _ _ _ (@t9 _) (@cg _ 7 _ _ rfl fY iA iB) (@dR _ _ _ _) (iG _)) (@vt _ _ _ _ (@jj _ _ _ _ _ _ _ _ (@u0 _) (@fZ _ _ _ _ _ _ _ _ _ gJ bZ M.m_len nj (@cT _ _ _ _ _ (@gf _ _ _ _ _ _ _ (@jl _) (@gf _ _ _ _ _ _ _ (@gK _) (@cg _ 0 _ _ rfl bR aa ae) (@cg _ 5 _ _ rfl aK bi bn) (fun _ _=>rfl)) (@dR _ _ _ _) (fun _ _=>rfl)) (@dB _) (di rfl)) aF aE (di rfl) fD) (@dR _ _ _ _) (iG _))))) (@ff _ _ _ _ _ (@uB _ _ _ _ _ _ (@gj _ _ _ _ _ _ _ _ (@ni _) (@gf _ _ _ _ _ _ _ (@gK _) (@cg _ 3 _ _ rfl bJ ax ay) (@cg _ 5 _ _ rfl aK bi bn) (fun _ _=>rfl)) (@dR _ _ _ _)) (@vD _ _ _ _ _ _ _ (@cg _ 3 _ _ rfl bJ ax ay) (@cg _ 5 _ _ rfl aK bi bn) set_list (by intro _; rfl)) (by rfl) (by rfl) (by rfl)) (@fL _ _ _ (@uB _ _ _ _ _ _ (@gv _ _ _ _ _ _ _ _ _ _ _ ft hr dH (@cT _ _ _ _ _ (@gf _ _ _ _ _ _ _ (@gK _) (@cg _ 4 _ _ rfl ce aS aT) (@cg _ 5 _ _ rfl aK bi bn) (fun _ _=>rfl)) (@cT _ _ _ _ _ (@gf _ _ _ _ _ _ _ (@gK _) (@gf _ _ _ _ _ _ _ (@jl _) (@gf _ _ _ _ _ _ _ (@gK _) (@cg _ 0 _ _ rfl bR aa ae) (@cg _ 5 _ _ rfl aK bi bn) (fun _ _=>rfl)) (@dR _ _ _ _) (fun _ _=>rfl)) (@gj _ _ _ _ _ _ _ _ (@nk _) (@gj _ _ _ _ _ _ _ _ (@rT _) (@cg _ 2 _ _ rfl cC az aA) (@dR _ _ _ _)) (@fZ _ _ _ _ _ _ _ _ _ gJ bZ M.m_len nj (@cT _ _ _ _ _ (@gf _ _ _ _ _ _ _ (@jl _) (@gf _ _ _ _ _ _ _ (@gK _) (@cg _ 0 _ _ rfl bR aa ae) (@cg _ 5 _ _ rfl aK bi bn) (fun _ _=>rfl)) (@dR _ _ _ _) (fun _ _=>rfl)) (@dB _) (di rfl)) aF aE (di rfl) fD)) (fun _ _=>rfl)) (@cT _ _ _ _ _ (@dR _ _ _ _) (@dB _) (di rfl)) (di rfl)) (di rfl)) (by decide) jt (di rfl) (gw rfl (gw rfl fD))) (@vD _ _ _ _ _ _ _ (@cg _ 4 _ _ rfl ce aS aT) (@cg _ 5 _ _ rfl aK bi bn) set_list (by intro _; rfl)) (by rfl) (by rfl) (by rfl)))) (@kN _)) (@ff _ _ _ _ _ (@nS _ _ _ _ _ _ _ _ (@PW.pt _ _ _ (@vC _ _ _ _ _ _ _ (@jj _ _ _ _ _ _ _ _ (@u0 _) (@cg _ 7 _ _ rfl fY iA iB) (@dR _ _ _ _) (iG _)) (@vt _ _ _ _ (@jj _ _ _ _ _ _ _ _ yw (@cg _ 8 _ _ rfl de aP aQ) (@gf _ _ _ _ _ _ _ (@gK _) (@cg _ 3 _ _ rfl bJ ax ay) (@cg _ 5 _ _ rfl aK bi bn) (fun _ _=>rfl)) (iG _))))) (@ff _ _ _ _ _ (@uB _ _ _ _ _ _ (@gj _ _ _ _ _ _ _ _ (@yh _) (@gf _ _ _ _ _ _ _ (@gK _) (@cg _ 3 _ _ rfl bJ ax ay) (@cg _ 5 _ _ rfl aK bi bn) (fun _ _=>rfl)) (@cg _ 8 _ _ rfl de aP aQ)) (@vD _ _ _ _ _ _ _ (@cg _ 3 _ _ rfl bJ ax ay) (@cg _ 5 _ _ rfl aK bi bn) set_list (by intro _; rfl)) (by rfl) (by rfl) (by rfl)) (@ff _ _ _ _ _ (@uB _ _ _ _ _ _ (@gv _ _ _ _ _ _ _ _ _ _ _ iD hr iC (@cT _ _ _ _ _ (@gf _ _ _ _ _ _ _ (@gK _) (@cg _ 4 _ _ rfl ce aS aT) (@cg _ 5 _ _ rfl aK bi bn) (fun _ _=>rfl)) (@cT _ _ _ _ _ (@cg _ 8 _ _ rfl de aP aQ) (@dB _) (di rfl)) (di rfl)) (by decide) oz (di rfl) (gw rfl fD)) (@vD _ _ _ _ _ _ _ (@cg _ 4 _ _ rfl ce aS aT) (@cg _ 5 _ _ rfl aK bi bn) set_list (by intro _; rfl)) (by rfl) (by rfl) (by rfl)) (@fL _ _ _ (@nS _ _ _ _ _ _ _ _ (@PW.pt _ _ _ (@vC _ _ _ _ _ _ _ (@jj _ _ _ _ _ _ _ _ (@t9 _) (@cg _ 7 _ _ rfl fY iA iB) (@dR _ _ _ _) (iG _)) (@vt _ _ _ _ (@jj _ _ _ _ _ _ _ _ (@u0 _) (@fZ _ _ _ _ _ _ _ _ _ gJ bZ M.m_len nj (@cT _ _ _ _ _ (@gf _ _ _ _ _ _ _ (@jl _) (@gf _ _ _ _ _ _ _ (@gK _) (@cg _ 0 _ _ rfl bR aa ae) (@cg _ 6 _ _ rfl cf cX cY) (fun _ _=>rfl)) (@dR _ _ _ _) (fun _ _=>rfl)) (@dB _) (di rfl)) aF aE (di rfl) fD) (@dR _ _ _ _) (iG _))))) (@ff _ _ _ _ _ (@uB _ _ _ _ _ _ (@gj _ _ _ _ _ _ _ _ (@ni _) (@gf _ _ _ _ _ _ _ (@gK _) (@cg _ 3 _ _ rfl bJ ax ay) (@cg _ 6 _ _ rfl cf cX cY) (fun _ _=>rfl)) (@cg _ 8 _ _ rfl de aP aQ)) (@vD _ _ _ _ _ _ _ (@cg _ 3 _ _ rfl bJ ax ay) (@cg _ 6 _ _ rfl cf cX cY) set_list (by intro _; rfl)) (by rfl) (by rfl) (by rfl)) (@fL _ _ _ (@uB _ _ _ _ _ _ (@gv _ _ _ _ _ _ _ _ _ _ _ ft hr dH (@cT _ _ _ _ _ (@gf _ _ _ _ _ _ _ (@gK _) (@cg _ 4 _ _ rfl ce aS aT) (@cg _ 6 _ _ rfl cf cX cY) (fun _ _=>rfl)) (@cT _ _ _ _ _ (@gf _ _ _ _ _ _ _ (@gK _) (@gf _ _ _ _ _ _ _ (@jl _) (@gf _ _ _ _ _ _ _ (@gK _) (@cg _ 0 _ _ rfl bR aa ae) (@cg _ 6 _ _ rfl cf cX cY) (fun _ _=>rfl)) (@dR _ _ _ _) (fun _ _=>rfl)) (@gj _ _ _ _ _ _ _ _ (@nk _) (@gj _ _ _ _ _ _ _ _ (@rT _) (@cg _ 2 _ _ rfl cC az aA) (@dR _ _ _ _)) (@fZ _ _ _ _ _ _ _ _ _ gJ bZ M.m_len nj (@cT _ _ _ _ _ (@gf _ _ _ _ _ _ _ (@jl _) (@gf _ _ _ _ _ _ _ (@gK _) (@cg _ 0 _ _ rfl bR aa ae) (@cg _ 6 _ _ rfl cf cX cY) (fun _ _=>rfl)) (@dR _ _ _ _) (fun _ _=>rfl)) (@dB _) (di rfl)) aF aE (di rfl) fD)) (fun _ _=>rfl)) (@cT _ _ _ _ _ (@cg _ 8 _ _ rfl de aP aQ) (@dB _) (di rfl)) (di rfl)) (di rfl)) (by decide) jt (di rfl) (gw rfl (gw rfl fD))) (@vD _ _ _ _ _ _ _ (@cg _ 4 _ _ rfl ce aS aT) (@cg _ 6 _ _ rfl cf cX cY) set_list (by intro _; rfl)) (by rfl) (by rfl) (by rfl)))) (@kN _))))) (@kN _)) (@fL _ _ _ (@ic _ _ _ _ (@qt _ _ _ _ _ (@cT _ _ _ _ _ (@cg _ 3 _ _ rfl bJ ax ay) (@cT _ _ _ _ _ (@cg _ 4 _ _ rfl ce aS aT) (@dB _) (di rfl)) (di rfl))))))))))))),?_⟩
 refine Iw fun tl htl=>?_
 obtain⟨us,hus,hpa⟩:=id hL
 have lus:us.length=L.length:=Paired.length hpa
 have l64:=lok.l
 have m60:=lok.m
 have lF:Fl.length=L.length:=R.1
 have lras:ras.length=L.length:=by rw[Paired.length fnd.rs,lF]
 have tail:∀ (H1:Hp) (g D:Addr) (a b:Nat) (wy mn:Int) (G:List Int) (rv:List V),H g=none→H D=none→g≠D→a<L.length→b<L.length→Same H H1→H1 g=some (.lst (G.map V.int))→G.length=L.length→H1 D=some (.lst rv)→rv.length=L.length→(∀ v∈rv,RtV K H1 60 (fun r=>r≠D∧r≠g∧H r=none) v)→tl { nx:=fun _ H'=>Q .non H',rt:=Q } [some (.ref l),some (.ref t),some (.int c),some (.ref g),some (.ref D),some (.int (a:Int)),some (.int (b:Int)),some (.int wy),some (.int mn)] H1:=by
  intro H1 g D a b wy mn G rv hg hD gD ha hb e1 dg lG dD lr ok
  rw[htl]
  refine Iq fun tl2 htl2=>?_
  obtain⟨W,hW⟩:∃ W:Nat→Hp→List Int→List V→Prop,W=fun B H' G rv=>Same H H'∧H' g=some (.lst (G.map V.int))∧G.length=L.length∧H' D=some (.lst rv)∧rv.length=L.length∧∀ v∈rv,RtV K H' B (fun r=>r≠D∧r≠g∧H r=none) v:=⟨_,rfl⟩
  have wG:∀ {B:Nat} {H':Hp} {G:List Int} {rv:List V} (k:Nat) (x:Int),W B H' G rv→W B (upd H' g (.lst ((G.map V.int).set k (.int x)))) (G.set k x) rv:=fun {B H' G rv} k x h=>by
   rw[hW] at h ⊢
   obtain⟨h1,h2,h3,h4,h5,h6⟩:=h
   exact⟨gu h1 hg _,by rw[er,List.map_set],by rw[List.length_set]; exact h3,by rw[fj (Ne.symm gD)]; exact h4,h5,fun v hv=>(h6 v hv).upd h2 fun r hr=>hr.2.1⟩
  have wD:∀ {B:Nat} {H':Hp} {G:List Int} {rv:List V} (k:Nat) (x:V),W B H' G rv→RtV K H' B (fun r=>r≠D∧r≠g∧H r=none) x→W B (upd H' D (.lst (rv.set k x))) G (rv.set k x):=fun {B H' G rv} k x h hx=>by
   rw[hW] at h ⊢
   obtain⟨h1,h2,h3,h4,h5,h6⟩:=h
   refine⟨gu h1 hD _,by rw[fj gD]; exact h2,h3,er,by rw[List.length_set]; exact h5,fun v hv=>?_⟩
   rcases List.mem_or_eq_of_mem_set hv with hv | rfl
   ·exact (h6 v hv).upd h4 fun r hr=>hr.1
   ·exact hx.upd h4 fun r hr=>hr.1
  have wS:∀ {B:Nat} {Ha Hb:Hp} {G:List Int} {rv:List V},W B Ha G rv→Same Ha Hb→W B Hb G rv:=fun {B Ha Hb G rv} h e=>by
   rw[hW] at h ⊢
   obtain⟨h1,h2,h3,h4,h5,h6⟩:=h
   exact⟨h1.trans e,e _ _ h2,h3,e _ _ h4,h5,fun v hv=>(h6 v hv).same e⟩
  have wU:∀ {B B':Nat} {Ha:Hp} {G:List Int} {rv:List V},W B Ha G rv→B≤B'→W B' Ha G rv:=fun {B B' Ha G rv} h e=>by
   rw[hW] at h ⊢
   obtain⟨h1,h2,h3,h4,h5,h6⟩:=h
   exact⟨h1,h2,h3,h4,h5,fun v hv=>(h6 v hv).up e⟩
  have wV:∀ {B:Nat} {Ha:Hp} {G:List Int} {rv:List V} {k:Nat},W B Ha G rv→k<L.length→(∃ v,rv[k]?=some v∧atI rv (k:Int)=some v∧RtV K Ha B (fun r=>r≠D∧r≠g∧H r=none) v)∧atI (G.map V.int) (k:Int)=some (.int (G.getD k 0))∧ixN (G.map V.int).length (k:Int)=some k∧ixN rv.length (k:Int)=some k:=fun {B Ha G rv k} h hk=>by
   rw[hW] at h
   obtain⟨h1,h2,h3,h4,h5,h6⟩:=h
   have hl:k<rv.length:=by omega
   refine⟨⟨rv[k],List.getElem?_eq_getElem hl,nM (List.getElem?_eq_getElem hl),h6 _ (List.getElem_mem hl)⟩,?_,vR (by rw[List.length_map]; omega),vR hl⟩
   have:=ux (ns:=G) (k:=(k:Int)) (by omega) (by omega)
   rwa [Int.toNat_natCast] at this
  have wH:∀ {B:Nat} {Ha:Hp} {G:List Int} {rv:List V},W B Ha G rv→Same H Ha∧Ha g=some (.lst (G.map V.int))∧Ha D=some (.lst rv):=fun h=>by
   rw[hW] at h
   exact⟨h.1,h.2.1,h.2.2.2.1⟩
  have newR:∀ {B:Nat} {Ha Hb:Hp} {G:List Int} {rv:List V} {r:Addr} {us:List V} {xs:List (Nat×Int)},W B Ha G rv→Same Ha Hb→Ha r=none→Hb r=some (.lst us)→RtAt K Hb us xs→xs.length≤B→(xs.map Prod.fst).Nodup→RtV K Hb B (fun r=>r≠D∧r≠g∧H r=none) (.ref r):=fun {B Ha Hb G rv r us xs} h e h1 h2 h3 h4 h5=>by
   obtain⟨w1,w2,w3⟩:=wH h
   exact⟨r,us,xs,rfl,h2,h3,h4,h5,(fun z=>by rw[z,w3] at h1; cases h1),(fun z=>by rw[z,w2] at h1; cases h1),none_of w1 h1⟩
  have ent:∀ {k:Nat} {Ha:Hp},k<L.length→Same H Ha→∃ te qe,atI us (k:Int)=some (.ref te)∧SqL K Ha l us∧SqT K Ha te [.ref qe,.int (wt L k)]∧SqL K Ha qe ((pl L k).map fun j:Nat=>V.int (j:Int)):=fun {k Ha} hk e=>by
   obtain⟨en,hen⟩:∃ en,L[k]?=some en:=⟨_,List.getElem?_eq_getElem hk⟩
   obtain⟨te,qe,b1,b2,b3⟩:=sH (uq e hpa) hen
   have ew:wt L k=en.2:=by rw[wt,List.getD,hen]; rfl
   have ep:pl L k=en.1:=by rw[pl,List.getD,hen]; rfl
   rw[ew,ep]
   exact⟨te,qe,nM b1,e.seq hus,b2,b3⟩
  have place:∀ {k:Nat},0<(((pl L k).map fun j:Nat=>V.int (j:Int)).length:Int)→∃ p:Nat,atI ((pl L k).map fun j:Nat=>V.int (j:Int)) (c / 360 % (((pl L k).map fun j:Nat=>V.int (j:Int)).length:Int))=some (.int (p:Int)):=fun {k} h=>by
   have x0:=Int.emod_nonneg (c / 360) (show (((pl L k).map fun j:Nat=>V.int (j:Int)).length:Int)≠0 by omega)
   have x1:=Int.emod_lt_of_pos (c / 360) h
   obtain⟨i,ei,hi⟩:∃ i:Nat,c / 360 % (((pl L k).map fun j:Nat=>V.int (j:Int)).length:Int)=(i:Int)∧i<(pl L k).length:=⟨(c / 360 % (((pl L k).map fun j:Nat=>V.int (j:Int)).length:Int)).toNat,by omega,by rw[List.length_map] at x0 x1 ⊢; omega⟩
   rw[ei]
   exact⟨(pl L k)[i],nM (by rw[List.getElem?_map,List.getElem?_eq_getElem hi]; rfl)⟩
  have ret:∀ {Ha:Hp} {G:List Int} {rv:List V},W 62 Ha G rv→2≤sizeLine∧∀ p,Ha p=none→Q (.ref p) (upd Ha p (.tup [.ref g,.ref D])):=fun {Ha G rv} h=>by
   refine⟨by decide,fun p hp=>?_⟩
   obtain⟨Hb,gb,Sb,Tb⟩:=ji (K:=K) hp [V.ref g,V.ref D]
   rw[← gb]
   clear gb
   have h':=wS h Sb
   rw[hW] at h'
   obtain⟨h1,h2,h3,h4,h5,h6⟩:=h'
   exact q p g D G rv Hb h1 Tb h2 (by omega) h4 (by omega) (fun v hv=>by obtain⟨r,us,xs,k1,k2,k3,k4,k5,k6⟩:=h6 v hv; exact⟨r,us,xs,k1,k2,k3,by omega,k5,k6.2.2⟩) hg hD
  have tail2:∀ (H2:Hp) (G:List Int) (rv:List V),W 61 H2 G rv→tl2 { nx:=fun _ H'=>Q .non H',rt:=Q } [some (.ref l),some (.ref t),some (.int c),some (.ref g),some (.ref D),some (.int (a:Int)),some (.int (b:Int)),some (.int wy),some (.int mn)] H2:=by
   intro H2 G rv w2
   rw[htl2]
   obtain⟨e2,dg2,dD2⟩:=wH w2
   obtain⟨⟨v,hv,vat,vok⟩,gat,gix,rix⟩:=wV w2 ha
   trivial
   by_cases c1:0<wy
   ·rw[if_pos c1]
    refine⟨_,SqL.of dg2,_,gat,_,rfl,?_⟩
    by_cases c2:mn≤G.getD a 0
    ·rw[if_pos c2]
     have w3:=wG a (G.getD a 0-mn) w2
     obtain⟨e3,dg3,dD3⟩:=wH w3
     refine⟨_,SqL.of dg2,_,gat,_,rfl,_,dg2,a,gix,_,SqL.of dD3,_,vat,?_⟩
     obtain⟨⟨v3,hv3,vat3,vok3⟩,_,_,_⟩:=wV w3 ha
     rw[hv] at hv3
     cases hv3
     obtain⟨r,us3,xs,rfl,x2,x3,x4,x5,x6⟩:=vok3
     refine⟨r,us3,xs,mn,rfl,SqL.of x2,x3,by omega,fun r' us' xs' H4 e4 hr4 d4 rx sb=>?_⟩
     have w4:=wS w3 e4
     have rv4:=newR w3 e4 hr4 d4 rx (by have:=sb.length_le; rw[List.length_map,List.length_map] at this; omega) (sb.nodup x5)
     have w5:=wD a _ w4 rv4
     obtain⟨_,_,dD4⟩:=wH w4
     obtain⟨e5,dg5,dD5⟩:=wH w5
     refine⟨_,dD4,a,rix,?_⟩
     by_cases c3:wy=1
     ·rw[if_pos c3]
      obtain⟨te,qe,n1,n2,n3,n4⟩:=ent hb e5
      refine⟨us,n2,_,n1,te,rfl,_,n3,_,rfl,qe,rfl,_,.inl n4,?_⟩
      by_cases c4:0<(((pl L b).map fun j:Nat=>V.int (j:Int)).length:Int)
      ·rw[if_pos c4]
       obtain⟨⟨v6,hv6,vat6,vok6⟩,gat6,gix6,rix6⟩:=wV w5 hb
       have w6:=wG b ((G.set a (G.getD a 0-mn)).getD b 0+mn) w5
       obtain⟨e6,dg6,dD6⟩:=wH w6
       obtain⟨te',qe',o1,o2,o3,o4⟩:=ent hb e6
       obtain⟨p,hp⟩:=place c4
       refine⟨_,SqL.of dg5,_,gat6,_,rfl,_,dg5,b,gix6,_,SqL.of dD6,_,vat6,us,o2,_,o1,te',rfl,_,o3,_,rfl,cdiv (by decide) (by decide),us,o2,_,o1,te',rfl,_,o3,_,rfl,qe',rfl,_,.inl o4,c4,qe',rfl,_,o4,_,hp,?_⟩
       obtain⟨⟨v7,hv7,vat7,vok7⟩,_,_,_⟩:=wV w6 hb
       rw[hv6] at hv7
       cases hv7
       obtain⟨r7,us7,xs7,rfl,y2,y3,y4,y5,y6⟩:=vok7
       refine⟨r7,us7,xs7,p,mn,rfl,SqL.of y2,y3,by omega,y5,fun r' us' H7 e7 hr7 d7 rx=>?_⟩
       rw[List.filter_eq_self.mpr (fun _ _=>rfl)] at rx
       have w6':=wU w6 (show 61≤62 by decide)
       have rv7:=newR w6' e7 hr7 d7 rx (Nat.le_trans yb (by omega)) (yF y5)
       have w7:=wS w6' e7
       obtain⟨_,_,dD7⟩:=wH w7
       exact⟨_,dD7,b,rix6,ret (wD b _ w7 rv7)⟩
      ·rw[if_neg c4]
       exact ret (wU w5 (by decide))
     ·rw[if_neg c3]
      exact ret (wU w5 (by decide))
    ·rw[if_neg c2]
     exact ret (wU w2 (by decide))
   ·rw[if_neg c1]
    exact ret (wU w2 (by decide))
  have w1:W 60 H1 G rv:=by rw[hW]; exact⟨e1,dg,lG,dD,lr,ok⟩
  obtain⟨te,qe,n1,n2,n3,n4⟩:=ent ha e1
  trivial
  by_cases c1:wy=0
  ·rw[if_pos c1]
   refine⟨us,n2,_,n1,te,rfl,_,n3,_,rfl,qe,rfl,_,.inl n4,?_⟩
   by_cases c4:0<(((pl L a).map fun j:Nat=>V.int (j:Int)).length:Int)
   ·rw[if_pos c4]
    obtain⟨⟨v6,hv6,vat6,vok6⟩,gat6,gix6,rix6⟩:=wV w1 ha
    have w6:=wG a (G.getD a 0+1) w1
    obtain⟨e6,dg6,dD6⟩:=wH w6
    obtain⟨te',qe',o1,o2,o3,o4⟩:=ent ha e6
    obtain⟨p,hp⟩:=place c4
    refine⟨_,SqL.of dg,_,gat6,_,rfl,_,dg,a,gix6,_,SqL.of dD6,_,vat6,us,o2,_,o1,te',rfl,_,o3,_,rfl,cdiv (by decide) (by decide),us,o2,_,o1,te',rfl,_,o3,_,rfl,qe',rfl,_,.inl o4,c4,qe',rfl,_,o4,_,hp,?_⟩
    obtain⟨⟨v7,hv7,vat7,vok7⟩,_,_,_⟩:=wV w6 ha
    rw[hv6] at hv7
    cases hv7
    obtain⟨r7,us7,xs7,rfl,y2,y3,y4,y5,y6⟩:=vok7
    refine⟨r7,us7,xs7,p,1,rfl,SqL.of y2,y3,by omega,y5,fun r' us' H7 e7 hr7 d7 rx=>?_⟩
    rw[List.filter_eq_self.mpr (fun _ _=>rfl)] at rx
    have w6':=wU w6 (show 60≤61 by decide)
    have rv7:=newR w6' e7 hr7 d7 rx (Nat.le_trans yb (by omega)) (yF y5)
    have w7:=wS w6' e7
    obtain⟨_,_,dD7⟩:=wH w7
    exact⟨_,dD7,a,rix6,tail2 _ _ _ (wD a _ w7 rv7)⟩
   ·rw[if_neg c4]
    exact tail2 _ _ _ (wU w1 (by decide))
  ·rw[if_neg c1]
   exact tail2 _ _ _ (wU w1 (by decide))
 trivial
 refine⟨_,fnd.t,_,rfl,ga,rfl,_,SqL.of fnd.g,fun g hg=>?_⟩
 obtain⟨H1,g1,S1,T1⟩:=nL hg ((Fl.map List.sum).map V.int)
 rw[← g1]
 clear g1
 have f1:=fnd.same S1
 refine⟨_,f1.t,_,rfl,ra,rfl,⟨_,SqL.of f1.r⟩,fun D hD=>?_⟩
 have gD:g≠D:=fun z=>by rw[z,hD] at T1; cases T1
 have hD':=none_of S1 hD
 obtain⟨Pc,hC⟩:∃ Pc:Nat→St→Hp→Prop,Pc=fun i τ H'=>∃ (ws:List V) (z:Option V),H' D=some (.lst ws)∧ws.length=i∧(∀ v∈ws,RtV K H' 60 (fun r=>r≠D∧r≠g∧H r=none) v)∧Same H1 H'∧τ=[z]:=⟨_,rfl⟩
 refine mJ (ras.map V.ref) Pc ?_ (fun i τ H' _ h=>by rw[hC] at h; obtain⟨_,_,_,_,_,e,_⟩:=h; exact SqL.of (e _ _ f1.r)) ?_ ?_
 ·rw[hC]
  exact⟨[],_,er,rfl,(fun v hv=>by cases hv),fS hD _,rfl⟩
 ·intro i x τ H' R' hx h next
  rw[hC] at h
  obtain⟨ws,z,dw,lw,pr,e,rfl⟩:=h
  rw[List.getElem?_map] at hx
  obtain⟨r,hr,rfl⟩:=Option.map_eq_some_iff.mp hx
  have li:=(List.getElem?_eq_some_iff.mp hr).1
  obtain⟨row,hrow,vs,h2,h3⟩:=wW f1.rs (List.mem_of_getElem? hr)
  trivial
  refine⟨_,SqL.of (e _ _ h2),fun b hb=>?_⟩
  have bD:b≠D:=fun z=>by rw[z,dw] at hb; cases hb
  have bg:b≠g:=fun z=>by rw[z,e _ _ T1] at hb; cases hb
  obtain⟨H4,g4,S4',T4⟩:=nL hb vs
  rw[← g4]
  clear g4
  have d4:=S4' _ _ dw
  refine⟨_,d4,Nat.lt_of_lt_of_le (m:=1000) (by omega) (by decide),next _ _ ?_⟩
  rw[hC]
  refine⟨ws++[.ref b],_,er,by rw[List.length_append,lw]; rfl,fun v hv=>?_,gu (e.trans S4') hD _,rfl⟩
  rcases List.mem_append.mp hv with hv | hv
  ·exact ((pr v hv).same S4').upd d4 fun r h=>h.1
  ·rw[List.mem_singleton.mp hv]
   refine RtV.upd ⟨b,vs,rt row,rfl,T4,h3.same (e.trans S4'),?_,Cm row,bD,bg,none_of (S1.trans e) hb⟩ d4 fun r h=>h.1
   have:=zV (R.2 row hrow)
   omega
 intro τ H2 h
 rw[hC] at h
 obtain⟨ws,z,dw,lw,pr,e2,rfl⟩:=h
 clear hC
 rw[List.length_map,lras] at lw
 have e12:=S1.trans e2
 have x0:=Int.emod_nonneg c (show (us.length:Int)≠0 by omega)
 have x1:=Int.emod_lt_of_pos c (show 0<(us.length:Int) by omega)
 obtain⟨a,ea,ha⟩:∃ a:Nat,c % (us.length:Int)=(a:Int)∧a<L.length:=⟨(c % (us.length:Int)).toNat,by omega,by omega⟩
 have y0:=Int.emod_nonneg (c % (us.length:Int)+1+c / 40 % 3) (show (us.length:Int)≠0 by omega)
 have y1:=Int.emod_lt_of_pos (c % (us.length:Int)+1+c / 40 % 3) (show 0<(us.length:Int) by omega)
 obtain⟨b,eb,hb⟩:∃ b:Nat,(c % (us.length:Int)+1+c / 40 % 3) % (us.length:Int)=(b:Int)∧b<L.length:=⟨((c % (us.length:Int)+1+c / 40 % 3) % (us.length:Int)).toNat,by omega,by omega⟩
 have lG:(Fl.map List.sum).length=L.length:=by rw[List.length_map,lF]
 have gat:atI ((Fl.map List.sum).map V.int) (c % (us.length:Int))=some (.int ((Fl.map List.sum).getD a 0)):=by
  rw[ea]
  have:=ux (ns:=Fl.map List.sum) (k:=(a:Int)) (by omega) (by omega)
  rwa [Int.toNat_natCast] at this
 refine⟨us,.inl (e12.seq hus),by omega,cdiv (by decide) (by decide),by decide,us,.inl (e12.seq hus),by omega,cdiv (by decide) (by decide),by decide,cdiv (by decide) (by decide),_,SqL.of (e2 _ _ T1),_,gat,_,rfl,by split <;> omega,?_⟩
 rw[eb,ea]
 exact tail H2 g D a b _ _ (Fl.map List.sum) ws hg hD' gD ha hb e12 (e2 _ _ T1) lG dw lw pr
end
end MyZ
namespace MyA1
open My MyB MyC MyD MyE MyF MyG MyS MyI MyJ MyK MyT MyU MyV MyW MyX MyY MyZ PySem L2
def ptD (x:Nat×Int):Dt:=.tup [.int (x.1:Int),.int x.2]
def vL (xs:List (Nat×Int)):Dt:=.lst (xs.map ptD)
def wO (xs:List (Nat×Int)) (j:Nat):Int:=(xs.map fun x=>if x.1=j then x.2 else 0).sum
theorem Hz (xs:List (Nat×Int)) (j:Nat):uO (j:Int) (vL xs)=wO xs j:=by
 show (((xs.map ptD).filter fun p=>decide (intOf (qq p)=(j:Int))).map uG).sum=_
 unfold wO
 induction xs with
 | nil=>rfl
 | cons x xs ih =>
  rw[List.map_cons,List.map_cons,List.sum_cons,← ih]
  by_cases h:x.1=j
  ·rw[List.filter_cons_of_pos (p:=fun p=>decide (intOf (qq p)=(j:Int))) (a:=ptD x) (decide_eq_true (by show (x.1:Int)=_; omega)),List.map_cons,List.sum_cons,if_pos h]
   rfl
  ·rw[List.filter_cons_of_neg (p:=fun p=>decide (intOf (qq p)=(j:Int))) (a:=ptD x) (fun z=>h (by have:(x.1:Int)=(j:Int):=of_decide_eq_true z; omega)),if_neg h,Int.zero_add]
theorem ES {ps:List Nat} {g:Int} {xs:List (Nat×Int)} (nd:(xs.map Prod.fst).Nodup) (h:∀ x∈xs,x.1∈ps∧1≤x.2) (hs:(xs.map Prod.snd).sum=g):tN ps g (vL xs)=true:=by
 unfold vL
 rw[sC,Bool.and_eq_true,Bool.and_eq_true]
 refine⟨?_,?_,decide_eq_true ?_⟩
 ·rw[List.all_eq_true]
  intro d hd
  obtain⟨x,hx,rfl⟩:=List.mem_map.mp hd
  exact decide_eq_true (h x hx).2
 ·unfold nP
  rw[Bool.and_eq_true]
  refine⟨?_,decide_eq_true ?_⟩
  ·rw[List.all_eq_true,List.map_map]
   intro d hd
   obtain⟨x,hx,rfl⟩:=List.mem_map.mp hd
   exact decide_eq_true (List.mem_map.mpr ⟨x.1,(h x hx).1,rfl⟩)
  ·rw[List.map_map,List.map_map,List.Nodup,List.pairwise_map]
   rw[List.Nodup,List.pairwise_map] at nd
   exact nd.imp fun h z=>h (by have z:((_:Nat):Int)=((_:Nat):Int):=z; omega)
 ·rw[List.map_map,← hs]
  rfl
theorem Gk {rooms G:List Int} {L:List En} {rs:List (List (Nat×Int))} {cs:List Dt} (mo:Most rooms L G) (lr:rs.length=L.length) (lc:cs.length=L.length)
  (hr:∀ e,e<L.length→((rs.getD e []).map Prod.fst).Nodup∧(∀ x∈rs.getD e [],x.1∈pl L e∧1≤x.2)∧((rs.getD e []).map Prod.snd).sum=G.getD e 0) (hk:∀ j,j<rooms.length→(rs.map fun xs=>wO xs j).sum≤rooms.getD j 0)
  (hc:∀ e,e<L.length→G.getD e 0<wt L e→∃ ns:List Int,cs.getD e .non=.lst (ns.map Dt.int)∧ns.Nodup∧(∀ x∈ns,∃ j:Nat,x=(j:Int)∧j<rooms.length)∧(pl L e).all (inS ns)=true∧roomS rooms rooms.length (inS ns)=sumG L (fun e=>G.getD e 0) (inS ns) (e+1)) :
  t8 rooms L (.lst (G.map Dt.int)) (.lst (rs.map vL)) (.lst cs)=true:=by
 have lG:=mo.len
 rw[yD rooms L _ _ _ (by rw[List.length_map,lG]) (by rw[List.length_map,lr]) lc,Bool.and_eq_true,Bool.and_eq_true,Bool.and_eq_true]
 have ga:∀ e,e<L.length→(G.map Dt.int).getD e .non=.int (G.getD e 0):=fun e he=>by
  rw[List.getD,List.getElem?_map,List.getElem?_eq_getElem (by omega),My.getD_at (by omega)]
  rfl
 have ra:∀ e,e<L.length→(rs.map vL).getD e .non=vL (rs.getD e []):=fun e he=>by
  rw[List.getD,List.getElem?_map,List.getElem?_eq_getElem (by omega),My.getD_at (by omega)]
  rfl
 have eG:(G.map Dt.int).map intOf=G:=by
  rw[List.map_map]
  exact List.map_id' G
 refine⟨?_,?_,?_,?_⟩
 ·rw[List.all_eq_true]
  intro e he
  have he:=List.mem_range.mp he
  rw[ga e he]
  show (decide (0≤G.getD e 0) && decide (G.getD e 0≤wt L e))=true
  rw[decide_eq_true (mo.nn e he),decide_eq_true (mo.le e he)]
  rfl
 ·rw[List.all_eq_true]
  intro e he
  have he:=List.mem_range.mp he
  rw[ga e he,ra e he]
  obtain⟨h1,h2,h3⟩:=hr e he
  exact ES h1 h2 h3
 ·unfold xm
  rw[List.all_eq_true]
  intro j hj
  have hj:=List.mem_range.mp hj
  refine decide_eq_true ?_
  unfold thr
  rw[List.map_map]
  have:(rs.map (uO (j:Int) ∘ vL)).sum=(rs.map fun xs=>wO xs j).sum:=congrArg List.sum (List.map_congr_left fun xs _=>Hz xs j)
  rw[this]
  exact hk j hj
 ·rw[List.all_eq_true,eG]
  intro e he
  have he:=List.mem_range.mp he
  have lt:(L.take (e+1)).length=e+1:=by rw[List.length_take]; omega
  unfold uL
  rw[lt,Nat.add_sub_cancel,yT (by omega),BZ (by omega)]
  by_cases hz:G.getD e 0=wt L e
  ·rw[decide_eq_true hz]
   rfl
  ·have:=mo.le e he
   obtain⟨ns,h1,h2,h3,h4,h5⟩:=hc e he (by omega)
   rw[decide_eq_false hz,Bool.false_or,h1,wj,lt,Nat.add_sub_cancel,yC (by omega)]
   have en:(ns.map Dt.int).map intOf=ns:=by
    rw[List.map_map]
    exact List.map_id' ns
   rw[en,Bool.and_eq_true,Bool.and_eq_true]
   refine⟨?_,h4,decide_eq_true ?_⟩
   ·unfold nP
    rw[Bool.and_eq_true,en]
    refine⟨?_,decide_eq_true h2⟩
    rw[List.all_eq_true]
    intro d hd
    obtain⟨x,hx,rfl⟩:=List.mem_map.mp hd
    obtain⟨j,ej,hj⟩:=h3 x hx
    exact decide_eq_true (List.mem_map.mpr ⟨j,List.mem_range.mpr hj,ej.symm⟩)
   ·rw[zE (Nat.le_refl _),← h5]
    unfold yj
    rw[wR (g:=fun j=>rooms.getD j 0) h2 h3]
    rfl
theorem wN {g:Nat→Int} {p:Nat→Bool} (h:∀ j,p j=false→g j=0):∀ n,(((List.range n).filter p).map g).sum=jh n g
 | 0=>rfl
 | n+1=>by
  rw[iW,← wN h n,List.range_succ,List.filter_append,List.map_append,List.sum_append]
  congr 1
  cases hp:p n with
  | true=>rw[List.filter_cons_of_pos hp]; simp
  | false=>rw[List.filter_cons_of_neg (by rw[hp]; decide),h n hp]; rfl
theorem FZ {row:List Int} (nn:∀ j,0≤row.getD j 0):((rt row).map Prod.snd).sum=row.sum:=by
 unfold rt
 rw[List.map_map,uV row]
 exact wN (g:=fun j=>row.getD j 0) (p:=fun j=>decide (0<row.getD j 0)) (fun j hj=>by
  have:=of_decide_eq_false hj
  have:=nn j
  omega) _
theorem GH {row:List Int} (nn:∀ j,0≤row.getD j 0) (j:Nat):wO (rt row) j=row.getD j 0:=by
 unfold wO rt
 rw[List.map_map]
 have:=wN (g:=fun k=>if k=j then row.getD k 0 else 0) (p:=fun j=>decide (0<row.getD j 0)) (fun k hk=>by
  have:=of_decide_eq_false hk
  have:=nn k
  split <;> omega) row.length
 refine this.trans ?_
 rw[vI]
 by_cases h:j<row.length
 ·rw[if_pos h]
 ·rw[if_neg h,List.getD,List.getElem?_eq_none (by omega)]
  rfl
theorem yI {F:List (List Int)} {e:Nat} {row:List Int} (h:F[e]?=some row) (j:Nat):row.getD j 0=fl F e j:=by
 unfold fl
 rw[show F.getD e []=row by rw[List.getD,h]; rfl]
theorem CS {rooms:List Int} {L:List En} {F:List (List Int)} {lf:List Int} (flo:Flo L L.length rooms.length rooms F lf) :
  (F.map rt).length=L.length∧(∀ e,e<L.length→(((F.map rt).getD e []).map Prod.fst).Nodup∧(∀ x∈(F.map rt).getD e [],x.1∈pl L e∧1≤x.2)∧(((F.map rt).getD e []).map Prod.snd).sum=(F.map List.sum).getD e 0)∧∀ j,j<rooms.length→((F.map rt).map fun xs=>wO xs j).sum≤rooms.getD j 0:=by
 have lF:F.length=L.length:=flo.rows.1
 refine⟨by rw[List.length_map,lF],fun e he=>?_,fun j hj=>?_⟩
 ·obtain⟨row,hrow⟩:∃ row,F[e]?=some row:=⟨_,List.getElem?_eq_getElem (by omega)⟩
  have e1:(F.map rt).getD e []=rt row:=by rw[List.getD,List.getElem?_map,hrow]; rfl
  have e2:(F.map List.sum).getD e 0=row.sum:=by rw[List.getD,List.getElem?_map,hrow]; rfl
  rw[e1,e2]
  have nn:∀ j,0≤row.getD j 0:=fun j=>by rw[yI hrow]; exact flo.nn e j
  refine⟨Cm row,fun x hx=>?_,FZ nn⟩
  unfold rt at hx
  obtain⟨j,hj,rfl⟩:=List.mem_map.mp hx
  have h0:=of_decide_eq_true (List.mem_filter.mp hj).2
  refine⟨flo.su e j (by rw[← yI hrow]; exact h0),by show 1≤row.getD j 0; omega⟩
 ·rw[List.map_map]
  have:=flo.col j hj
  have l0:=flo.l0 j
  have ec:(F.map ((fun xs=>wO xs j) ∘ rt)).sum=colS F j:=by
   unfold colS
   refine congrArg List.sum (List.map_congr_left fun row hrow=>?_)
   obtain⟨e,he,hre⟩:=List.getElem_of_mem hrow
   refine GH (fun i=>?_) j
   rw[yI (F:=F) (e:=e) (by rw[← hre]; exact List.getElem?_eq_getElem he)]
   exact flo.nn e i
  rw[ec]
  omega
theorem DQ {K:PySem.W.Frag} {H:Hp} {rooms lf:List Int} {L:List En} {F:List (List Int)} {ok:Addr→Prop} {e:Nat} {v:V} (m60:rooms.length≤60) (h:CutAt L rooms.length rooms F lf H ok e v):∃ d,Rp K H v d∧((F.map List.sum).getD e 0<wt L e→∃ ns:List Int,d=.lst (ns.map Dt.int)∧ns.Nodup∧(∀ x∈ns,∃ j:Nat,x=(j:Int)∧j<rooms.length)∧(pl L e).all (inS ns)=true∧roomS rooms rooms.length (inS ns)=sumG L (fun e=>(F.map List.sum).getD e 0) (inS ns) (e+1)):=by
 rcases h with ⟨rfl,h⟩ | ⟨c,ns,rfl,_,h1,h2,h3,h4,_,h5,h6⟩
 ·exact⟨.non,.non,fun z=>by rw[sum_at] at z; omega⟩
 ·have nd:ns.Nodup:=h3.imp fun h=>by omega
  refine⟨.lst (ns.map Dt.int),yf (SqL.of h1) ?_,fun _=>⟨ns,rfl,nd,h4,?_,?_⟩⟩
  ·have e:=wR (g:=fun _=>1) nd h4
   have l1:(jh rooms.length fun j=>if inS ns j=true then (1:Int) else 0)≤jh rooms.length fun _=>1:=vp fun j _=>by split <;> omega
   have l2:∀ k,jh k (fun _=>(1:Int))=k:=fun k=>by
    induction k with
    | zero=>rfl
    | succ k ih=>rw[iW,ih]; omega
   have l3:∀ l:List Int,(l.map fun _=>(1:Int)).sum=l.length:=fun l=>by
    induction l with
    | nil=>rfl
    | cons x xs ih=>rw[List.map_cons,List.sum_cons,ih,List.length_cons]; omega
   have:=l3 ns
   rw[l2] at l1
   omega
  ·rw[List.all_eq_true]
   exact fun j hj=>decide_eq_true (h5 j hj)
  ·rw[h6]
   exact uQ fun e _=>sum_at.symm
theorem EN {K:PySem.W.Frag} {H:Hp} {t ga ra ca:Addr} {rooms lf:List Int} {L:List En} {F:List (List Int)} {ras:List Addr} {cs:List V} {ok:Addr→Prop} (lok:LnOk rooms.length L) (fnd:Fnd K H t ga ra ca F ras cs) (lcs:cs.length=L.length) (cut:∀ (e:Nat) (v:V),cs[e]?=some v→CutAt L rooms.length rooms F lf H ok e v) (flo:Flo L L.length rooms.length rooms F lf) :
  ∃ cds:List Dt,Rp K H (.ref ga) (.lst ((F.map List.sum).map Dt.int))∧Rp K H (.ref ra) (.lst ((F.map rt).map vL))∧Rp K H (.ref ca) (.lst cds)∧t8 rooms L (.lst ((F.map List.sum).map Dt.int)) (.lst ((F.map rt).map vL)) (.lst cds)=true∧cds.length=L.length∧∀ e,e<L.length→(F.map List.sum).getD e 0<wt L e→∃ ns:List Int,cds.getD e .non=.lst (ns.map Dt.int)∧ns.Nodup∧(∀ x∈ns,∃ j:Nat,x=(j:Int)∧j<rooms.length)∧(pl L e).all (inS ns)=true∧roomS rooms rooms.length (inS ns)=sumG L (fun e=>(F.map List.sum).getD e 0) (inS ns) (e+1):=by
 have l64:=lok.l
 have m60:=lok.m
 have lF:F.length=L.length:=flo.rows.1
 have mo:=BV (K:=K) flo lcs cut
 obtain⟨r1,r2,r3⟩:=CS flo
 have all:∀ (vs:List V) (k:Nat),(∀ (e:Nat) (v:V),vs[e]?=some v→CutAt L rooms.length rooms F lf H ok (k+e) v)→∃ ds,RpAll K H vs ds∧∀ e d,ds[e]?=some d→((F.map List.sum).getD (k+e) 0<wt L (k+e)→∃ ns:List Int,d=.lst (ns.map Dt.int)∧ns.Nodup∧(∀ x∈ns,∃ j:Nat,x=(j:Int)∧j<rooms.length)∧(pl L (k+e)).all (inS ns)=true∧roomS rooms rooms.length (inS ns)=sumG L (fun e=>(F.map List.sum).getD e 0) (inS ns) (k+e+1)):=by
  intro vs
  induction vs with
  | nil=>exact fun k _=>⟨[],.nil,fun e d h=>by cases h⟩
  | cons v vs ih =>
   intro k h
   obtain⟨d,hd,hd2⟩:=DQ (K:=K) m60 (h 0 v rfl)
   obtain⟨ds,hds,hds2⟩:=ih (k+1) fun e v hv=>by
    have:=h (e+1) v hv
    rwa [show k+(e+1)=k+1+e by omega] at this
   refine⟨d::ds,.cons hd hds,fun e d' hd'=>?_⟩
   cases e with
   | zero=>cases hd'; exact hd2
   | succ e =>
    have:=hds2 e d' hd'
    rwa [show k+1+e=k+(e+1) by omega] at this
 obtain⟨cds,hA,hc⟩:=all cs 0 fun e v hv=>by rw[Nat.zero_add]; exact cut e v hv
 have lcd:cds.length=L.length:=by rw[← hA.len,lcs]
 have hc':∀ e,e<L.length→(F.map List.sum).getD e 0<wt L e→∃ ns:List Int,cds.getD e .non=.lst (ns.map Dt.int)∧ns.Nodup∧(∀ x∈ns,∃ j:Nat,x=(j:Int)∧j<rooms.length)∧(pl L e).all (inS ns)=true∧roomS rooms rooms.length (inS ns)=sumG L (fun e=>(F.map List.sum).getD e 0) (inS ns) (e+1):=fun e he hlt=>by
  have:=hc e _ (List.getElem?_eq_getElem (by omega))
  rw[Nat.zero_add] at this
  rw[My.getD_at (by omega)]
  exact this hlt
 refine⟨cds,yf (SqL.of fnd.g) (by rw[List.length_map]; omega),?_,.lst (SqL.of fnd.c) hA (by omega),Gk mo r1 lcd r2 r3 hc',lcd,hc'⟩
 have rall:∀ {rs:List Addr} {F':List (List Int)},Paired (fun r row=>∃ us,H r=some (.lst us)∧RtAt K H us (rt row)) rs F'→(∀ row∈F',row.length≤60)→RpAll K H (rs.map V.ref) ((F'.map rt).map vL):=by
  intro rs F' h
  induction h with
  | nil=>exact fun _=>.nil
  | cons hh _ ih =>
   intro hl
   obtain⟨us,h1,h2⟩:=hh
   refine .cons (.lst (SqL.of h1) (FQ h2) ?_) (ih fun row hr=>hl row (List.mem_cons_of_mem _ hr))
   rw[List.length_map]
   exact Nat.le_trans (zV rfl) (Nat.le_trans (hl _ List.mem_cons_self) (by decide))
 refine .lst (SqL.of fnd.r) (rall fnd.rs fun row hr=>by rw[flo.rows.2 row hr]; omega) ?_
 rw[List.length_map,List.length_map]
 omega
end MyA1
namespace MyA2
open My MyB MyC MyD MyE MyF MyG MyS MyI MyJ MyK MyT MyU MyV MyW MyX MyY MyZ MyA1 PySem L2
def top (i:Nat):Stmt:=PySem.Challenge.pw_tariffgate_k67_whole_no_other.main.body.getD i (.Pass ⟨0,0,0,0⟩)
theorem eY:(("_law_others":Str) == ("__debug__":Str))=false:=by decide
theorem eZ:(("_law_others":Str) == ("__classdict__":Str))=false:=by decide
theorem oH:(("_law_rooms":Str) == ("__debug__":Str))=false:=by decide
theorem qE:(("_law_line":Str) == ("__debug__":Str))=false:=by decide
theorem nA:(("served":Str) == ("__debug__":Str))=false:=by decide
theorem rq:(("_law_due":Str) == ("__debug__":Str))=false:=by decide
theorem qF:(("_law_cuts":Str) == ("__debug__":Str))=false:=by decide
theorem oJ:(("_law_other":Str) == ("__debug__":Str))=false:=by decide
theorem ig:(("_law_not_let":Str) == ("__debug__":Str))=false:=by decide
abbrev am:Stmt:=top 34
theorem bQ:FnScope ["_law_script","_law_rooms_here","_law_line_here","_law_found","_law_due_here","_law_own","_law_back","_law_every","_law_others","_law_k","_law_granted","_law_routes","_law_cell_here","_law_cuts_here","_law_told"] ["_law_script"] (defScope am):=⟨rfl,rfl,rfl,by decide +kernel,rfl,by decide +kernel,by decide +kernel⟩
theorem iV:Vis (defScope am) "_law_script":=by decreasing_trivial
theorem dz:Vis (defScope am) "_law_rooms_here":=by decreasing_trivial
theorem tP:Loc (defScope am) "_law_rooms_here":=by first | exact Or.inl rfl | exact Or.inr rfl
theorem dA:Vis (defScope am) "_law_line_here":=by decreasing_trivial
theorem rF:Loc (defScope am) "_law_line_here":=by first | exact Or.inl rfl | exact Or.inr rfl
theorem gq:Vis (defScope am) "_law_found":=by decreasing_trivial
theorem tQ:Loc (defScope am) "_law_found":=by first | exact Or.inl rfl | exact Or.inr rfl
theorem mW:Vis (defScope am) "_law_due_here":=by decreasing_trivial
theorem tR:Loc (defScope am) "_law_due_here":=by first | exact Or.inl rfl | exact Or.inr rfl
theorem tS:Vis (defScope am) "_law_own":=by decreasing_trivial
theorem tT:Loc (defScope am) "_law_own":=by first | exact Or.inl rfl | exact Or.inr rfl
theorem kn:Vis (defScope am) "_law_back":=by decreasing_trivial
theorem tU:Loc (defScope am) "_law_back":=by first | exact Or.inl rfl | exact Or.inr rfl
theorem tV:Vis (defScope am) "_law_every":=by decreasing_trivial
theorem tW:Loc (defScope am) "_law_every":=by first | exact Or.inl rfl | exact Or.inr rfl
theorem mX:Vis (defScope am) "_law_others":=by decreasing_trivial
theorem tX:Loc (defScope am) "_law_others":=by first | exact Or.inl rfl | exact Or.inr rfl
theorem mY:Vis (defScope am) "_law_k":=by decreasing_trivial
theorem rG:Loc (defScope am) "_law_k":=by first | exact Or.inl rfl | exact Or.inr rfl
theorem jc:Vis (defScope am) "_law_granted":=by decreasing_trivial
theorem qG:Loc (defScope am) "_law_granted":=by first | exact Or.inl rfl | exact Or.inr rfl
theorem qH:Vis (defScope am) "_law_routes":=by decreasing_trivial
theorem qI:Loc (defScope am) "_law_routes":=by first | exact Or.inl rfl | exact Or.inr rfl
theorem tj:Vis (defScope am) "_law_cell_here":=by decreasing_trivial
theorem tm:Loc (defScope am) "_law_cell_here":=by first | exact Or.inl rfl | exact Or.inr rfl
theorem tq:Vis (defScope am) "_law_cuts_here":=by decreasing_trivial
theorem tu:Loc (defScope am) "_law_cuts_here":=by first | exact Or.inl rfl | exact Or.inr rfl
theorem tD:Vis (defScope am) "_law_told":=by decreasing_trivial
theorem tE:Loc (defScope am) "_law_told":=by first | exact Or.inl rfl | exact Or.inr rfl
theorem lh:(defScope am).names.lookup ("_law_rooms":Str)=some .globalImplicit:=by rfl
theorem lV:(defScope am).names.lookup ("_law_line":Str)=some .globalImplicit:=by rfl
theorem ii:(defScope am).names.lookup ("len":Str)=some .globalImplicit:=by rfl
theorem fu:(defScope am).names.lookup ("range":Str)=some .globalImplicit:=by rfl
theorem eF:(defScope am).names.lookup ("_law_cell":Str)=some .globalImplicit:=by rfl
theorem kj:(defScope am).names.lookup ("served":Str)=some .globalImplicit:=by rfl
theorem jd:(defScope am).names.lookup ("list":Str)=some .globalImplicit:=by rfl
theorem eI:(defScope am).names.lookup ("_law_copy":Str)=some .globalImplicit:=by rfl
theorem mZ:(defScope am).names.lookup ("_law_due":Str)=some .globalImplicit:=by rfl
theorem lq:(defScope am).names.lookup ("_law_other":Str)=some .globalImplicit:=by rfl
theorem lW:(defScope am).names.lookup ("_law_cuts":Str)=some .globalImplicit:=by rfl
theorem fM:(defScope am).names.lookup ("_law_not_let":Str)=some .globalImplicit:=by rfl
theorem oK:(defScope am).names.lookup ("lets_by":Str)=some .globalImplicit:=by rfl
theorem D9 {rooms G:List Int} {L:List En} {dr dc:Dt} (lok:LnOk rooms.length L) (h:t8 rooms L (.lst (G.map Dt.int)) dr dc=true):Most rooms L G:=by
 have h0:=h
 unfold t8 at h0
 rw[Bool.and_eq_true,Bool.and_eq_true,Bool.and_eq_true] at h0
 obtain⟨rs,rfl,lr⟩:=vS h0.1.2.1
 obtain⟨cs,rfl,lc⟩:=vS h0.1.2.2
 have l1:(G.map Dt.int).length=L.length:=of_decide_eq_true h0.1.1
 have:=DZ lok l1 lr lc h
 rwa [List.map_map,show (G.map (intOf ∘ Dt.int))=G from List.map_id' G] at this
theorem Iz {s1 s2 s3 tl:TS} {D:Ends} {σ:St} {H:Hp} (h:∀ tl',tl'=tl→lK s1 (lK s2 (lK s3 tl')) D σ H):lK s1 (lK s2 (lK s3 tl)) D σ H:=h tl rfl
theorem Ip {s1 s2 s3 s4 s5 tl:TS} {D:Ends} {σ:St} {H:Hp} (h:∀ tl',tl'=tl→lK s1 (lK s2 (lK s3 (lK s4 (lK s5 tl')))) D σ H):lK s1 (lK s2 (lK s3 (lK s4 (lK s5 tl)))) D σ H:=h tl rfl
theorem zp {α β:Type} {R:α→β→Prop}:∀ {xs:List α} {ys:List β},Paired R xs ys→Paired R xs.reverse ys.reverse
 | _,_,.nil=>.nil
 | _,_,.cons r t=>by rw[List.reverse_cons,List.reverse_cons]; exact vd r (zp t)
def OthV (K:PySem.W.Frag) (H:Hp) (ot:Addr) (v:V):Prop:=∃ (t g r:Addr) (G:List Int) (rv:List V),v=.ref t∧SqT K H t [.ref g,.ref r]∧H g=some (.lst (G.map V.int))∧G.length≤64∧g≠ot∧H r=some (.lst rv)∧rv.length≤64∧r≠ot∧∀ v∈rv,RtV K H 100 (fun r=>r≠ot) v
theorem OthV.same {K:PySem.W.Frag} {H H':Hp} {ot:Addr} {v:V} (h:OthV K H ot v) (e:Same H H'):OthV K H' ot v:=by
 obtain⟨t,g,r,G,rv,h1,h2,h3,h4,h5,h6,h7,h8,h9⟩:=h
 exact⟨t,g,r,G,rv,h1,Same.tup e h2,e _ _ h3,h4,h5,e _ _ h6,h7,h8,fun v hv=>(h9 v hv).same e⟩
theorem OthV.upd {K:PySem.W.Frag} {H:Hp} {ot:Addr} {v:V} {ys zs:List V} (h:OthV K H ot v) (hD:H ot=some (.lst ys)):OthV K (L2.upd H ot (.lst zs)) ot v:=by
 obtain⟨t,g,r,G,rv,h1,h2,h3,h4,h5,h6,h7,h8,h9⟩:=h
 exact⟨t,g,r,G,rv,h1,ur hD (fun ys z=>by cases z) (fun _ _ z=>by cases z) h2,by rw[fj h5]; exact h3,h4,h5,by rw[fj h8]; exact h6,h7,h8,fun v hv=>(h9 v hv).upd hD fun r h=>h⟩
theorem Ig {K:PySem.W.Frag} {H:Hp} {r:Addr} {rv:List V} {ok:Addr→Prop} (h:H r=some (.lst rv)) (l:rv.length≤64) (hv:∀ v∈rv,RtV K H 100 ok v):∃ d,Rp K H (.ref r) d:=by
 obtain⟨ds,hds⟩:=Ae fun v hv'=>(hv v hv').rp (by decide)
 exact⟨_,.lst (SqL.of h) hds (by rw[← hds.len]; omega)⟩
theorem Fk {K:PySem.W.Frag} {H:Hp} {r:Addr} {rv:List V} (h:SqL K H r rv) (l:rv.length≤64) (hv:∀ v∈rv,CuV K H v):∃ d,Rp K H (.ref r) d:=by
 obtain⟨ds,hds⟩:=Ae fun v hv'=>(hv v hv').rp
 exact⟨_,.lst h hds (by rw[← hds.len]; omega)⟩
theorem BO {K:PySem.W.Frag} {H:Hp} {rooms lf:List Int} {L:List En} {F:List (List Int)} {ok:Addr→Prop} {cs:List V} (m6:rooms.length≤60) (h:∀ (e:Nat) (v:V),cs[e]?=some v→CutAt L rooms.length rooms F lf H ok e v):∀ v∈cs,CuV K H v:=fun v hv=>by
 obtain⟨e,he,rfl⟩:=List.getElem_of_mem hv
 obtain⟨d,hd,_⟩:=DQ (K:=K) m6 (h e _ (List.getElem?_eq_getElem he))
 rcases h e _ (List.getElem?_eq_getElem he) with ⟨z,_⟩ | ⟨c,ns,z,_,h1,_⟩
 ·exact .inl z
 ·rw[z] at hd ⊢
  refine .inr ⟨c,ns,rfl,SqL.of h1,?_⟩
  rcases h e _ (List.getElem?_eq_getElem he) with ⟨z',_⟩ | ⟨c',ns',z',_,h1',_,h3',h4',_⟩
  ·rw[z] at z'; cases z'
  ·rw[z] at z'
   cases z'
   rw[h1] at h1'
   have en:ns.map V.int=ns'.map V.int:=by injection h1' with h1'; injection h1'
   have ln:ns.length=ns'.length:=by have:=congrArg List.length en; rwa [List.length_map,List.length_map] at this
   have nd:ns'.Nodup:=h3'.imp fun h=>by omega
   have e:=wR (g:=fun _=>1) nd h4'
   have l1:(jh rooms.length fun j=>if inS ns' j=true then (1:Int) else 0)≤jh rooms.length fun _=>1:=vp fun j _=>by split <;> omega
   have l2:∀ k,jh k (fun _=>(1:Int))=k:=fun k=>by
    induction k with
    | zero=>rfl
    | succ k ih=>rw[iW,ih]; omega
   have l3:∀ l:List Int,(l.map fun _=>(1:Int)).sum=l.length:=fun l=>by
    induction l with
    | nil=>rfl
    | cons x xs ih=>rw[List.map_cons,List.sum_cons,ih,List.length_cons]; omega
   have:=l3 ns'
   rw[l2] at l1
   omega
section
variable {P:Program} {w:World} {K:PySem.W.Frag} {mg:Str→Option Value} {base:Heap} {f:Addr} {fd:FuncData}
theorem G9 (F:Fun K "law" "law" am f fd) (M:Mg mg) (je:Cal P w K mg base CX0 "served" 4 ["rooms","line"] (xY K)) (dQ:Cal P w K mg base CX0 "lets_by" 5 ["rooms","line","granted","routes","cuts"] (wJ K)) (bb:Cal P w K mg base CX0 "_law_cell" 1 ["_law_script","_law_k"] (wY K)) (iE:Cal P w K mg base CX0 "_law_rooms" 2 ["_law_script"] (yV K)) (jf:Cal P w K mg base CX0 "_law_line" 2 ["_law_script","_law_many"] (AH K)) (cE:Cal P w K mg base CX0 "_law_copy" 1 ["_law_line_here"] (wL K)) (km:Cal P w K mg base CX0 "_law_due" 1 ["_law_rooms_here","_law_line_here"] (CY K)) (iF:Cal P w K mg base CX0 "_law_other" 2 ["_law_line_here","_law_found","_law_cell_here"] (zd K)) (jg:Cal P w K mg base CX0 "_law_cuts" 1 ["_law_line_here","_law_told","_law_own","_law_back","_law_every","_law_cell_here"] (yJ K)) (dJ:Cal P w K mg base CX0 "_law_not_let" 6 ["_law_rooms_here","_law_line_here","_law_granted","_law_routes","_law_cuts_here"] (x9 K)):FnOk P w K mg base CX0 7 f fd ["_law_script"] (zR K):=by
 refine F.ok bQ (fun vs H Q E h=>?_) (fun cdv A outer s H vs Q E hr h=>?_)
 ·obtain⟨a,ns,rfl,_⟩:=h
  rfl
 obtain⟨a,ns,rfl,hS,n63,q⟩:=h
 refine⟨_,(@ff _ _ _ _ _ (@gI _ _ 1 _ _ _ _ bQ.nd rfl tP (@gv _ _ _ _ _ _ _ _ _ _ _ iE hr lh (@cT _ _ _ _ _ (@cg _ 0 _ _ rfl iV aB aC) (@dB _) (di rfl)) (by decide) oH (di rfl) fD) (gG rfl) (.inl rfl)) (@ff _ _ _ _ _ (@gI _ _ 2 _ _ _ _ bQ.nd rfl rF (@gv _ _ _ _ _ _ _ _ _ _ _ jf hr lV (@cT _ _ _ _ _ (@cg _ 0 _ _ rfl iV aB aC) (@cT _ _ _ _ _ (@fZ _ _ _ _ _ _ _ _ _ gJ ii M.m_len nj (@cT _ _ _ _ _ (@cg _ 1 _ _ rfl dz aj ak) (@dB _) (di rfl)) aF aE (di rfl) fD) (@dB _) (di rfl)) (di rfl)) (by decide) qE (di rfl) (gw rfl fD)) (gG rfl) (.inl rfl)) (@ff _ _ _ _ _ (@nS _ _ _ _ _ _ _ _ (@jj _ _ _ _ _ _ _ _ (@t9 _) (@fZ _ _ _ _ _ _ _ _ _ gJ ii M.m_len nj (@cT _ _ _ _ _ (@cg _ 2 _ _ rfl dA aa ae) (@dB _) (di rfl)) aF aE (di rfl) fD) (@dR _ _ _ _) (iG _)) (@fL _ _ _ (@gI _ _ 2 _ _ _ _ bQ.nd rfl rF (@rC _ _ _ _ (@cT _ _ _ _ _ (@qt _ _ _ _ _ (@cT _ _ _ _ _ (@lB _ _ _ _ _ _ _ _ _ _ _ _ _ _ _ rfl (CompOk.make (N':=["_law_k"]) (ix:=[]) (nl:=1) (by rfl) fm0 (by rfl) (by decide +kernel) rfl (by decide +kernel) rfl True.intro) (@pA _ _ _ _ _ _ fu M.m_range (@cT _ _ _ _ _ (@fZ _ _ _ _ _ _ _ _ _ gJ ii M.m_len nj (@cT _ _ _ _ _ (@cg _ 1 _ _ rfl dz aj ak) (@dB _) (di rfl)) aF aE (di rfl) fD) (@dB _) (di rfl)) (star1' rfl)) (fun _ _ _ _ _=>(@fT _ _ 0 _ (show List.Nodup (["_law_k"]:List Str) from by decide) rfl (Or.inl rfl) (by first | exact .inl rfl | exact .inr rfl | assumption))) (fun _ _ _ _ _=>(@mH _)) (fun _ _ _ _ _=>(@pv _ 0 _ _ (by rfl) (by decreasing_trivial) (by decide) (by decide))) (by intro _; rfl)) (@cT _ _ _ _ _ (@gj _ _ _ _ _ _ _ _ (@ni _) (@dR _ _ _ _) (@gj _ _ _ _ _ _ _ _ (@nk _) (@gv _ _ _ _ _ _ _ _ _ _ _ bb hr eF (@cT _ _ _ _ _ (@cg _ 0 _ _ rfl iV aB aC) (@cT _ _ _ _ _ (@dR _ _ _ _) (@dB _) (di rfl)) (di rfl)) (by decide) bO (di rfl) (gw rfl fD)) (@dR _ _ _ _))) (@dB _) (di rfl)) (di rfl))) (@dB _) (di rfl))) (gG rfl) (.inl rfl))) (@kN _)) (@ff _ _ _ _ _ (@gI _ _ 3 _ _ _ _ bQ.nd rfl tQ (@gv _ _ _ _ _ _ _ _ _ _ _ je hr kj (@cT _ _ _ _ _ (@nt _ _ _ _ _ _ _ _ _ pZ jd M.m_list r8 (@cT _ _ _ _ _ (@cg _ 1 _ _ rfl dz aj ak) (@dB _) (di rfl)) bq bo (di rfl) fD) (@cT _ _ _ _ _ (@gv _ _ _ _ _ _ _ _ _ _ _ cE hr eI (@cT _ _ _ _ _ (@cg _ 2 _ _ rfl dA aa ae) (@dB _) (di rfl)) (by decide) dk (di rfl) fD) (@dB _) (di rfl)) (di rfl)) (by decide) nA (di rfl) (gw rfl fD)) (gG rfl) (.inl rfl)) (@ff _ _ _ _ _ (@uB _ _ _ _ _ _ (@gv _ _ _ _ _ _ _ _ _ _ _ km hr mZ (@cT _ _ _ _ _ (@cg _ 1 _ _ rfl dz aj ak) (@cT _ _ _ _ _ (@cg _ 2 _ _ rfl dA aa ae) (@dB _) (di rfl)) (di rfl)) (by decide) rq (di rfl) (gw rfl fD)) (@ve _ _ _ _ _ _ rfl (@ia _ _ _ _ _ (@fT _ _ 4 _ bQ.nd rfl tR (.inl rfl)) (@ia _ _ _ _ _ (@fT _ _ 5 _ bQ.nd rfl tT (.inl rfl)) (@pB _) (by rfl)) (by rfl)) (by rfl) (by rfl)) (by rfl) (by rfl) (by rfl)) (@ff _ _ _ _ _ (@gI _ _ 6 _ _ _ _ bQ.nd rfl tU (@gv _ _ _ _ _ _ _ _ _ _ _ je hr kj (@cT _ _ _ _ _ (@nt _ _ _ _ _ _ _ _ _ pZ jd M.m_list r8 (@cT _ _ _ _ _ (@cg _ 1 _ _ rfl dz aj ak) (@dB _) (di rfl)) bq bo (di rfl) fD) (@cT _ _ _ _ _ (@gv _ _ _ _ _ _ _ _ _ _ _ cE hr eI (@cT _ _ _ _ _ (@vB _ _ _ _ _ _ _ (@cg _ 2 _ _ rfl dA aa ae) (@uX _ _ _ (@vF _ _ _ _ _ _ (@u7 _) (@dR _ _ _ _)))) (@dB _) (di rfl)) (by decide) dk (di rfl) fD) (@dB _) (di rfl)) (di rfl)) (by decide) nA (di rfl) (gw rfl fD)) (gG rfl) (.inl rfl)) (@ff _ _ _ _ _ (@uu _ _ _ _ _ _ _ _ _ _ _ _ _ _ _ 7 _ _ _ bQ.nd rfl tW rfl (CompOk.make (N':=["_law_k"]) (ix:=[]) (nl:=1) (by rfl) fm0 (by rfl) (by decide +kernel) rfl (by decide +kernel) rfl True.intro) (@pA _ _ _ _ _ _ fu M.m_range (@cT _ _ _ _ _ (@fZ _ _ _ _ _ _ _ _ _ gJ ii M.m_len nj (@cT _ _ _ _ _ (@cg _ 1 _ _ rfl dz aj ak) (@dB _) (di rfl)) aF aE (di rfl) fD) (@dB _) (di rfl)) (star1' rfl)) (fun _ _ _ _ _=>(@fT _ _ 0 _ (show List.Nodup (["_law_k"]:List Str) from by decide) rfl (Or.inl rfl) (by first | exact .inl rfl | exact .inr rfl | assumption))) (fun _ _ _ _ _=>(@mH _)) (fun _ _ _ _ _=>(@pv _ 0 _ _ (by rfl) (by decreasing_trivial) (by decide) (by decide))) (by rfl) (by intro _; rfl) (by first | exact .inl rfl | exact .inr rfl | assumption)) (@ff _ _ _ _ _ (@gI _ _ 8 _ _ _ _ bQ.nd rfl tX (@rC _ _ _ _ (@cT _ _ _ _ _ (@qt _ _ _ _ _ (@cT _ _ _ _ _ (@vB _ _ _ _ _ _ _ (@gf _ _ _ _ _ _ _ (@jl _) (@cg _ 6 _ _ rfl kn cJ cK) (@dR _ _ _ _) (fun _ _=>rfl)) (@uX _ _ _ (@vF _ _ _ _ _ _ (@u7 _) (@dR _ _ _ _)))) (@cT _ _ _ _ _ (@vB _ _ _ _ _ _ _ (@gf _ _ _ _ _ _ _ (@jl _) (@cg _ 6 _ _ rfl kn cJ cK) (@dR _ _ _ _) (fun _ _=>rfl)) (@uX _ _ _ (@vF _ _ _ _ _ _ (@u7 _) (@dR _ _ _ _)))) (@dB _) (di rfl)) (di rfl))) (@dB _) (di rfl))) (gG rfl) (.inl rfl)) (@ff _ _ _ _ _ (@rB _ _ _ _ _ _ _ _ PassesOwn.never rfl (@pA _ _ _ _ _ _ fu M.m_range (@cT _ _ _ _ _ (@dR _ _ _ _) (@dB _) (di rfl)) (star1' rfl)) (@fT _ _ 9 _ bQ.nd rfl rG (.inl rfl)) (@fL _ _ _ (@tM _ _ _ _ (@uS _ _ _ _ _ _ _ _ _ _ _ _ PySem.F.plainAttrs_list PySem.F.slot_list_append PySem.F.type_list_append pD (@cg _ 8 _ _ rfl mX eY eZ) (@cT _ _ _ _ _ (@gv _ _ _ _ _ _ _ _ _ _ _ iF hr lq (@cT _ _ _ _ _ (@cg _ 2 _ _ rfl dA aa ae) (@cT _ _ _ _ _ (@cg _ 3 _ _ rfl gq aM aN) (@cT _ _ _ _ _ (@gv _ _ _ _ _ _ _ _ _ _ _ bb hr eF (@cT _ _ _ _ _ (@cg _ 0 _ _ rfl iV aB aC) (@cT _ _ _ _ _ (@gj _ _ _ _ _ _ _ _ (@ni _) (@dR _ _ _ _) (@cg _ 9 _ _ rfl mY aq au)) (@dB _) (di rfl)) (di rfl)) (by decide) bO (di rfl) (gw rfl fD)) (@dB _) (di rfl)) (di rfl)) (di rfl)) (by decide) oJ (di rfl) (gw rfl (gw rfl fD))) (@dB _) (di rfl)) (by rfl) (by rfl) (by rfl) (by rfl) (by rfl)) (gG rfl))) (by intro _; rfl)) (@ff _ _ _ _ _ (@rB _ _ _ _ _ _ _ _ PassesOwn.never rfl (@pA _ _ _ _ _ _ fu M.m_range (@cT _ _ _ _ _ (@dR _ _ _ _) (@dB _) (di rfl)) (star1' rfl)) (@fT _ _ 9 _ bQ.nd rfl rG (.inl rfl)) (@ff _ _ _ _ _ (@uB _ _ _ _ _ _ (@gf _ _ _ _ _ _ _ (@gK _) (@cg _ 8 _ _ rfl mX eY eZ) (@cg _ 9 _ _ rfl mY aq au) (fun _ _=>rfl)) (@ve _ _ _ _ _ _ rfl (@ia _ _ _ _ _ (@fT _ _ 10 _ bQ.nd rfl qG (.inl rfl)) (@ia _ _ _ _ _ (@fT _ _ 11 _ bQ.nd rfl qI (.inl rfl)) (@pB _) (by rfl)) (by rfl)) (by rfl) (by rfl)) (by rfl) (by rfl) (by rfl)) (@ff _ _ _ _ _ (@gI _ _ 12 _ _ _ _ bQ.nd rfl tm (@gv _ _ _ _ _ _ _ _ _ _ _ bb hr eF (@cT _ _ _ _ _ (@cg _ 0 _ _ rfl iV aB aC) (@cT _ _ _ _ _ (@gj _ _ _ _ _ _ _ _ (@ni _) (@dR _ _ _ _) (@cg _ 9 _ _ rfl mY aq au)) (@dB _) (di rfl)) (di rfl)) (by decide) bO (di rfl) (gw rfl fD)) (gG rfl) (.inl rfl)) (@ff _ _ _ _ _ (@gI _ _ 13 _ _ _ _ bQ.nd rfl tu (@gv _ _ _ _ _ _ _ _ _ _ _ jg hr lW (@cT _ _ _ _ _ (@cg _ 2 _ _ rfl dA aa ae) (@cT _ _ _ _ _ (@gf _ _ _ _ _ _ _ (@jl _) (@cg _ 3 _ _ rfl gq aM aN) (@dR _ _ _ _) (fun _ _=>rfl)) (@cT _ _ _ _ _ (@cg _ 5 _ _ rfl tS iu iy) (@cT _ _ _ _ _ (@vB _ _ _ _ _ _ _ (@gf _ _ _ _ _ _ _ (@jl _) (@cg _ 6 _ _ rfl kn cJ cK) (@dR _ _ _ _) (fun _ _=>rfl)) (@uX _ _ _ (@vF _ _ _ _ _ _ (@u7 _) (@dR _ _ _ _)))) (@cT _ _ _ _ _ (@cg _ 7 _ _ rfl tV fW fX) (@cT _ _ _ _ _ (@cg _ 12 _ _ rfl tj az aA) (@dB _) (di rfl)) (di rfl)) (di rfl)) (di rfl)) (di rfl)) (di rfl)) (by decide) qF (di rfl) (gw rfl (gw rfl (gw rfl (gw rfl (gw rfl fD)))))) (gG rfl) (.inl rfl)) (@fL _ _ _ (@nS _ _ _ _ _ _ _ _ (@PW.pt _ _ _ (@vC _ _ _ _ _ _ _ (@jj _ _ _ _ _ _ _ _ (@Ed _ (Nat.lt_of_succ_lt (u6 hr))) (@cg _ 10 _ _ rfl jc ax ay) (@cg _ 4 _ _ rfl mW bS bT) (iG _)) (@vt _ _ _ _ (@tO _ _ _ _ (@sG _ _ _ (@gv _ _ _ _ _ _ _ _ _ _ _ dJ hr fM (@cT _ _ _ _ _ (@cg _ 1 _ _ rfl dz aj ak) (@cT _ _ _ _ _ (@cg _ 2 _ _ rfl dA aa ae) (@cT _ _ _ _ _ (@cg _ 10 _ _ rfl jc ax ay) (@cT _ _ _ _ _ (@cg _ 11 _ _ rfl qH aS aT) (@cT _ _ _ _ _ (@cg _ 13 _ _ rfl tq aX aY) (@dB _) (di rfl)) (di rfl)) (di rfl)) (di rfl)) (di rfl)) (by decide) ig (di rfl) (gw rfl (gw rfl (gw rfl (gw rfl fD))))) (um rfl)))))) (@fL _ _ _ (@ic _ _ _ _ (@uv _ _ _ _))) (@kN _)))))) (by intro _; rfl)) (@ff _ _ _ _ _ (@uB _ _ _ _ _ _ (@gf _ _ _ _ _ _ _ (@gK _) (@cg _ 8 _ _ rfl mX eY eZ) (@dR _ _ _ _) (fun _ _=>rfl)) (@ve _ _ _ _ _ _ rfl (@ia _ _ _ _ _ (@fT _ _ 10 _ bQ.nd rfl qG (.inl rfl)) (@ia _ _ _ _ _ (@fT _ _ 11 _ bQ.nd rfl qI (.inl rfl)) (@pB _) (by rfl)) (by rfl)) (by rfl) (by rfl)) (by rfl) (by rfl) (by rfl)) (@ff _ _ _ _ _ (@nS _ _ _ _ _ _ _ _ (@PW.pt _ _ _ (@vC _ _ _ _ _ _ _ (@jj _ _ _ _ _ _ _ _ (@Ed _ (Nat.lt_of_succ_lt (u6 hr))) (@cg _ 10 _ _ rfl jc ax ay) (@cg _ 4 _ _ rfl mW bS bT) (iG _)) (@vt _ _ _ _ (@tO _ _ _ _ (@sG _ _ _ (@gv _ _ _ _ _ _ _ _ _ _ _ dJ hr fM (@cT _ _ _ _ _ (@cg _ 1 _ _ rfl dz aj ak) (@cT _ _ _ _ _ (@cg _ 2 _ _ rfl dA aa ae) (@cT _ _ _ _ _ (@cg _ 10 _ _ rfl jc ax ay) (@cT _ _ _ _ _ (@cg _ 11 _ _ rfl qH aS aT) (@cT _ _ _ _ _ (@vB _ _ _ _ _ _ _ (@gf _ _ _ _ _ _ _ (@jl _) (@cg _ 6 _ _ rfl kn cJ cK) (@dR _ _ _ _) (fun _ _=>rfl)) (@uX _ _ _ (@vF _ _ _ _ _ _ (@u7 _) (@dR _ _ _ _)))) (@dB _) (di rfl)) (di rfl)) (di rfl)) (di rfl)) (di rfl)) (by decide) ig (di rfl) (gw rfl (gw rfl (gw rfl (gw rfl fD))))) (um rfl)))))) (@fL _ _ _ (@ic _ _ _ _ (@uv _ _ _ _))) (@kN _)) (@ff _ _ _ _ _ (@gI _ _ 14 _ _ _ _ bQ.nd rfl tE (@gv _ _ _ _ _ _ _ _ _ _ _ dQ hr oK (@cT _ _ _ _ _ (@nt _ _ _ _ _ _ _ _ _ pZ jd M.m_list r8 (@cT _ _ _ _ _ (@cg _ 1 _ _ rfl dz aj ak) (@dB _) (di rfl)) bq bo (di rfl) fD) (@cT _ _ _ _ _ (@gv _ _ _ _ _ _ _ _ _ _ _ cE hr eI (@cT _ _ _ _ _ (@cg _ 2 _ _ rfl dA aa ae) (@dB _) (di rfl)) (by decide) dk (di rfl) fD) (@cT _ _ _ _ _ (@gf _ _ _ _ _ _ _ (@jl _) (@cg _ 3 _ _ rfl gq aM aN) (@dR _ _ _ _) (fun _ _=>rfl)) (@cT _ _ _ _ _ (@gf _ _ _ _ _ _ _ (@jl _) (@cg _ 3 _ _ rfl gq aM aN) (@dR _ _ _ _) (fun _ _=>rfl)) (@cT _ _ _ _ _ (@gf _ _ _ _ _ _ _ (@jl _) (@cg _ 3 _ _ rfl gq aM aN) (@dR _ _ _ _) (fun _ _=>rfl)) (@dB _) (di rfl)) (di rfl)) (di rfl)) (di rfl)) (di rfl)) (by decide) jb (di rfl) (gw rfl (gw rfl (gw rfl (gw rfl fD))))) (gG rfl) (.inl rfl)) (@fL _ _ _ (@ic _ _ _ _ (@vf _ _ _ _ _ _ _ (@qp _ _ _ _ _ _ _ _ (@Hy _ (Nat.lt_of_succ_lt (u6 hr))) (@gf _ _ _ _ _ _ _ (@jl _) (@cg _ 3 _ _ rfl gq aM aN) (@dR _ _ _ _) (fun _ _=>rfl)) (@cg _ 4 _ _ rfl mW bS bT) (iG _)) (@vE _ _ _ _ _ (@qp _ _ _ _ _ _ _ _ (@DG _) (@cg _ 14 _ _ rfl tD eD eE) (@uv _ _ _ _) (iG _))))))))))))))))))),?_⟩
 refine Iz fun tl htl=>?_
 have tail:∀ (rm l:Addr) (rooms:List Int) (L:List En) (H1:Hp),Same H H1→SqL K H1 rm (rooms.map V.int)→rooms.length≤6→(∀ x∈rooms,0≤x)→LnAt K H1 l L→LnL rooms.length L→0<L.length→tl { nx:=fun _ H'=>Q .non H',rt:=Q } [some (.ref a),some (.ref rm),some (.ref l),none,none,none,none,none,none,none,none,none,none,none,none] H1:=by
  intro rm l rooms L H1 e1 hrm m6 r0 hL ln l0
  rw[htl]
  have lok:=Ii ln m6
  have l64:=lok.l
  refine Ip fun tl2 htl2=>?_
  have tail2:∀ (H2:Hp) (t ga ra ca du ow t' ga' ra' ca' ev ot p3 p q2:Addr) (lf lf' G:List Int) (Fl Fl':List (List Int)) (ras ras':List Addr) (cs cs' own:List V) (ok ok':Addr→Prop),Same H H2→SqL K H2 rm (rooms.map V.int)→LnAt K H2 l L→Fnd K H2 t ga ra ca Fl ras cs→cs.length=L.length→(∀ (e:Nat) (v:V),cs[e]?=some v→CutAt L rooms.length rooms Fl lf H2 ok e v)→Flo L L.length rooms.length rooms Fl lf →
    SqL K H2 du (G.map V.int)→Most rooms L G→SqL K H2 ow own→own.length=L.length→(∀ (e:Nat) (v:V),own[e]?=some v→CutN K H2 rooms L G e v)→Fnd K H2 t' ga' ra' ca' Fl' ras' cs'→cs'.length=L.length→(∀ v∈cs',CuV K H2 v)→Rows L.length rooms.length Fl'→SqL K H2 ev ((rgI rooms.length).map V.int) →
    SqT K H2 p3 [.ref p,.ref q2]→H2 p=some (.lst ((Fl'.map List.sum).map V.int).reverse)→H2 q2=some (.lst (ras'.map V.ref).reverse)→H2 ot=none→tl2 { nx:=fun _ H'=>Q .non H',rt:=Q } [some (.ref a),some (.ref rm),some (.ref l),some (.ref t),some (.ref du),some (.ref ow),some (.ref t'),some (.ref ev),some (.ref ot),none,none,none,none,none,none] (upd H2 ot (.lst [.ref p3])):=by
   intro H2 t ga ra ca du ow t' ga' ra' ca' ev ot p3 p q2 lf lf' G Fl Fl' ras ras' cs cs' own ok ok' e2 hrm2 hL2 fnd lcs cut flo hdu mo how lown cown fnd' lcs' cu' R' hev T3 dp dq hot
   rw[htl2]
   have lF':Fl'.length=L.length:=R'.1
   have lras':ras'.length=L.length:=by rw[Paired.length fnd'.rs,lF']
   have nn:∀ {Hx:Hp} {a b:Addr} {u:HO},Hx a=none→Hx b=some u→b≠a:=fun h1 h2 z=>by rw[z,h1] at h2; cases h2
   have S3:=fS hot (.lst [V.ref p3])
   have o3:OthV K (upd H2 ot (.lst [.ref p3])) ot (.ref p3):=by
    refine OthV.same ⟨p3,p,q2,(Fl'.map List.sum).reverse,(ras'.map V.ref).reverse,rfl,T3,by rw[dp,List.map_reverse],by rw[List.length_reverse,List.length_map]; omega,nn hot dp,dq,by rw[List.length_reverse,List.length_map]; omega,nn hot dq,fun v hv=>?_⟩ S3
    obtain⟨r,hr,rfl⟩:=List.mem_map.mp (List.mem_reverse.mp hv)
    obtain⟨row,mr,us',h2,h3⟩:=wW fnd'.rs hr
    exact⟨r,us',rt row,rfl,h2,h3,Nat.le_trans (zV (R'.2 row mr)) (by omega),Cm row,nn hot h2⟩
   have lG:=mo.len
   have mof:=BV (K:=K) flo lcs cut
   have eG:Fl.map List.sum=G:=As mof mo
   have cuF:=BO (K:=K) (by omega) cut
   have cuO:∀ v∈own,CuV K H2 v:=fun v hv=>by
    obtain⟨e,he,rfl⟩:=List.getElem_of_mem hv
    rcases cown e _ (List.getElem?_eq_getElem he) with ⟨z,_⟩ | ⟨c,ns,z,h1,h2,_⟩
    ·exact .inl z
    ·exact .inr ⟨c,ns,z,h1,by omega⟩
   have no:∀ {G':List Int} {dr dc:Dt},G'≠G→t8 rooms L (.lst (G'.map Dt.int)) dr dc=false:=fun {G' dr dc} hn=>by
    cases hl:t8 rooms L (.lst (G'.map Dt.int)) dr dc with
    | false=>rfl
    | true=>exact absurd (As (D9 lok hl) mo) hn
   trivial
   refine⟨by decide,by decide,?_⟩
   obtain⟨Pv,hP⟩:∃ Pv:Nat→St→Hp→Prop,Pv=fun i σ H'=>∃ (ovs:List V) (z:Option V),H' ot=some (.lst ovs)∧ovs.length=i+1∧(∀ v∈ovs,OthV K H' ot v)∧Same H2 H'∧σ=[some (.ref a),some (.ref rm),some (.ref l),some (.ref t),some (.ref du),some (.ref ow),some (.ref t'),some (.ref ev),some (.ref ot),z,none,none,none,none,none]:=⟨_,rfl⟩
   refine ua Pv ?_ ?_ ?_
   ·rw[hP]
    exact⟨_,_,er,rfl,(fun v hv=>by rw[List.mem_singleton.mp hv]; exact o3),S3,rfl⟩
   ·intro i σ H3 hi h
    rw[hP] at h
    obtain⟨ovs,z,d3,lo,ov,e3,rfl⟩:=h
    trivial
    refine⟨.inl ⟨rfl,_,SqL.of d3⟩,a,ns,_,rfl,(e2.trans e3).seq hS,by omega,by omega,fun c=>?_⟩
    refine⟨l,t,ga,ra,ca,c,rooms.length,L,Fl,ras,cs,rfl,hL2.same e3,lok,l0,fnd.same e3,flo.rows,fun t4 g4 r4 G4 rv4 H4 e4 T4 dg4 lG4 dr4 lr4 rv4' hg4 hr4=>?_⟩
    have d4:=e4 _ _ d3
    refine⟨_,d4,Nat.lt_of_lt_of_le (m:=1000) (by omega) (by decide),?_⟩
    rw[hP]
    refine⟨ovs++[.ref t4],_,er,by rw[List.length_append,lo]; rfl,fun v hv=>?_,gu (e3.trans e4) hot _,rfl⟩
    rcases List.mem_append.mp hv with hv | hv
    ·exact ((ov v hv).same e4).upd d4
    ·rw[List.mem_singleton.mp hv]
     refine OthV.upd ⟨t4,g4,r4,G4,rv4,rfl,T4,dg4,lG4,Ne.symm (nn hg4 d3),dr4,lr4,Ne.symm (nn hr4 d3),fun v hv=>?_⟩ d4
     obtain⟨r,us',xs,k1,k2,k3,k4,k5,k6⟩:=rv4' v hv
     exact⟨r,us',xs,k1,k2,k3,k4,k5,Ne.symm (nn k6 d3)⟩
   intro σ H3 h
   rw[hP] at h
   obtain⟨ovs,z,d3,lo,ov,e3,rfl⟩:=h
   clear hP
   trivial
   refine⟨by decide,by decide,?_⟩
   have pick:∀ {Hx:Hp} {k:Nat},Same H3 Hx→k<4→∃ (t g r:Addr) (G:List Int) (rv:List V),atI ovs (k:Int)=some (.ref t)∧SqT K Hx t [.ref g,.ref r]∧SqL K Hx g (G.map V.int)∧G.length≤64∧∃ d,Rp K Hx (.ref r) d:=fun {Hx k} e hk=>by
    have hl:k<ovs.length:=by omega
    obtain⟨t,g,r,G,rv,h1,h2,h3,h4,h5,h6,h7,h8,h9⟩:=(ov _ (List.getElem_mem hl)).same e
    exact⟨t,g,r,G,rv,nM (by rw[List.getElem?_eq_getElem hl,h1]),h2,SqL.of h3,h4,Ig h6 h7 h9⟩
   obtain⟨Pw,hW⟩:∃ Pw:Nat→St→Hp→Prop,Pw=fun i σ H'=>∃ (z9 z10 z11 z12 z13:Option V),Same H3 H'∧σ=[some (.ref a),some (.ref rm),some (.ref l),some (.ref t),some (.ref du),some (.ref ow),some (.ref t'),some (.ref ev),some (.ref ot),z9,z10,z11,z12,z13,none]:=⟨_,rfl⟩
   refine ua Pw ?_ ?_ ?_
   ·rw[hW]
    exact⟨_,_,_,_,_,fun _ _ h=>h,rfl⟩
   ·intro i σ H4 hi h
    rw[hW] at h
    obtain⟨z9,z10,z11,z12,z13,e4,rfl⟩:=h
    have e24:=e3.trans e4
    obtain⟨t5,g5,r5,G5,rv5,at5,T5,dg5,lG5,d5,hd5⟩:=pick e4 hi
    have at5':atI ovs (0+(i:Int))=some (.ref t5):=by rw[Int.zero_add]; exact at5
    trivial
    refine⟨_,SqL.of (e4 _ _ d3),_,at5',t5,rfl,_,T5,rfl,_,_,rfl,_,_,rfl,rfl,a,ns,_,rfl,(e2.trans e24).seq hS,by omega,by omega,fun c=>?_⟩
    have f4:=fnd.same e24
    have f4':=fnd'.same e24
    refine⟨_,f4.t,_,rfl,_,f4'.t,_,rfl,ca',rfl,_,SqL.of f4'.c,fun bk hbk=>?_⟩
    obtain⟨H5,g5',S5,T5'⟩:=nL hbk cs'.reverse
    rw[← g5']
    clear g5'
    have e25:=e24.trans S5
    refine⟨l,ca,ow,bk,ev,rooms.length,c,L,cs,own,cs'.reverse,rgI rooms.length,rfl,hL2.same e25,lok,SqL.of (S5 _ _ f4.c),e25.seq how,SqL.of T5',e25.seq hev,by unfold rgI; rw[List.length_map,List.length_range]; exact m6,lcs,lown,by rw[List.length_reverse]; exact lcs',fun v hv=>(cuF v hv).same e25,fun v hv=>(cuO v hv).same e25,fun v hv=>(cu' v (List.mem_reverse.mp hv)).same e25,fun cr cvs H6 e6 dcr lcr cuc=>?_⟩
    have e26:=e25.trans e6
    refine⟨g5,du,rfl,rfl,.inr ⟨G5,G,.inl ⟨(S5.trans e6).seq dg5,e26.seq hdu⟩,?_⟩⟩
    have fin:∀ {Hx:Hp},Same H6 Hx→Pw (i+1) [some (.ref a),some (.ref rm),some (.ref l),some (.ref t),some (.ref du),some (.ref ow),some (.ref t'),some (.ref ev),some (.ref ot),some (.int (0+(i:Int))),some (.ref g5),some (.ref r5),some (.int c),some (.ref cr),none] Hx:=fun {Hx} e=>by
     rw[hW]
     exact⟨_,_,_,_,_,((e4.trans S5).trans e6).trans e,rfl⟩
    refine⟨_,rfl,?_⟩
    by_cases hz:G5=G
    ·rw[if_neg (by simp [hz])]
     exact fin fun _ _ h=>h
    ·rw[if_pos (by simp [hz])]
     obtain⟨dc,hdc⟩:=Fk (SqL.of dcr) (by omega) cuc
     refine⟨rm,l,_,_,_,rooms,L,_,_,_,rfl,e26.seq hrm2,hL2.same e26,lok,yf ((S5.trans e6).seq dg5) (by omega),hd5.same (S5.trans e6),hdc,fun H7 e7=>⟨_,rfl,?_⟩⟩
     rw[no hz,if_neg (by decide)]
     exact fin e7
   intro σ H4 h
   rw[hW] at h
   obtain⟨z9,z10,z11,z12,z13,e4,rfl⟩:=h
   clear hW
   have e24:=e3.trans e4
   obtain⟨t5,g5,r5,G5,rv5,at5,T5,dg5,lG5,d5,hd5⟩:=pick (k:=0) e4 (by decide)
   trivial
   refine⟨_,SqL.of (e4 _ _ d3),_,at5,t5,rfl,_,T5,rfl,_,_,rfl,_,_,rfl,rfl,g5,du,rfl,rfl,.inr ⟨G5,G,.inl ⟨dg5,e24.seq hdu⟩,?_⟩⟩
   have endp:∀ {Hx:Hp},Same H2 Hx→∃ x,SqL K Hx rm x∧∀ (ue:Addr),Hx ue=none→wL K [V.ref l] (upd Hx ue (.lst x)) (fun x H1=>∃ x_1,SqT K H1 t x_1∧∃ x_2,atI x_1 0=some x_2∧∃ x_3,SqT K H1 t x_3∧∃ x_4,atI x_3 1=some x_4∧∃ x_5,SqT K H1 t x_5∧∃ x_6,atI x_5 2=some x_6∧wJ K [V.ref ue,x,x_2,x_4,x_6] H1 (fun x H1=>∃ x_7,SqT K H1 t x_7∧∃ x_8,atI x_7 0=some x_8∧E1 K false x_8 (V.ref du) H1 fun x_9 H1=>∃ c,x_9=V.bl c∧if c=true then ∃ b,x=V.bl b∧Q (V.bl (b == true)) H1 else Q (V.bl false) H1) E0) E0:=fun {Hx} e=>by
    refine⟨_,e.seq hrm2,fun r5 hr5=>?_⟩
    obtain⟨Ha,gA,Sa,Ta⟩:=nL hr5 (rooms.map V.int)
    rw[← gA]
    clear gA
    refine⟨l,L,rfl,hL2.same (e.trans Sa),l64,fun l5 Hb Sb hl5 hL5=>?_⟩
    have eb:=(e.trans Sa).trans Sb
    have fb:=fnd.same eb
    have cutb:∀ (e:Nat) (v:V),cs[e]?=some v→CutAt L rooms.length rooms Fl lf Hb (fun _=>True) e v:=fun e v hv=>(cut e v hv).go (fun _ _=>rfl) (fun _ h=>h) fun c u hc hu=>⟨trivial,eb _ _ hu⟩
    obtain⟨cds,x1,x2,x3,x4,_⟩:=EN lok fb lcs cutb flo
    refine⟨_,fb.t,_,rfl,_,fb.t,_,rfl,_,fb.t,_,rfl,r5,l5,_,_,_,rooms,L,_,_,_,rfl,SqL.of (Sb _ _ Ta),hL5.at,lok,x1,x2,x3,fun Hc ec=>?_⟩
    rw[x4]
    have fc:=fb.same ec
    refine⟨_,fc.t,_,rfl,ga,du,rfl,rfl,.inr ⟨_,_,.inl ⟨SqL.of fc.g,(eb.trans ec).seq hdu⟩,?_⟩⟩
    rw[eG]
    refine⟨true,by simp,?_⟩
    rw[if_pos rfl]
    exact⟨true,rfl,q _⟩
   refine⟨_,rfl,?_⟩
   by_cases hz:G5=G
   ·rw[if_neg (by simp [hz])]
    exact endp e24
   ·rw[if_pos (by simp [hz])]
    have f4':=fnd'.same e24
    refine⟨_,f4'.t,_,rfl,ca',rfl,_,SqL.of f4'.c,fun bk hbk=>?_⟩
    obtain⟨H5,g5',S5,T5'⟩:=nL hbk cs'.reverse
    rw[← g5']
    clear g5'
    have e25:=e24.trans S5
    obtain⟨dc,hdc⟩:=Fk (K:=K) (SqL.of T5') (by rw[List.length_reverse]; omega) fun v hv=>(cu' v (List.mem_reverse.mp hv)).same e25
    refine⟨rm,l,_,_,_,rooms,L,_,_,_,rfl,e25.seq hrm2,hL2.same e25,lok,yf (S5.seq dg5) (by omega),hd5.same S5,hdc,fun H7 e7=>⟨_,rfl,?_⟩⟩
    rw[no hz,if_neg (by decide)]
    exact endp (e25.trans e7)
  trivial
  refine⟨_,hrm,fun r2 hr2=>?_⟩
  obtain⟨H2,g2,S2,T2⟩:=nL hr2 (rooms.map V.int)
  rw[← g2]
  clear g2
  refine⟨l,L,rfl,hL.same S2,l64,fun l2 H3 S3 hl2 hL2=>?_⟩
  refine⟨r2,l2,rooms,L,rfl,SqL.of (S3 _ _ T2),hL2.at,lok,r0,fun t ga ra ca Fl lf ras cs H4 S4 ht fnd lcs cut flo sep=>?_⟩
  have e14:=(S2.trans S3).trans S4
  refine⟨rm,l,rooms,L,rfl,e14.seq hrm,hL.same e14,ln,m6,r0,fun td du ow G own H5 S5 Td ddu dow lown cown mo=>?_⟩
  have e15:=e14.trans S5
  obtain⟨us,hus,hpa⟩:=id hL
  have lus:us.length=L.length:=Paired.length hpa
  refine⟨td,rfl,_,Td,rfl,_,_,rfl,_,_,rfl,rfl,_,e15.seq hrm,fun r3 hr3=>?_⟩
  obtain⟨H6,g6,S6,T6⟩:=nL hr3 (rooms.map V.int)
  rw[← g6]
  clear g6
  have e16:=e15.trans S6
  refine⟨us,e16.seq hus,fun bl hbl=>?_⟩
  obtain⟨H7,g7,S7,T7⟩:=nL hbl us.reverse
  rw[← g7]
  clear g7
  have e17:=e16.trans S7
  have hLb:LnAt K H7 bl L.reverse:=⟨us.reverse,SqL.of T7,zp (uq e17 hpa)⟩
  have lokR:LnOk rooms.length L.reverse:=⟨by rw[List.length_reverse]; exact l64,fun en he=>lok.pl en (List.mem_reverse.mp he),fun en he=>lok.nd en (List.mem_reverse.mp he),lok.m,fun en he=>lok.w en (List.mem_reverse.mp he)⟩
  refine⟨bl,L.reverse,rfl,hLb,lokR.l,fun l3 H8 S8 hl3 hL3=>?_⟩
  refine⟨r3,l3,rooms,L.reverse,rfl,SqL.of ((S7.trans S8) _ _ T6),hL3.at,lokR,r0,fun t' ga' ra' ca' Fl' lf' ras' cs' H9 S9 ht' fnd' lcs' cut' flo' sep'=>?_⟩
  have e19:=(e17.trans S8).trans S9
  refine⟨_,.inl (e19.seq hrm),by rw[List.length_map]; omega,by rw[List.length_map]; omega,fun ev hev=>?_⟩
  rw[List.length_map,Int.toNat_natCast]
  obtain⟨Pc,hC⟩:∃ Pc:Nat→St→Hp→Prop,Pc=fun i τ H'=>∃ (z:Option V),H' ev=some (.lst ((rgI i).map V.int))∧Same H9 H'∧τ=[z]:=⟨_,rfl⟩
  refine uC Pc ?_ ?_ ?_
  ·rw[hC]
   exact⟨_,er,fS hev _,rfl⟩
  ·intro i τ H' R' hi h next
   rw[hC] at h
   obtain⟨z,d1,e,rfl⟩:=h
   trivial
   refine⟨_,d1,?_,next _ _ ?_⟩
   ·unfold rgI
    rw[List.length_map,List.length_map,List.length_range]
    exact Nat.lt_of_lt_of_le (m:=1000) (by omega) (by decide)
   ·rw[hC]
    refine⟨_,?_,gu e hev _,rfl⟩
    unfold rgI
    rw[er,List.range_succ,List.map_append,List.map_append,Int.zero_add]
    rfl
  intro τ Ha h
  rw[hC] at h
  obtain⟨z,dev,e9a,rfl⟩:=h
  have fa:=fnd'.same e9a
  refine⟨t',rfl,_,fa.t,_,rfl,ga',rfl,_,SqL.of fa.g,fun p hp=>?_⟩
  obtain⟨Hb,gB,Sb,Tb⟩:=nL hp ((Fl'.map List.sum).map V.int).reverse
  rw[← gB]
  clear gB
  have fb:=fa.same Sb
  refine⟨t',rfl,_,fb.t,_,rfl,ra',rfl,_,SqL.of fb.r,fun q2 hq2=>?_⟩
  obtain⟨Hc,gC,Sc,Tc⟩:=nL hq2 (ras'.map V.ref).reverse
  rw[← gC]
  clear gC
  refine⟨by decide,fun p3 hp3=>?_⟩
  obtain⟨Hd,gD,Sd,Td'⟩:=ji (K:=K) hp3 [V.ref p,V.ref q2]
  rw[← gD]
  clear gD
  refine⟨by decide,fun ot hot=>?_⟩
  have e9d:=((e9a.trans Sb).trans Sc).trans Sd
  have e1d:=e19.trans e9d
  have e4d:Same H4 Hd:=((((S5.trans S6).trans S7).trans S8).trans S9).trans e9d
  have e5d:Same H5 Hd:=(((S6.trans S7).trans S8).trans S9).trans e9d
  refine tail2 Hd t ga ra ca du ow t' ga' ra' ca' ev ot p3 p q2 lf lf' G Fl Fl' ras ras' cs cs' own (fun _=>True) (fun _=>True) (e1.trans e1d) (e1d.seq hrm) (hL.same e1d) (fnd.same e4d) lcs (fun e v hv=>(cut e v hv).go (fun _ _=>rfl) (fun _ h=>h) fun c u hc hu=>⟨trivial,e4d _ _ hu⟩) flo (SqL.of (e5d _ _ ddu)) mo (SqL.of (e5d _ _ dow)) lown (fun e v hv=>(cown e v hv).same e5d) (fnd'.same e9d) (by rw[lcs',List.length_reverse]) (fun v hv=>(BO (K:=K) (by omega) cut' v hv).same e9d) ?_ (SqL.of (((Sb.trans Sc).trans Sd) _ _ dev)) Td' ((Sc.trans Sd) _ _ Tb) (Sd _ _ Tc) hot
  have:=flo'.rows
  rwa [List.length_reverse] at this
 trivial
 refine⟨a,ns,rfl,hS,fun rm rooms H1 e1 hrm d1 m6 rb=>⟨rm,rfl,_,.inl (SqL.of d1),?_⟩⟩
 rw[List.length_map]
 refine⟨a,ns,rooms.length,rfl,e1.seq hS,m6,fun l L H2 e2 hl hL ln=>?_⟩
 have r0:∀ x∈rooms,0≤x:=fun x hx=>(rb x hx).1
 have e12:=e1.trans e2
 obtain⟨us,hus,hpa⟩:=id hL
 have lus:us.length=L.length:=Paired.length hpa
 refine⟨l,rfl,us,.inl hus,?_⟩
 by_cases hz:(us.length:Int)=0
 ·rw[if_pos hz]
  refine⟨rm,rfl,_,.inl (SqL.of (e2 _ _ d1)),by rw[List.length_map]; omega,by rw[List.length_map]; omega,fun D hD=>?_⟩
  rw[List.length_map,Int.toNat_natCast]
  obtain⟨Pc,hC⟩:∃ Pc:Nat→St→Hp→Prop,Pc=fun i τ H'=>∃ (z:Option V),H' D=some (.lst ((List.range i).map fun j:Nat=>V.int (j:Int)))∧Same H2 H'∧τ=[z]:=⟨_,rfl⟩
  refine uC Pc ?_ ?_ ?_
  ·rw[hC]
   exact⟨_,er,fS hD _,rfl⟩
  ·intro i τ H' R' hi h next
   rw[hC] at h
   obtain⟨z,d1,e,rfl⟩:=h
   trivial
   refine⟨_,d1,?_,next _ _ ?_⟩
   ·rw[List.length_map,List.length_range]
    exact Nat.lt_of_lt_of_le (m:=1000) (by omega) (by decide)
   ·rw[hC]
    refine⟨_,?_,gu e hD _,rfl⟩
    rw[er,List.range_succ,List.map_append,Int.zero_add]
    rfl
  intro τ H3 h
  rw[hC] at h
  obtain⟨z,dD,e3,rfl⟩:=h
  refine⟨a,ns,48,rfl,(e12.trans e3).seq hS,by decide,by decide,fun c=>⟨c,rfl,by decide,by decide,fun p hp=>?_⟩⟩
  obtain⟨H4,g4,S4,T4⟩:=ji (K:=K) hp [V.ref D,V.int (1+c % 3)]
  rw[← g4]
  clear g4
  refine⟨by decide,fun p1 hp1=>?_⟩
  obtain⟨H5,g5,S5,T5⟩:=nL hp1 [V.ref p]
  rw[← g5]
  clear g5
  have c0:=Int.emod_nonneg c (show (3:Int)≠0 by decide)
  have c1:=Int.emod_lt_of_pos c (show (0:Int)<3 by decide)
  have e25:=(e3.trans S4).trans S5
  refine tail rm p1 rooms [(List.range rooms.length,1+c % 3)] H5 (e12.trans e25) (SqL.of (e25 _ _ (e2 _ _ d1))) m6 r0 ⟨_,SqL.of T5,.cons ⟨p,D,rfl,Same.tup S5 T4,SqL.of ((S4.trans S5) _ _ dD)⟩ .nil⟩ ⟨(show 1≤40 by decide),fun en he=>?_,fun en he=>?_⟩ (show 0<1 by decide)
  ·rw[List.mem_singleton.mp he]
   exact List.Sublist.refl _
  ·rw[List.mem_singleton.mp he]
   exact⟨by show 0≤1+c % 3; omega,by show 1+c % 3≤10 ^ 15; omega⟩
 ·rw[if_neg hz]
  exact tail rm l rooms L H2 e12 (SqL.of (e2 _ _ d1)) m6 r0 hL ln (by omega)
end
end MyA2
namespace My
open MyB MyC MyD MyE MyF MyG MyS MyI MyJ MyK MyT MyU MyV MyW MyX MyY MyZ MyA1 MyA2 PySem L2
theorem all_mk {l:PySem.W.OpenLaw} {w:World} {K:PySem.W.Frag} {h:Heap} {mg:Str→Option Value} {fa f1 f2 f3 f4 f5 f6 f7 f8 f9 f10 f11 f12 f13 f14 f15 f16 f17 f18 f19 f20 f21 f22 f23 f24 f25 f26 f27 f28 f29 f30:Addr} (X:K.In h) (G:h.Ns mainGlobals mg) (hfa:mg "law"=some (.ref fa))
  {od1 an1 od2 an2 od3 an3 od4 an4 od5 an5 od6 an6 od7 an7 od8 an8 od9 an9 od10 an10 od11 an11 od12 an12 od13 an13 od14 an14 od15 an15 od16 an16 od17 an17 od18 an18 od19 an19 od20 an20 od21 an21 od22 an22 od23 an23 od24 an24 od25 an25 od26 an26 od27 an27 od28 an28 od29 an29 od30 an30:Option Addr} {sl1 sl2 sl3 sl4 sl5 sl6 sl7 sl8 sl9 sl10 sl11 sl12 sl13 sl14 sl15 sl16 sl17 sl18 sl19 sl20 sl21 sl22 sl23 sl24 sl25 sl26 sl27 sl28 sl29 sl30:Array (Option Value)} {oc1 kV1 dc1 pm1 cd1 ct1 oc2 kV2 dc2 pm2 cd2 ct2 oc3 kV3 dc3 pm3 cd3 ct3 oc4 kV4 dc4 pm4 cd4 ct4 oc5 kV5 dc5 pm5 cd5 ct5 oc6 kV6 dc6 pm6 cd6 ct6 oc7 kV7 dc7 pm7 cd7 ct7 oc8 kV8 dc8 pm8 cd8 ct8 oc9 kV9 dc9 pm9 cd9 ct9 oc10 kV10 dc10 pm10 cd10 ct10 oc11 kV11 dc11 pm11 cd11 ct11 oc12 kV12 dc12 pm12 cd12 ct12 oc13 kV13 dc13 pm13 cd13 ct13 oc14 kV14 dc14 pm14 cd14 ct14 oc15 kV15 dc15 pm15 cd15 ct15 oc16 kV16 dc16 pm16 cd16 ct16 oc17 kV17 dc17 pm17 cd17 ct17 oc18 kV18 dc18 pm18 cd18 ct18 oc19 kV19 dc19 pm19 cd19 ct19 oc20 kV20 dc20 pm20 cd20 ct20 oc21 kV21 dc21 pm21 cd21 ct21 oc22 kV22 dc22 pm22 cd22 ct22 oc23 kV23 dc23 pm23 cd23 ct23 oc24 kV24 dc24 pm24 cd24 ct24 oc25 kV25 dc25 pm25 cd25 ct25 oc26 kV26 dc26 pm26 cd26 ct26 oc27 kV27 dc27 pm27 cd27 ct27 oc28 kV28 dc28 pm28 cd28 ct28 oc29 kV29 dc29 pm29 cd29 ct29 oc30 kV30 dc30 pm30 cd30 ct30:Value}
  (a1:PySem.W.nsIn K mainGlobals "is_whole"=some (some (.ref f1))) (l1:K.lookup f1=some ⟨oc1,od1,.func (PySem.W.fnOf "is_whole" "is_whole" (defArgs bW) (defBody bW) (defScope bW) .none kV1 dc1 pm1 an1 cd1 ct1),sl1⟩) (c1:PySem.W.codeIn K cd1 "is_whole"=true) (k1:PySem.W.keepIn K (.ref f1)=true)
  (a2:PySem.W.nsIn K mainGlobals "is_list_of"=some (some (.ref f2))) (l2:K.lookup f2=some ⟨oc2,od2,.func (PySem.W.fnOf "is_list_of" "is_list_of" (defArgs bu) (defBody bu) (defScope bu) .none kV2 dc2 pm2 an2 cd2 ct2),sl2⟩) (c2:PySem.W.codeIn K cd2 "is_list_of"=true) (k2:PySem.W.keepIn K (.ref f2)=true)
  (a3:PySem.W.nsIn K mainGlobals "is_grant"=some (some (.ref f3))) (l3:K.lookup f3=some ⟨oc3,od3,.func (PySem.W.fnOf "is_grant" "is_grant" (defArgs ci) (defBody ci) (defScope ci) .none kV3 dc3 pm3 an3 cd3 ct3),sl3⟩) (c3:PySem.W.codeIn K cd3 "is_grant"=true) (k3:PySem.W.keepIn K (.ref f3)=true)
  (a4:PySem.W.nsIn K mainGlobals "are_places"=some (some (.ref f4))) (l4:K.lookup f4=some ⟨oc4,od4,.func (PySem.W.fnOf "are_places" "are_places" (defArgs bF) (defBody bF) (defScope bF) .none kV4 dc4 pm4 an4 cd4 ct4),sl4⟩) (c4:PySem.W.codeIn K cd4 "are_places"=true) (k4:PySem.W.keepIn K (.ref f4)=true)
  (a5:PySem.W.nsIn K mainGlobals "is_pair"=some (some (.ref f5))) (l5:K.lookup f5=some ⟨oc5,od5,.func (PySem.W.fnOf "is_pair" "is_pair" (defArgs bY) (defBody bY) (defScope bY) .none kV5 dc5 pm5 an5 cd5 ct5),sl5⟩) (c5:PySem.W.codeIn K cd5 "is_pair"=true) (k5:PySem.W.keepIn K (.ref f5)=true)
  (a6:PySem.W.nsIn K mainGlobals "is_route"=some (some (.ref f6))) (l6:K.lookup f6=some ⟨oc6,od6,.func (PySem.W.fnOf "is_route" "is_route" (defArgs bf) (defBody bf) (defScope bf) .none kV6 dc6 pm6 an6 cd6 ct6),sl6⟩) (c6:PySem.W.codeIn K cd6 "is_route"=true) (k6:PySem.W.keepIn K (.ref f6)=true)
  (a7:PySem.W.nsIn K mainGlobals "amount_through"=some (some (.ref f7))) (l7:K.lookup f7=some ⟨oc7,od7,.func (PySem.W.fnOf "amount_through" "amount_through" (defArgs aJ) (defBody aJ) (defScope aJ) .none kV7 dc7 pm7 an7 cd7 ct7),sl7⟩) (c7:PySem.W.codeIn K cd7 "amount_through"=true) (k7:PySem.W.keepIn K (.ref f7)=true)
  (a8:PySem.W.nsIn K mainGlobals "keep_to_rooms"=some (some (.ref f8))) (l8:K.lookup f8=some ⟨oc8,od8,.func (PySem.W.fnOf "keep_to_rooms" "keep_to_rooms" (defArgs bh) (defBody bh) (defScope bh) .none kV8 dc8 pm8 an8 cd8 ct8),sl8⟩) (c8:PySem.W.codeIn K cd8 "keep_to_rooms"=true) (k8:PySem.W.keepIn K (.ref f8)=true)
  (a9:PySem.W.nsIn K mainGlobals "is_within"=some (some (.ref f9))) (l9:K.lookup f9=some ⟨oc9,od9,.func (PySem.W.fnOf "is_within" "is_within" (defArgs cu) (defBody cu) (defScope cu) .none kV9 dc9 pm9 an9 cd9 ct9),sl9⟩) (c9:PySem.W.codeIn K cd9 "is_within"=true) (k9:PySem.W.keepIn K (.ref f9)=true)
  (a10:PySem.W.nsIn K mainGlobals "is_cut"=some (some (.ref f10))) (l10:K.lookup f10=some ⟨oc10,od10,.func (PySem.W.fnOf "is_cut" "is_cut" (defArgs aR) (defBody aR) (defScope aR) .none kV10 dc10 pm10 an10 cd10 ct10),sl10⟩) (c10:PySem.W.codeIn K cd10 "is_cut"=true) (k10:PySem.W.keepIn K (.ref f10)=true)
  (a11:PySem.W.nsIn K mainGlobals "cut_holds"=some (some (.ref f11))) (l11:K.lookup f11=some ⟨oc11,od11,.func (PySem.W.fnOf "cut_holds" "cut_holds" (defArgs bG) (defBody bG) (defScope bG) .none kV11 dc11 pm11 an11 cd11 ct11),sl11⟩) (c11:PySem.W.codeIn K cd11 "cut_holds"=true) (k11:PySem.W.keepIn K (.ref f11)=true)
  (a12:PySem.W.nsIn K mainGlobals "lets_by"=some (some (.ref f12))) (l12:K.lookup f12=some ⟨oc12,od12,.func (PySem.W.fnOf "lets_by" "lets_by" (defArgs bw) (defBody bw) (defScope bw) .none kV12 dc12 pm12 an12 cd12 ct12),sl12⟩) (c12:PySem.W.codeIn K cd12 "lets_by"=true) (k12:PySem.W.keepIn K (.ref f12)=true)
  (a13:PySem.W.nsIn K mainGlobals "led_over"=some (some (.ref f13))) (l13:K.lookup f13=some ⟨oc13,od13,.func (PySem.W.fnOf "led_over" "led_over" (defArgs aL) (defBody aL) (defScope aL) .none kV13 dc13 pm13 an13 cd13 ct13),sl13⟩) (c13:PySem.W.codeIn K cd13 "led_over"=true) (k13:PySem.W.keepIn K (.ref f13)=true)
  (a14:PySem.W.nsIn K mainGlobals "reached_by"=some (some (.ref f14))) (l14:K.lookup f14=some ⟨oc14,od14,.func (PySem.W.fnOf "reached_by" "reached_by" (defArgs ah) (defBody ah) (defScope ah) .none kV14 dc14 pm14 an14 cd14 ct14),sl14⟩) (c14:PySem.W.codeIn K cd14 "reached_by"=true) (k14:PySem.W.keepIn K (.ref f14)=true)
  (a15:PySem.W.nsIn K mainGlobals "moves_to"=some (some (.ref f15))) (l15:K.lookup f15=some ⟨oc15,od15,.func (PySem.W.fnOf "moves_to" "moves_to" (defArgs bB) (defBody bB) (defScope bB) .none kV15 dc15 pm15 an15 cd15 ct15),sl15⟩) (c15:PySem.W.codeIn K cd15 "moves_to"=true) (k15:PySem.W.keepIn K (.ref f15)=true)
  (a16:PySem.W.nsIn K mainGlobals "lead"=some (some (.ref f16))) (l16:K.lookup f16=some ⟨oc16,od16,.func (PySem.W.fnOf "lead" "lead" (defArgs br) (defBody br) (defScope br) .none kV16 dc16 pm16 an16 cd16 ct16),sl16⟩) (c16:PySem.W.codeIn K cd16 "lead"=true) (k16:PySem.W.keepIn K (.ref f16)=true)
  (a17:PySem.W.nsIn K mainGlobals "serve"=some (some (.ref f17))) (l17:K.lookup f17=some ⟨oc17,od17,.func (PySem.W.fnOf "serve" "serve" (defArgs aW) (defBody aW) (defScope aW) .none kV17 dc17 pm17 an17 cd17 ct17),sl17⟩) (c17:PySem.W.codeIn K cd17 "serve"=true) (k17:PySem.W.keepIn K (.ref f17)=true)
  (a18:PySem.W.nsIn K mainGlobals "route_of"=some (some (.ref f18))) (l18:K.lookup f18=some ⟨oc18,od18,.func (PySem.W.fnOf "route_of" "route_of" (defArgs cD) (defBody cD) (defScope cD) .none kV18 dc18 pm18 an18 cd18 ct18),sl18⟩) (c18:PySem.W.codeIn K cd18 "route_of"=true) (k18:PySem.W.keepIn K (.ref f18)=true)
  (a19:PySem.W.nsIn K mainGlobals "served"=some (some (.ref f19))) (l19:K.lookup f19=some ⟨oc19,od19,.func (PySem.W.fnOf "served" "served" (defArgs aO) (defBody aO) (defScope aO) .none kV19 dc19 pm19 an19 cd19 ct19),sl19⟩) (c19:PySem.W.codeIn K cd19 "served"=true) (k19:PySem.W.keepIn K (.ref f19)=true)
  (a20:PySem.W.nsIn K mainGlobals "_law_cell"=some (some (.ref f20))) (l20:K.lookup f20=some ⟨oc20,od20,.func (PySem.W.fnOf "_law_cell" "_law_cell" (defArgs bP) (defBody bP) (defScope bP) .none kV20 dc20 pm20 an20 cd20 ct20),sl20⟩) (c20:PySem.W.codeIn K cd20 "_law_cell"=true) (k20:PySem.W.keepIn K (.ref f20)=true)
  (a21:PySem.W.nsIn K mainGlobals "_law_rooms"=some (some (.ref f21))) (l21:K.lookup f21=some ⟨oc21,od21,.func (PySem.W.fnOf "_law_rooms" "_law_rooms" (defArgs aU) (defBody aU) (defScope aU) .none kV21 dc21 pm21 an21 cd21 ct21),sl21⟩) (c21:PySem.W.codeIn K cd21 "_law_rooms"=true) (k21:PySem.W.keepIn K (.ref f21)=true)
  (a22:PySem.W.nsIn K mainGlobals "_law_line"=some (some (.ref f22))) (l22:K.lookup f22=some ⟨oc22,od22,.func (PySem.W.fnOf "_law_line" "_law_line" (defArgs ao) (defBody ao) (defScope ao) .none kV22 dc22 pm22 an22 cd22 ct22),sl22⟩) (c22:PySem.W.codeIn K cd22 "_law_line"=true) (k22:PySem.W.keepIn K (.ref f22)=true)
  (a23:PySem.W.nsIn K mainGlobals "_law_copy"=some (some (.ref f23))) (l23:K.lookup f23=some ⟨oc23,od23,.func (PySem.W.fnOf "_law_copy" "_law_copy" (defArgs cQ) (defBody cQ) (defScope cQ) .none kV23 dc23 pm23 an23 cd23 ct23),sl23⟩) (c23:PySem.W.codeIn K cd23 "_law_copy"=true) (k23:PySem.W.keepIn K (.ref f23)=true)
  (a24:PySem.W.nsIn K mainGlobals "_law_due"=some (some (.ref f24))) (l24:K.lookup f24=some ⟨oc24,od24,.func (PySem.W.fnOf "_law_due" "_law_due" (defArgs ai) (defBody ai) (defScope ai) .none kV24 dc24 pm24 an24 cd24 ct24),sl24⟩) (c24:PySem.W.codeIn K cd24 "_law_due"=true) (k24:PySem.W.keepIn K (.ref f24)=true)
  (a25:PySem.W.nsIn K mainGlobals "_law_taken"=some (some (.ref f25))) (l25:K.lookup f25=some ⟨oc25,od25,.func (PySem.W.fnOf "_law_taken" "_law_taken" (defArgs aI) (defBody aI) (defScope aI) .none kV25 dc25 pm25 an25 cd25 ct25),sl25⟩) (c25:PySem.W.codeIn K cd25 "_law_taken"=true) (k25:PySem.W.keepIn K (.ref f25)=true)
  (a26:PySem.W.nsIn K mainGlobals "_law_added"=some (some (.ref f26))) (l26:K.lookup f26=some ⟨oc26,od26,.func (PySem.W.fnOf "_law_added" "_law_added" (defArgs bA) (defBody bA) (defScope bA) .none kV26 dc26 pm26 an26 cd26 ct26),sl26⟩) (c26:PySem.W.codeIn K cd26 "_law_added"=true) (k26:PySem.W.keepIn K (.ref f26)=true)
  (a27:PySem.W.nsIn K mainGlobals "_law_other"=some (some (.ref f27))) (l27:K.lookup f27=some ⟨oc27,od27,.func (PySem.W.fnOf "_law_other" "_law_other" (defArgs af) (defBody af) (defScope af) .none kV27 dc27 pm27 an27 cd27 ct27),sl27⟩) (c27:PySem.W.codeIn K cd27 "_law_other"=true) (k27:PySem.W.keepIn K (.ref f27)=true)
  (a28:PySem.W.nsIn K mainGlobals "_law_cuts"=some (some (.ref f28))) (l28:K.lookup f28=some ⟨oc28,od28,.func (PySem.W.fnOf "_law_cuts" "_law_cuts" (defArgs aH) (defBody aH) (defScope aH) .none kV28 dc28 pm28 an28 cd28 ct28),sl28⟩) (c28:PySem.W.codeIn K cd28 "_law_cuts"=true) (k28:PySem.W.keepIn K (.ref f28)=true)
  (a29:PySem.W.nsIn K mainGlobals "_law_not_let"=some (some (.ref f29))) (l29:K.lookup f29=some ⟨oc29,od29,.func (PySem.W.fnOf "_law_not_let" "_law_not_let" (defArgs aG) (defBody aG) (defScope aG) .none kV29 dc29 pm29 an29 cd29 ct29),sl29⟩) (c29:PySem.W.codeIn K cd29 "_law_not_let"=true) (k29:PySem.W.keepIn K (.ref f29)=true)
  (a30:PySem.W.nsIn K mainGlobals "law"=some (some (.ref f30))) (l30:K.lookup f30=some ⟨oc30,od30,.func (PySem.W.fnOf "law" "law" (defArgs am) (defBody am) (defScope am) .none kV30 dc30 pm30 an30 cd30 ct30),sl30⟩) (c30:PySem.W.codeIn K cd30 "law"=true) (k30:PySem.W.keepIn K (.ref f30)=true)
  (z_dict:PySem.W.nsIn K mainGlobals "dict"=some none)
  (z_len:PySem.W.nsIn K mainGlobals "len"=some none)
  (z_range:PySem.W.nsIn K mainGlobals "range"=some none)
  (z_abs:PySem.W.nsIn K mainGlobals "abs"=some none)
  (z_max:PySem.W.nsIn K mainGlobals "max"=some none)
  (z_min:PySem.W.nsIn K mainGlobals "min"=some none)
  (z_isinstance:PySem.W.nsIn K mainGlobals "isinstance"=some none)
  (z_int:PySem.W.nsIn K mainGlobals "int"=some none)
  (z_bool:PySem.W.nsIn K mainGlobals "bool"=some none)
  (z_str:PySem.W.nsIn K mainGlobals "str"=some none)
  (z_list:PySem.W.nsIn K mainGlobals "list"=some none)
  (z_tuple:PySem.W.nsIn K mainGlobals "tuple"=some none)
  (z_sum:PySem.W.nsIn K mainGlobals "sum"=some none)
  (z_all:PySem.W.nsIn K mainGlobals "all"=some none)
  (z_enumerate:PySem.W.nsIn K mainGlobals "enumerate"=some none)
  (z_zip:PySem.W.nsIn K mainGlobals "zip"=some none)
  (z_ValueError:PySem.W.nsIn K mainGlobals "ValueError"=some none)
  (z_any:PySem.W.nsIn K mainGlobals "any"=some none)
  (z_set:PySem.W.nsIn K mainGlobals "set"=some none)
  (z_sorted:PySem.W.nsIn K mainGlobals "sorted"=some none)
  : ∃ fd:FuncData,(∀ (s:Shared) (v:Value),BindsTo s fd ⟨[v],[]⟩ [("_law_script",v)])∧∀ base:Heap,K.In base→base.Ns mainGlobals mg→FnOk l.prog w K mg base CX0 7 fa fd ["_law_script"] (zR K):=by
 have e:=hfa.symm.trans (PySem.W.mg_of X G a30)
 cases e
 have F1:=ki (st:=bW) l1 c1 k1
 have F2:=ki (st:=bu) l2 c2 k2
 have F3:=ki (st:=ci) l3 c3 k3
 have F4:=ki (st:=bF) l4 c4 k4
 have F5:=ki (st:=bY) l5 c5 k5
 have F6:=ki (st:=bf) l6 c6 k6
 have F7:=ki (st:=aJ) l7 c7 k7
 have F8:=ki (st:=bh) l8 c8 k8
 have F9:=ki (st:=cu) l9 c9 k9
 have F10:=ki (st:=aR) l10 c10 k10
 have F11:=ki (st:=bG) l11 c11 k11
 have F12:=ki (st:=bw) l12 c12 k12
 have F13:=ki (st:=aL) l13 c13 k13
 have F14:=ki (st:=ah) l14 c14 k14
 have F15:=ki (st:=bB) l15 c15 k15
 have F16:=ki (st:=br) l16 c16 k16
 have F17:=ki (st:=aW) l17 c17 k17
 have F18:=ki (st:=cD) l18 c18 k18
 have F19:=ki (st:=aO) l19 c19 k19
 have F20:=ki (st:=bP) l20 c20 k20
 have F21:=ki (st:=aU) l21 c21 k21
 have F22:=ki (st:=ao) l22 c22 k22
 have F23:=ki (st:=cQ) l23 c23 k23
 have F24:=ki (st:=ai) l24 c24 k24
 have F25:=ki (st:=aI) l25 c25 k25
 have F26:=ki (st:=bA) l26 c26 k26
 have F27:=ki (st:=af) l27 c27 k27
 have F28:=ki (st:=aH) l28 c28 k28
 have F29:=ki (st:=aG) l29 c29 k29
 have F30:=ki (st:=am) l30 c30 k30
 have b1:=F1.binds (ps:=["thing"]) fun _ _ _ _ _ _ us hl=>match us,hl with | [_],_=>rfl
 have b2:=F2.binds (ps:=["thing","many"]) fun _ _ _ _ _ _ us hl=>match us,hl with | [_,_],_=>rfl
 have b3:=F3.binds (ps:=["entry","grant"]) fun _ _ _ _ _ _ us hl=>match us,hl with | [_,_],_=>rfl
 have b4:=F4.binds (ps:=["some","allowed"]) fun _ _ _ _ _ _ us hl=>match us,hl with | [_,_],_=>rfl
 have b5:=F5.binds (ps:=["thing"]) fun _ _ _ _ _ _ us hl=>match us,hl with | [_],_=>rfl
 have b6:=F6.binds (ps:=["entry","grant","route"]) fun _ _ _ _ _ _ us hl=>match us,hl with | [_,_,_],_=>rfl
 have b7:=F7.binds (ps:=["routes","place"]) fun _ _ _ _ _ _ us hl=>match us,hl with | [_,_],_=>rfl
 have b8:=F8.binds (ps:=["rooms","routes"]) fun _ _ _ _ _ _ us hl=>match us,hl with | [_,_],_=>rfl
 have b9:=F9.binds (ps:=["entry","cut"]) fun _ _ _ _ _ _ us hl=>match us,hl with | [_,_],_=>rfl
 have b10:=F10.binds (ps:=["rooms","line","granted","cut"]) fun _ _ _ _ _ _ us hl=>match us,hl with | [_,_,_,_],_=>rfl
 have b11:=F11.binds (ps:=["rooms","line","granted","cut"]) fun _ _ _ _ _ _ us hl=>match us,hl with | [_,_,_,_],_=>rfl
 have b12:=F12.binds (ps:=["rooms","line","granted","routes","cuts"]) fun _ _ _ _ _ _ us hl=>match us,hl with | [_,_,_,_,_],_=>rfl
 have b13:=F13.binds (ps:=["line","flows","place"]) fun _ _ _ _ _ _ us hl=>match us,hl with | [_,_,_],_=>rfl
 have b14:=F14.binds (ps:=["line","flows","entry"]) fun _ _ _ _ _ _ us hl=>match us,hl with | [_,_,_],_=>rfl
 have b15:=F15.binds (ps:=["reached","place"]) fun _ _ _ _ _ _ us hl=>match us,hl with | [_,_],_=>rfl
 have b16:=F16.binds (ps:=["flows","left","wanted","moves"]) fun _ _ _ _ _ _ us hl=>match us,hl with | [_,_,_,_],_=>rfl
 have b17:=F17.binds (ps:=["line","flows","left","entry"]) fun _ _ _ _ _ _ us hl=>match us,hl with | [_,_,_,_],_=>rfl
 have b18:=F18.binds (ps:=["flow"]) fun _ _ _ _ _ _ us hl=>match us,hl with | [_],_=>rfl
 have b19:=F19.binds (ps:=["rooms","line"]) fun _ _ _ _ _ _ us hl=>match us,hl with | [_,_],_=>rfl
 have b20:=F20.binds (ps:=["_law_script","_law_k"]) fun _ _ _ _ _ _ us hl=>match us,hl with | [_,_],_=>rfl
 have b21:=F21.binds (ps:=["_law_script"]) fun _ _ _ _ _ _ us hl=>match us,hl with | [_],_=>rfl
 have b22:=F22.binds (ps:=["_law_script","_law_many"]) fun _ _ _ _ _ _ us hl=>match us,hl with | [_,_],_=>rfl
 have b23:=F23.binds (ps:=["_law_line_here"]) fun _ _ _ _ _ _ us hl=>match us,hl with | [_],_=>rfl
 have b24:=F24.binds (ps:=["_law_rooms_here","_law_line_here"]) fun _ _ _ _ _ _ us hl=>match us,hl with | [_,_],_=>rfl
 have b25:=F25.binds (ps:=["_law_route","_law_many"]) fun _ _ _ _ _ _ us hl=>match us,hl with | [_,_],_=>rfl
 have b26:=F26.binds (ps:=["_law_route","_law_place","_law_many"]) fun _ _ _ _ _ _ us hl=>match us,hl with | [_,_,_],_=>rfl
 have b27:=F27.binds (ps:=["_law_line_here","_law_found","_law_cell_here"]) fun _ _ _ _ _ _ us hl=>match us,hl with | [_,_,_],_=>rfl
 have b28:=F28.binds (ps:=["_law_line_here","_law_told","_law_own","_law_back","_law_every","_law_cell_here"]) fun _ _ _ _ _ _ us hl=>match us,hl with | [_,_,_,_,_,_],_=>rfl
 have b29:=F29.binds (ps:=["_law_rooms_here","_law_line_here","_law_granted","_law_routes","_law_cuts_here"]) fun _ _ _ _ _ _ us hl=>match us,hl with | [_,_,_,_,_],_=>rfl
 have M:Mg mg:=⟨PySem.W.mg_none_of X G z_len,PySem.W.mg_none_of X G z_range,PySem.W.mg_none_of X G z_abs,PySem.W.mg_none_of X G z_max,PySem.W.mg_none_of X G z_min,PySem.W.mg_none_of X G z_isinstance,PySem.W.mg_none_of X G z_int,PySem.W.mg_none_of X G z_bool,PySem.W.mg_none_of X G z_str,PySem.W.mg_none_of X G z_list,PySem.W.mg_none_of X G z_tuple,PySem.W.mg_none_of X G z_sum,PySem.W.mg_none_of X G z_all,PySem.W.mg_none_of X G z_enumerate,PySem.W.mg_none_of X G z_zip,PySem.W.mg_none_of X G z_ValueError,PySem.W.mg_none_of X G z_any,PySem.W.mg_none_of X G z_set,PySem.W.mg_none_of X G z_sorted⟩
 refine⟨PySem.W.fnOf "law" "law" (defArgs am) (defBody am) (defScope am) .none kV30 dc30 pm30 an30 cd30 ct30,fun s v=>.of_eq rfl,fun base _ _=>?_⟩
 have m_dict:mg "dict"=none:=PySem.W.mg_none_of X G z_dict
 have ck:Cal l.prog w K mg base CX0 "is_whole" 1 ["thing"] (u9 K):=⟨⟨_,_,AJ F1 M,b1,k1,PySem.W.mg_of X G a1⟩⟩
 have gR:Cal l.prog w K mg base CX0 "is_list_of" 1 ["thing","many"] (xU K):=⟨⟨_,_,zL F2 M,b2,k2,PySem.W.mg_of X G a2⟩⟩
 have i9:Cal l.prog w K mg base CX0 "is_grant" 2 ["entry","grant"] (xQ K):=⟨⟨_,_,AQ F3 M ck,b3,k3,PySem.W.mg_of X G a3⟩⟩
 have cH:Cal l.prog w K mg base CX0 "are_places" 2 ["some","allowed"] (wc K):=⟨⟨_,_,zJ F4 M ck,b4,k4,PySem.W.mg_of X G a4⟩⟩
 have jS:Cal l.prog w K mg base CX0 "is_pair" 2 ["thing"] (yW K):=⟨⟨_,_,Co F5 M ck,b5,k5,PySem.W.mg_of X G a5⟩⟩
 have ja:Cal l.prog w K mg base CX0 "is_route" 3 ["entry","grant","route"] (xV K):=⟨⟨_,_,Bw F6 M cH jS,b6,k6,PySem.W.mg_of X G a6⟩⟩
 have dO:Cal l.prog w K mg base CX0 "amount_through" 1 ["routes","place"] (wZ K):=⟨⟨_,_,xC F7 M,b7,k7,PySem.W.mg_of X G a7⟩⟩
 have eh:Cal l.prog w K mg base CX0 "keep_to_rooms" 2 ["rooms","routes"] (Am K):=⟨⟨_,_,yc F8 M dO,b8,k8,PySem.W.mg_of X G a8⟩⟩
 have fm:Cal l.prog w K mg base CX0 "is_within" 1 ["entry","cut"] (wC K):=⟨⟨_,_,Ac F9 M,b9,k9,PySem.W.mg_of X G a9⟩⟩
 have kT:Cal l.prog w K mg base CX0 "is_cut" 3 ["rooms","line","granted","cut"] (AG K):=⟨⟨_,_,DA F10 M cH fm,b10,k10,PySem.W.mg_of X G a10⟩⟩
 have iq:Cal l.prog w K mg base CX0 "cut_holds" 4 ["rooms","line","granted","cut"] (xZ K):=⟨⟨_,_,AA F11 M kT,b11,k11,PySem.W.mg_of X G a11⟩⟩
 have dQ:Cal l.prog w K mg base CX0 "lets_by" 5 ["rooms","line","granted","routes","cuts"] (wJ K):=⟨⟨_,_,Cu F12 M gR i9 ja eh iq,b12,k12,PySem.W.mg_of X G a12⟩⟩
 have i0:Cal l.prog w K mg base CX0 "led_over" 1 ["line","flows","place"] (CK K):=⟨⟨_,_,Bo F13 M,b13,k13,PySem.W.mg_of X G a13⟩⟩
 have gF:Cal l.prog w K mg base CX0 "reached_by" 2 ["line","flows","entry"] (Cc K):=⟨⟨_,_,zI F14 M m_dict i0,b14,k14,PySem.W.mg_of X G a14⟩⟩
 have i5:Cal l.prog w K mg base CX0 "moves_to" 1 ["reached","place"] (yL K):=⟨⟨_,_,Bb F15 M,b15,k15,PySem.W.mg_of X G a15⟩⟩
 have pz:Cal l.prog w K mg base CX0 "lead" 1 ["flows","left","wanted","moves"] (z5 K):=⟨⟨_,_,Gr F16 M,b16,k16,PySem.W.mg_of X G a16⟩⟩
 have mG:Cal l.prog w K mg base CX0 "serve" 3 ["line","flows","left","entry"] (yR K):=⟨⟨_,_,Ei F17 M gF i5 pz,b17,k17,PySem.W.mg_of X G a17⟩⟩
 have i6:Cal l.prog w K mg base CX0 "route_of" 1 ["flow"] (yE K):=⟨⟨_,_,Bs F18 M,b18,k18,PySem.W.mg_of X G a18⟩⟩
 have je:Cal l.prog w K mg base CX0 "served" 4 ["rooms","line"] (xY K):=⟨⟨_,_,D8 F19 M mG i6,b19,k19,PySem.W.mg_of X G a19⟩⟩
 have bb:Cal l.prog w K mg base CX0 "_law_cell" 1 ["_law_script","_law_k"] (wY K):=⟨⟨_,_,AM F20 M,b20,k20,PySem.W.mg_of X G a20⟩⟩
 have iE:Cal l.prog w K mg base CX0 "_law_rooms" 2 ["_law_script"] (yV K):=⟨⟨_,_,zU F21 M bb,b21,k21,PySem.W.mg_of X G a21⟩⟩
 have jf:Cal l.prog w K mg base CX0 "_law_line" 2 ["_law_script","_law_many"] (AH K):=⟨⟨_,_,A5 F22 M bb,b22,k22,PySem.W.mg_of X G a22⟩⟩
 have cE:Cal l.prog w K mg base CX0 "_law_copy" 1 ["_law_line_here"] (wL K):=⟨⟨_,_,Bp F23 M,b23,k23,PySem.W.mg_of X G a23⟩⟩
 have km:Cal l.prog w K mg base CX0 "_law_due" 1 ["_law_rooms_here","_law_line_here"] (CY K):=⟨⟨_,_,Cp F24 M,b24,k24,PySem.W.mg_of X G a24⟩⟩
 have iD:Cal l.prog w K mg base CX0 "_law_taken" 1 ["_law_route","_law_many"] (zh K):=⟨⟨_,_,zX F25 M,b25,k25,PySem.W.mg_of X G a25⟩⟩
 have ft:Cal l.prog w K mg base CX0 "_law_added" 1 ["_law_route","_law_place","_law_many"] (yZ K fun _=>true):=⟨⟨_,_,Ax F26 M m_dict,b26,k26,PySem.W.mg_of X G a26⟩⟩
 have iF:Cal l.prog w K mg base CX0 "_law_other" 2 ["_law_line_here","_law_found","_law_cell_here"] (zd K):=⟨⟨_,_,AE F27 M iD ft,b27,k27,PySem.W.mg_of X G a27⟩⟩
 have jg:Cal l.prog w K mg base CX0 "_law_cuts" 1 ["_law_line_here","_law_told","_law_own","_law_back","_law_every","_law_cell_here"] (yJ K):=⟨⟨_,_,AW F28 M,b28,k28,PySem.W.mg_of X G a28⟩⟩
 have dJ:Cal l.prog w K mg base CX0 "_law_not_let" 6 ["_law_rooms_here","_law_line_here","_law_granted","_law_routes","_law_cuts_here"] (x9 K):=⟨⟨_,_,yN F29 M dQ cE,b29,k29,PySem.W.mg_of X G a29⟩⟩
 exact G9 F30 M je dQ bb iE jf cE km iF jg dJ
theorem walk {l:PySem.W.OpenLaw} {q:Program} {loose:List Str} {XP:(Str→Option Value)→Heap→Prop} {YP:World→Heap→Prop} {d:DefRec} {K:Params→PySem.W.Frag} (hn:l.most=some 63) (hdf:d.params.defaults=[])
  (hY:∀ (w:World) (h:Heap),YP w h→(K w.params).In h)
  (F:∀ (w:World) (mg:Str→Option Value) (fa:Addr) (h:Heap),(K w.params).In h→h.Ns mainGlobals mg→mg d.name=some (.ref fa) →
   ∃ fd:FuncData,(∀ (s:Shared) (u:Value),BindsTo s fd ⟨[u],[]⟩ [("_law_script",u)])∧∀ base:Heap,(K w.params).In base→base.Ns mainGlobals mg→FnOk l.prog w (K w.params) mg base CX0 7 fa fd ["_law_script"] (zR (K w.params))) :
  PySem.W.WalkO q loose XP YP l.row.toRowW d [] (fun f vs=>PySem.call f vs) :=
 L2.walk_of (n:=63) (k:=7) (x:="_law_script") (CX:=fun _=>CX0) (sp:=fun w=>zR (K w.params)) hn (by decide) hdf ⟨rfl,by decide,by decide⟩ hY F (fun _ _ a ns hl _ hS=>⟨a,ns,rfl,hS,hl,fun _=>rfl⟩) fun _ _ _ _ _ z=>z
end My
namespace PySem.W.Fast
theorem tw6194802959699714585:True:=⟨⟩
theorem tw7380881523376612542:True:=⟨⟩
theorem tw9110138052335760709:True:=⟨⟩
theorem tw1427691910024994578:True:=⟨⟩
theorem tw14777970138751142966:True:=⟨⟩
theorem tw1718457486469734604:True:=⟨⟩
theorem tw17628339373867176202:True:=⟨⟩
theorem tw222146611136888439:True:=⟨⟩
theorem tw9113509131577791718:True:=⟨⟩
theorem tw1472020812461995873:True:=⟨⟩
theorem tw14823923591911091242:True:=⟨⟩
theorem tw7639540169424007493:True:=⟨⟩
theorem tw9905434301782176911:True:=⟨⟩
theorem tw15342792037545340050:True:=⟨⟩
theorem tw1134723265744418367:True:=⟨⟩
theorem tw10398239039251551121:True:=⟨⟩
theorem tw3175000709187299154:True:=⟨⟩
theorem tw2404889500034285216:True:=⟨⟩
theorem tw13347178143059296888:True:=⟨⟩
theorem tw8893485497030699361:True:=⟨⟩
theorem tw16050233355187406563:True:=⟨⟩
theorem tw17880943427238593527:True:=⟨⟩
theorem tw9291300832888370246:True:=⟨⟩
theorem tw2343539814023288340:True:=⟨⟩
theorem tw3047728279296416932:True:=⟨⟩
theorem tw8240134595749806990:True:=⟨⟩
theorem tw5615649390399601575:True:=⟨⟩
theorem tw11135541795729823925:True:=⟨⟩
theorem tw5000153468258818304:True:=⟨⟩
theorem tw13408655122557100463:True:=⟨⟩
theorem tw17185759427676386017:True:=⟨⟩
theorem tw9951999551284327755:True:=⟨⟩
theorem tw17066087753046011756:True:=⟨⟩
theorem tw13689544691701740946:True:=⟨⟩
theorem tw4090466438232671201:True:=⟨⟩
theorem tw8213411205796663038:True:=⟨⟩
theorem tw5219662017973045091:True:=⟨⟩
theorem tw6037840446087096177:True:=⟨⟩
theorem tw16195113904825304172:True:=⟨⟩
theorem tw8307542176919926442:True:=⟨⟩
theorem tw4867292828298520651:True:=⟨⟩
theorem tw14377560087707437734:True:=⟨⟩
theorem tw13961604794919123823:True:=⟨⟩
theorem tw15284983409150919783:True:=⟨⟩
theorem tw16567667285015907745:True:=⟨⟩
theorem tw11680734234335406910:True:=⟨⟩
theorem tw316620915705090558:True:=⟨⟩
theorem tw9348692414352513820:True:=⟨⟩
theorem tw16526532776550106822:True:=⟨⟩
theorem tw1947345328845017471:True:=⟨⟩
theorem tw1230575150243714849:True:=⟨⟩
theorem tw4836116087708893907:True:=⟨⟩
theorem tw10410678438368271375:True:=⟨⟩
theorem tw2410052219848433606:True:=⟨⟩
theorem tw14200272915308840130:True:=⟨⟩
theorem tw1491453247836541915:True:=⟨⟩
theorem tw17259424883020565588:True:=⟨⟩
theorem tw8401686240461678558:True:=⟨⟩
theorem tw8376914124540474489:True:=⟨⟩
theorem tw12210008529090652208:True:=⟨⟩
theorem tw16149706447767348385:True:=⟨⟩
theorem tw3570945142499677666:True:=⟨⟩
theorem tw16330206501616769838:True:=⟨⟩
theorem tw72284953265717703:True:=⟨⟩
theorem tw6059029541112184613:True:=⟨⟩
theorem tw9243687438676154830:True:=⟨⟩
theorem tw13131970169510982492:True:=⟨⟩
theorem tw1253689025021992297:True:=⟨⟩
theorem tw9648706435361908070:True:=⟨⟩
theorem tw17887149649840005462:True:=⟨⟩
theorem tw4955903098998780802:True:=⟨⟩
theorem tw11268282492582407941:True:=⟨⟩
theorem tw1590137128809995380:True:=⟨⟩
theorem tw5427643960705756714:True:=⟨⟩
theorem tw7621917680055933343:True:=⟨⟩
theorem tw16418314787650362366:True:=⟨⟩
theorem tw10288200001256740679:True:=⟨⟩
theorem tw17307138947634432047:True:=⟨⟩
theorem tw15768017296498871857:True:=⟨⟩
theorem tw10010159520770193999:True:=⟨⟩
theorem tw1967880080779456474:True:=⟨⟩
theorem tw7300410037306537441:True:=⟨⟩
theorem tw1775058641686458815:True:=⟨⟩
theorem tw18399316509394935712:True:=⟨⟩
theorem tw13814359925442367868:True:=⟨⟩
theorem tw10392434064737482375:True:=⟨⟩
theorem tw5879193363323342645:True:=⟨⟩
theorem tw16197928880125915490:True:=⟨⟩
theorem tw5449569245470526100:True:=⟨⟩
theorem tw15410654197508226431:True:=⟨⟩
theorem tw18054944388689330690:True:=⟨⟩
theorem tw6151814058570501895:True:=⟨⟩
theorem tw2692625111689024252:True:=⟨⟩
theorem tw3925640162049142448:True:=⟨⟩
theorem tw8269917073382473376:True:=⟨⟩
theorem tw1151159563753261023:True:=⟨⟩
theorem tw9381041871947258829:True:=⟨⟩
theorem tw3375658339512238954:True:=⟨⟩
theorem tw1141314858956263597:True:=⟨⟩
theorem tw1467114292391785349:True:=⟨⟩
theorem tw9173956355727827842:True:=⟨⟩
theorem tw11178154569474923274:True:=⟨⟩
theorem tw16438948377577182426:True:=⟨⟩
theorem tw17934515520963104270:True:=⟨⟩
theorem tw14210721154372503546:True:=⟨⟩
theorem tw2275786000925961735:True:=⟨⟩
theorem tw6721430967146321303:True:=⟨⟩
theorem tw10314330972741185018:True:=⟨⟩
theorem tw17747128758447801919:True:=⟨⟩
theorem tw16820185028099491584:True:=⟨⟩
theorem tw14773181908673407932:True:=⟨⟩
theorem tw941308672646410735:True:=⟨⟩
theorem tw11931020505626669395:True:=⟨⟩
theorem tw3007231444752140044:True:=⟨⟩
theorem tw14462364350439049263:True:=⟨⟩
theorem tw514300358712608650:True:=⟨⟩
theorem tw17777140408209737982:True:=⟨⟩
theorem tw9704508405310817137:True:=⟨⟩
theorem tw7425110821695863244:True:=⟨⟩
theorem tw10704506081892583315:True:=⟨⟩
theorem tw13248648478209730520:True:=⟨⟩
theorem tw9614377642924282839:True:=⟨⟩
theorem tw2503676674935511785:True:=⟨⟩
theorem tw6554639488999932323:True:=⟨⟩
theorem tw7402356362291131557:True:=⟨⟩
theorem tw16664034049093978928:True:=⟨⟩
theorem tw17867435488883088465:True:=⟨⟩
theorem tw15659184405882884244:True:=⟨⟩
theorem tw17915588946996092537:True:=⟨⟩
theorem tw5491894164984168205:True:=⟨⟩
theorem tw5493308711065269761:True:=⟨⟩
theorem tw2417145914345589771:True:=⟨⟩
theorem tw16295292312535067010:True:=⟨⟩
theorem tw708223112756946329:True:=⟨⟩
theorem tw665538140316351643:True:=⟨⟩
theorem tw3859349321717579888:True:=⟨⟩
theorem tw3229115447657762644:True:=⟨⟩
theorem tw993122415565962064:True:=⟨⟩
theorem tw14339845438228937451:True:=⟨⟩
theorem tw4852959862158138747:True:=⟨⟩
theorem tw5501679109098690734:True:=⟨⟩
theorem tw9053614624156260392:True:=⟨⟩
theorem tw1012868591961952955:True:=⟨⟩
theorem tw8753831616136276830:True:=⟨⟩
theorem tw18049922631506108145:True:=⟨⟩
theorem tw10346075756961009533:True:=⟨⟩
theorem tw4700148884287318012:True:=⟨⟩
theorem tw3651676546378475388:True:=⟨⟩
theorem tw14228404486467342825:True:=⟨⟩
theorem tw18396838529877777074:True:=⟨⟩
theorem tw4165058656324268781:True:=⟨⟩
theorem tw6265360216463212145:True:=⟨⟩
theorem tw11283913284477635898:True:=⟨⟩
theorem tw13435196017763069561:True:=⟨⟩
theorem tw8322325182543328458:True:=⟨⟩
theorem tw14588253978414167515:True:=⟨⟩
theorem tw8353109314966797135:True:=⟨⟩
theorem tw3955778070414499547:True:=⟨⟩
theorem tw16469812284867984861:True:=⟨⟩
theorem tw5770119190548021973:True:=⟨⟩
theorem tw10948722500294323356:True:=⟨⟩
theorem tw163760858893240276:True:=⟨⟩
theorem tw8020211643941451356:True:=⟨⟩
theorem tw17931810709661472777:True:=⟨⟩
theorem tw14144810188285982006:True:=⟨⟩
theorem tw17577809778142486367:True:=⟨⟩
theorem tw13822696059633967026:True:=⟨⟩
theorem tw575858657543650339:True:=⟨⟩
theorem tw16770030674735677557:True:=⟨⟩
theorem tw12199178385900396849:True:=⟨⟩
theorem tw6014738703564532752:True:=⟨⟩
theorem tw8724825715392303400:True:=⟨⟩
theorem tw14162377400320824105:True:=⟨⟩
theorem tw18279666228983551191:True:=⟨⟩
theorem tw14371674102983315281:True:=⟨⟩
theorem tw16405455697610117093:True:=⟨⟩
theorem tw9670886290517655384:True:=⟨⟩
theorem tw8737588379479852255:True:=⟨⟩
theorem tw5632746896054648120:True:=⟨⟩
theorem tw17573355322568835398:True:=⟨⟩
theorem tw6068633496914099976:True:=⟨⟩
theorem tw3631405255340154555:True:=⟨⟩
theorem tw6528964368870083853:True:=⟨⟩
theorem tw3943259568844922853:True:=⟨⟩
theorem tw8781109775951237922:True:=⟨⟩
theorem tw3165757446318411650:True:=⟨⟩
theorem tw1706011206829713052:True:=⟨⟩
theorem tw7600668742185062966:True:=⟨⟩
theorem tw12894703722859130637:True:=⟨⟩
theorem tw14999141492088558024:True:=⟨⟩
theorem tw4186064456006384509:True:=⟨⟩
theorem tw6442312814942774244:True:=⟨⟩
theorem tw6170306833905952275:True:=⟨⟩
theorem tw2440434586691883282:True:=⟨⟩
theorem tw488708695731218042:True:=⟨⟩
theorem tw8782698572067400608:True:=⟨⟩
theorem tw1957015042959620603:True:=⟨⟩
theorem tw15504317795568073566:True:=⟨⟩
theorem tw10232476637415493828:True:=⟨⟩
theorem tw4684602185987074356:True:=⟨⟩
theorem tw4192185223753765271:True:=⟨⟩
end PySem.W.Fast
open PySem PySem.W PyProof.Rows
set_option maxRecDepth 100000 in
set_option maxHeartbeats 0 in
theorem PySem.Challenge.cw_tariffgate_k67_whole_no_other_holds : PySem.Challenge.rw_tariffgate_k67_whole_no_other.Holds := by
 w_on; o_law; k_head; (case hw=>w_witness2)
 k_fill
 refine My.walk (l:=PySem.Challenge.rw_tariffgate_k67_whole_no_other) rfl rfl (fun w h Y=>PySem.W.kIn_of Y) ?F
 case F =>
  intro w mg fa h KX G hmg
  refine' My.all_mk KX G hmg ?a1 ?l1 ?c1 ?k1 ?a2 ?l2 ?c2 ?k2 ?a3 ?l3 ?c3 ?k3 ?a4 ?l4 ?c4 ?k4 ?a5 ?l5 ?c5 ?k5 ?a6 ?l6 ?c6 ?k6 ?a7 ?l7 ?c7 ?k7 ?a8 ?l8 ?c8 ?k8 ?a9 ?l9 ?c9 ?k9 ?a10 ?l10 ?c10 ?k10 ?a11 ?l11 ?c11 ?k11 ?a12 ?l12 ?c12 ?k12 ?a13 ?l13 ?c13 ?k13 ?a14 ?l14 ?c14 ?k14 ?a15 ?l15 ?c15 ?k15 ?a16 ?l16 ?c16 ?k16 ?a17 ?l17 ?c17 ?k17 ?a18 ?l18 ?c18 ?k18 ?a19 ?l19 ?c19 ?k19 ?a20 ?l20 ?c20 ?k20 ?a21 ?l21 ?c21 ?k21 ?a22 ?l22 ?c22 ?k22 ?a23 ?l23 ?c23 ?k23 ?a24 ?l24 ?c24 ?k24 ?a25 ?l25 ?c25 ?k25 ?a26 ?l26 ?c26 ?k26 ?a27 ?l27 ?c27 ?k27 ?a28 ?l28 ?c28 ?k28 ?a29 ?l29 ?c29 ?k29 ?a30 ?l30 ?c30 ?k30 ?z_dict ?z_len ?z_range ?z_abs ?z_max ?z_min ?z_isinstance ?z_int ?z_bool ?z_str ?z_list ?z_tuple ?z_sum ?z_all ?z_enumerate ?z_zip ?z_ValueError ?z_any ?z_set ?z_sorted
  case a1 | l1 | c1 | k1 | a2 | l2 | c2 | k2 | a3 | l3 | c3 | k3 | a4 | l4 | c4 | k4 | a5 | l5 | c5 | k5 | a6 | l6 | c6 | k6 | a7 | l7 | c7 | k7 | a8 | l8 | c8 | k8 | a9 | l9 | c9 | k9 | a10 | l10 | c10 | k10 | a11 | l11 | c11 | k11 | a12 | l12 | c12 | k12 | a13 | l13 | c13 | k13 | a14 | l14 | c14 | k14 | a15 | l15 | c15 | k15 | a16 | l16 | c16 | k16 | a17 | l17 | c17 | k17 | a18 | l18 | c18 | k18 | a19 | l19 | c19 | k19 | a20 | l20 | c20 | k20 | a21 | l21 | c21 | k21 | a22 | l22 | c22 | k22 | a23 | l23 | c23 | k23 | a24 | l24 | c24 | k24 | a25 | l25 | c25 | k25 | a26 | l26 | c26 | k26 | a27 | l27 | c27 | k27 | a28 | l28 | c28 | k28 | a29 | l29 | c29 | k29 | a30 | l30 | c30 | k30 | z_dict | z_len | z_range | z_abs | z_max | z_min | z_isinstance | z_int | z_bool | z_str | z_list | z_tuple | z_sum | z_all | z_enumerate | z_zip | z_ValueError | z_any | z_set | z_sorted=>first | k_is | k_exc | kit_is | rfl | kernel_rfl | decide
#print axioms PySem.Challenge.cw_tariffgate_k67_whole_no_other_holds

import PyProof.Rows.All
import Wide.All
import OpenK.AllK
import Wide.FinOn
import Lean
import PyProof.EqAt
import PyProof.EqKinds
import PyProof.TupleCall
import PyProof.NeKinds
import PyProof.Draws
import PyProof.EnumMake
import PyProof.WalksEnum
import PyProof.Rows.EnumRows
import PyProof.ExcArgsOwn
import PyProof.ExcAttrAll.ValueError
import PyProof.ExcBaseAll.ValueError
import KE.KIsAll
import KE.KTryOn
import KE.RegKIsAll
import OpenK.KOwn
import PyProof.ZipIter
import PyProof.StrWalks
import PyProof.DictTable
import PyProof.SetNew
import PyProof.SetRoads
import PyProof.P3In
import PyProof.NeData
import PyProof.AttrMissSeq
import KE.KDictOf
import KE.KDictSum
import PyProof.Rows.SortStr
import PyProof.ExcInit
import PyProof.ExcClass2
import PyProof.InstStoreFacts
import KE.KLam
import KE.KNestM
import PyProof.Rows.SortRuns
import KE.KSortTup
import KE.KDictLaws
import KE.KDictList
import PyProof.ListRange
import PySem.Challenge.RW_tariffgate_k43_looked
set_option Elab.async false
set_option linter.all false
noncomputable section
set_option maxRecDepth 100000
theorem Oz0{a b c:Nat}:(max c a)+1≤b+1→a≤b:=by omega
theorem Oz1{a b c:Nat}:(max a c)+1≤b+1→a≤b:=by omega
theorem Oz2{a:Int}:0≤a→a=((Int.toNat a):Int):=by omega
theorem Oz3{a b:Nat}:b<a→a-(b+1)<a-b:=by omega
theorem Oz4{a b c d:Nat}:a≤c+1→b≤d+1→(max 0 (max a (max b 0)))+1≤((max c d)+1)+1:=by omega
theorem Oz5{a b c d:Nat}:a+60<d→c≤40→(a+1)+(min b c)<d:=by omega
theorem Oz6{a b:Nat}:a<b→a-1<b:=by omega
theorem Oz7{a:Nat}:a<8→(a=0)∨((a=1)∨((a=2)∨((a=3)∨((a=4)∨((a=5)∨((a=6)∨(a=7))))))):=by omega
theorem Oz8{a b:Nat}:a≤b→¬(a<b)→a=b:=by omega
theorem Oz9{a:Int}:0<1+(a%8):=by omega
theorem Oz10{a:Nat}:3+a≤3+a:=by omega
theorem Oz11{a b c:Nat}:c=b→a<c→a<b:=by omega
theorem Oz12{a b c:Nat}:c≤b→c=a→a≤b:=by omega
theorem Oz13{a b:Nat}:((0+a)-1)-b=(a-1)-b:=by omega
theorem Oz14{a:Nat}:1≤a+2:=by omega
theorem Oz15{a b:Nat}:a≤b→a≤b+1:=by omega
theorem Oz16{a b:Nat}{c:Int}:c<(b:Int)→c=(a:Int)→a<b:=by omega
theorem Oz17{a b:Int}:¬(b<a)→a≠b→a<b:=by omega
theorem Oz18{a b c:Nat}:c<a→a<b+1→a-1<b:=by omega
theorem Oz19{a b:Nat}:a<b→a<b:=by omega
theorem Oz20{a b c:Nat}:a≤c→b≤c→(max a b)+1≤c+1:=by omega
theorem Oz21{a:Nat}:a≤1→a+1≤40:=by omega
theorem Oz22{a:Nat}:(a+1)+3=3+(a+1):=by omega
theorem Oz23{a b:Nat}:a≤b→a≤b:=by omega
theorem Oz24{a b c:Nat}:a<c→b=c→a<b:=by omega
theorem Oz25{a b:Nat}:b=4→a%4<b:=by omega
theorem Oz26{a b:Nat}:¬(b≤a)→a≤b:=by omega
theorem Oz27{b:Nat}{a:Int}:a<0→max 0 (min (a+(b:Int)) (b:Int))=((Int.toNat (a+(b:Int))):Int):=by omega
theorem Oz28{a:Nat}{b:Int}:((a+1):Int)≤b→(a:Int)≤b-1:=by omega
theorem Oz29{a b:Nat}:1≤a→¬((max a b)+1=1):=by omega
theorem Oz30{a:Nat}:0≤(a:Int):=by omega
theorem Oz31{a b:Nat}:1≤b→a=b→0<(a:Int):=by omega
theorem Oz32{a:Nat}:1≤3+a:=by omega
theorem Oz33{a:Nat}:Int.toNat ((a:Int)+1)=a+1:=by omega
theorem Oz34{b c:Nat}{a:Int}:b≤c→a<(b:Int)→c<2^63→a<2^63:=by omega
theorem Oz35{a:Nat}:a≤4→a+1≤5:=by omega
theorem Oz36{b c:Nat}{a:Int}:b≤c→-(b:Int)≤a→c<2^63→-(2^63)≤a:=by omega
theorem Oz37{a b c f:Nat}:b=f→f=c→a<c→a<b:=by omega
theorem Oz38{a b:Nat}:a<b→(a:Int)<(b:Int):=by omega
theorem Oz39{a:Int}:¬(0≤a)→a<0:=by omega
theorem Oz40{a b c:Nat}:c=b→a=c→a=b:=by omega
theorem Oz41{a:Nat}:-(10^61)≤0+(a:Int):=by omega
theorem Oz42{a:Nat}:Int.toNat (a:Int)=a:=by omega
theorem Oz43{a:Int}:((0≤a)∧(a<26))→a=((Int.toNat a):Int):=by omega
theorem Oz44{a b e:Nat}{c d:Int}:b=4→((c/64)+(d*(0+(e:Int))))%16=(a:Int)→a/4<b:=by omega
theorem Oz45{a:Nat}:a≤1000→a≤16777216:=by omega
theorem Oz46{a:Nat}:a≤24→a<64:=by omega
theorem Oz47{a b:Nat}:b≤24→min a b≤24:=by omega
theorem Oz48{a c:Nat}:a<c→c≤4→a<64:=by omega
theorem Oz49{a:Nat}:a≤0→1≤a→False:=by omega
theorem Oz50{a c:Nat}:a≤c→c≤4→a≤4:=by omega
theorem Oz51{a b c d:Nat}:d<c→b≤d→¬(a≥b)→(a+b)/2<c:=by omega
theorem Oz52{a b c:Nat}:c≤b→a≤c+1→a≤b+1:=by omega
theorem Oz53{a b:Nat}:b≤4→min a b<64:=by omega
theorem Oz54{a:Int}:1+(a%8)≠0:=by omega
theorem Oz55{a:Nat}:a<64→a≤16777216+1:=by omega
theorem Oz56{a:Nat}:1≤a→1≤(a:Int):=by omega
theorem Oz57{a:Nat}:¬(a+8<8):=by omega
theorem Oz58{a:Nat}:1+1≤a→a-1≠a:=by omega
theorem Oz59{a:Nat}:¬(((a+1):Int)=1)→1≤a:=by omega
theorem Oz60{a b:Nat}:a<b→a≥b-1→a=b-1:=by omega
theorem Oz61{a:Nat}{b:Int}:((1≤b)∧(b≤4))→a<Int.toNat b→a<4:=by omega
theorem Oz62{a b c:Nat}:a<min c b→a<b:=by omega
theorem Oz63{a:Nat}:-(2^62)≤(a:Int):=by omega
theorem Oz64{a b:Nat}:a<b+1→a≥b→a=b:=by omega
theorem Oz65{a b:Nat}:b<a→a-1<a:=by omega
theorem Oz66{a b c:Nat}:a+b≤c→a+b≤c:=by omega
theorem Oz67{a b c:Nat}:a≤c→c≤b→a≤b:=by omega
theorem Oz68{a b:Nat}:a=b→1≤b→0<(a:Int):=by omega
theorem Oz69{a b:Nat}:a<b→a+1≤b:=by omega
theorem Oz70{a b c:Nat}:1≤b→c=b→a=c→0<(a:Int):=by omega
theorem Oz71{a:Nat}:a≤4→(max a a)+1≤5:=by omega
theorem Oz72{a b c:Nat}:c<b→a≤c+1→a≤b:=by omega
theorem Oz73{a b c:Nat}:(a+(3*(b+1)))+5<c→((a+1)+(3*b))+5<c:=by omega
theorem Oz74{c d:Nat}{a b:Int}:c<d→d<1→a<b:=by omega
theorem Oz75{a:Nat}:a≤4→a<64:=by omega
theorem Oz76{a c:Nat}:a<c→c≤4→a<1000:=by omega
theorem Oz77{a:Nat}:((0≤(a:Int))∧((a:Int)<26))→a<26:=by omega
theorem Oz78{a b c:Nat}:(a+(16*(b+1)))+200<c→((a+1)+(16*b))+200<c:=by omega
theorem Oz79{a b c:Nat}:a<c→c=b→a<b:=by omega
theorem Oz80{a:Int}:4≤a→0<a:=by omega
theorem Oz81{a b c d e:Nat}:d+e≤c→d=a→e=b→a+b≤c:=by omega
theorem Oz82{a:Nat}:0+(a:Int)=(a:Int):=by omega
theorem Oz83{a:Nat}:a<4→a<64:=by omega
theorem Oz84{a b:Nat}:¬(b<a)→a≤b:=by omega
theorem Oz85{a b:Nat}:a+60<b→a+1<b:=by omega
theorem Oz86{a b c:Nat}:b=c→a<c→a<b:=by omega
theorem Oz87{a b:Nat}:a<b→a≤b:=by omega
theorem Oz88{a b:Nat}:a<b+1→a≤b:=by omega
theorem Oz89{a b:Nat}:a+60<b→a<b:=by omega
theorem Oz90{a:Int}:0≤a→-(10^61)≤a:=by omega
theorem Oz91{c:Nat}{a b:Int}:c<0→a<b:=by omega
theorem Oz92{a:Nat}:1≤a→0<(a:Int):=by omega
theorem Oz93{a:Nat}:0≤a:=by omega
theorem Oz94{a b:Nat}:a<b→a+1<b+1:=by omega
theorem Oz95{a b c:Nat}:b<2^63→c≤b→c=a→(a:Int)<2^63:=by omega
theorem Oz96{a b c:Nat}:c≤b→a=c→a≤b:=by omega
theorem Oz97{a:Nat}:5+a≤5+a:=by omega
theorem Oz98{a:Int}:a≤10^9→a≤10^61:=by omega
theorem Oz99{a b:Nat}:1≤b→a=b→(a:Int)≠0:=by omega
theorem Oz100{a:Nat}:2+a≤2+a:=by omega
theorem Oz101{a:Nat}:1+a≤1+a:=by omega
theorem Oz102{a:Int}:0<a→0≤a:=by omega
theorem Oz103{a:Nat}:a≤4→(a:Int)≤4:=by omega
theorem Oz104{a:Nat}:a<128→a<1114112:=by omega
theorem Oz105{a:Int}:0<a→a≠0:=by omega
theorem Oz106:¬((0:Nat)>0):=by omega
namespace L2
open PySem PySem.Spec PyProof.Rows
abbrev Key:=Sum Int Str
noncomputable def zB:Key→Value→Bool
 | .inl k,v=>Value.isInt k v
 | .inr x,v=>Value.isStrOf x v
noncomputable def K6 (w:World):Key→Int
 | .inl k=>hashInt k
 | .inr x=>hashStr w x
theorem uG:∀ {k:Key} {v:Value},zB k v=true→(∃ i t,k=Sum.inl i∧v=Value.int i t)∨(∃ x t,k=Sum.inr x∧v=Value.str x t)
 | .inl i,v,h=>by
  obtain⟨t,e⟩:=Value.isInt_shape (k:=i) (v:=v) h
  exact .inl ⟨i,t,rfl,e⟩
 | .inr x,v,h=>by
  obtain⟨t,e⟩:=Value.isStrOf_shape (x:=x) (v:=v) h
  exact .inr ⟨x,t,rfl,e⟩
theorem Gw (i:Int) (t:Tok):zB (.inl i) (.int i t)=true:=by simp [zB,Value.isInt]
theorem GL (x:Str) (t:Tok):zB (.inr x) (.str x t)=true:=by simp [zB,Value.isStrOf]
theorem J3 (a b:Int):decide ((Sum.inl a:Key)=Sum.inl b)=(a == b):=by
 by_cases e:a=b
 ·subst e; simp
 ·have h:¬ (Sum.inl a:Key)=Sum.inl b:=fun q=>e (Sum.inl.inj q)
  rw[decide_eq_false h]
  exact (beq_eq_false_iff_ne.mpr e).symm
theorem Kz (a b:Str):decide ((Sum.inr a:Key)=Sum.inr b)=decide (a=b):=by
 by_cases e:a=b
 ·subst e; simp
 ·have h:¬ (Sum.inr a:Key)=Sum.inr b:=fun q=>e (Sum.inr.inj q)
  rw[decide_eq_false h,decide_eq_false e]
theorem JZ (a:Int) (b:Str):decide ((Sum.inl a:Key)=Sum.inr b)=false:=decide_eq_false (fun q=>nomatch q)
theorem JI (a:Str) (b:Int):decide ((Sum.inr a:Key)=Sum.inl b)=false:=decide_eq_false (fun q=>nomatch q)
noncomputable def uI (prog:Program) (w:World):PySem.KeyKind prog w Key where
 is:=zB
 hash:=K6 w
 inj:=fun v a b ha hb=>by
  rcases uG ha with ⟨i,t,rfl,rfl⟩ | ⟨x,t,rfl,rfl⟩
  ·rcases uG hb with ⟨j,u,rfl,e⟩ | ⟨y,u,rfl,e⟩
   ·injection e with e1 _; rw[e1]
   ·exact nomatch e
  ·rcases uG hb with ⟨j,u,rfl,e⟩ | ⟨y,u,rfl,e⟩
   ·exact nomatch e
   ·injection e with e1 _; rw[e1]
 byValue:=fun k v h=>by
  rcases uG h with ⟨i,t,rfl,rfl⟩ | ⟨x,t,rfl,rfl⟩ <;> rfl
 pyHash:=fun hv h=>by
  rcases uG hv with ⟨i,t,rfl,rfl⟩ | ⟨x,t,rfl,rfl⟩
  ·exact wpAny_pyHash_int h
  ·exact wpAny_pyHash_str h
 eqBool:=fun hu hv h=>by
  rcases uG hu with ⟨i,t,rfl,rfl⟩ | ⟨x,t,rfl,rfl⟩
  ·rcases uG hv with ⟨j,u,rfl,rfl⟩ | ⟨y,u,rfl,rfl⟩
   ·rw[J3] at h; exact wpAny_eqBool_int h
   ·rw[JZ] at h; exact SeqAt.EqAt.int_str i t y u _ _ _ _ h
  ·rcases uG hv with ⟨j,u,rfl,rfl⟩ | ⟨y,u,rfl,rfl⟩
   ·rw[JI] at h; exact SeqAt.EqAt.str_int x t j u _ _ _ _ h
   ·rw[Kz] at h; exact wpAny_eqBool_str h
 «strs»:=fun k x t v h=>by
  rcases uG h with ⟨i,u,rfl,e⟩ | ⟨y,u,rfl,e⟩
  ·exact nomatch e
  ·injection e with e1 _
   subst e1
   cases v <;> rfl
theorem DM (prog:Program) (w:World) (i:Int) (t:Tok):(uI prog w).is (.inl i) (.int i t)=true:=Gw i t
theorem DO (prog:Program) (w:World) (x:Str) (t:Tok):(uI prog w).is (.inr x) (.str x t)=true:=GL x t
inductive V where
 | non | bl (b:Bool) | int (i:Int) | str (x:Str) | byt (b:Array UInt8) | flt (b:UInt64) | ref (a:Addr) | ty (n:String)
 deriving DecidableEq
def RelV:V→Value→Prop
 | .non,u=>u=Value.none
 | .bl b,u=>u=Value.bool b
 | .int i,u=>∃ t,u=Value.int i t
 | .str x,u=>∃ t,u=Value.str x t
 | .byt b,u=>∃ t,u=Value.bytes b t
 | .flt b,u=>∃ t,u=Value.float b t
 | .ref a,u=>u=Value.ref a
 | .ty n,u=>u=Value.type n
abbrev Vals:List V→List Value→Prop:=Paired RelV
theorem Vals.length {xs:List V} {us:List Value} (r:Vals xs us):xs.length=us.length:=Paired.length r
theorem Vals.get:∀ {xs:List V} {us:List Value} {i:Nat} {x:V},Vals xs us→xs[i]?=some x→∃ u,us[i]?=some u∧RelV x u
 | _,_,_,_,.nil,e=>by simp at e
 | _,_,0,_,.cons r _,e=>by simp at e; subst e; exact⟨_,rfl,r⟩
 | _,_,i+1,x,.cons _ t,e=>by
  obtain⟨u,h1,h2⟩:=Vals.get (i:=i) (x:=x) t (by simpa using e)
  exact⟨u,by simpa using h1,h2⟩
theorem Vals.set {x:V} {u:Value} (r:RelV x u):∀ {xs:List V} {us:List Value} (i:Nat),Vals xs us→Vals (xs.set i x) (us.set i u)
 | _,_,_,.nil=>.nil
 | _,_,0,.cons _ t=>.cons r t
 | _,_,i+1,.cons q t=>.cons q (Vals.set r i t)
theorem Vals.append:∀ {xs ys:List V} {us ws:List Value},Vals xs us→Vals ys ws→Vals (xs++ys) (us++ws)
 | _,_,_,_,.nil,s=>s
 | _,_,_,_,.cons r t,s=>.cons r (Vals.append t s)
theorem Vals.take:∀ {xs:List V} {us:List Value} (n:Nat),Vals xs us→Vals (xs.take n) (us.take n)
 | _,_,0,_=>.nil
 | _,_,_+1,.nil=>.nil
 | _,_,n+1,.cons r t=>.cons r (Vals.take n t)
theorem Vals.drop:∀ {xs:List V} {us:List Value} (n:Nat),Vals xs us→Vals (xs.drop n) (us.drop n)
 | _,_,0,r=>r
 | _,_,_+1,.nil=>.nil
 | _,_,n+1,.cons _ t=>Vals.drop n t
def RelO:Option V→Option Value→Prop
 | some v,some u=>RelV v u
 | none,none=>True
 | _,_=>False
def KV {κ:Type}:List (κ×V)→List (κ×Value)→Prop:=Paired fun (p:κ×V) (q:κ×Value)=>p.1=q.1∧RelV p.2 q.2
noncomputable def kV:Key→V
 | .inl i=>.int i
 | .inr x=>.str x
inductive HO where
 /-- a list -/
 | lst (xs:List V)
 /-- a tuple (never changes) -/
 | tup (xs:List V)
 /-- a dict whose keys are ints and texts; one whose keys are tuples of ints and texts (the empty one is both) -/
 | dK (kvs:List (Key×V)) | dT (kvs:List (List Key×V))
 /-- a set of ints: its members,its size -/
 | set (S:Int→Bool) (n:Nat)
 /-- an instance of the class at C,its dict at dx,its attributes -/
 | ins (C dx:Addr) (fs:List (Str×V))
 /-- the dict of the instance at x -/
 | own (x:Addr)
 /-- the dict of an exception -/
 | xd (fs:List (Str×V))
 /-- a bound method,f of x -/
 | met (f x:Addr)
 /-- a range object lo,lo+1,.. below hi -/
 | rng (lo hi:Int)
 /-- a thing that is known to the object (the script; a dict while a loop walks it): read,never written while it is so -/
 | frz (o:Obj) (u:HO)
 /-- a code object's table -/
 | tbl (ps:Array Value)
 /-- any other thing,by what is true of its one object (a def of one's own: SetO a S n:=HO.ext fun h=>..) -/
 | ext (φ:Heap→Prop)
abbrev Hp:=Addr→Option HO
noncomputable def upd (H:Hp) (a:Addr) (o:HO):Hp:=fun b=>if b=a then some o else H b
theorem fj {H:Hp} {a:Addr} {o:HO}:upd H a o a=some o:=by unfold upd; rw[if_pos rfl]
theorem gS {H:Hp} {a b:Addr} {o:HO} (h:b≠a):upd H a o b=H b:=by unfold upd; rw[if_neg h]
theorem BQ {H:Hp} {a b:Addr} {o u:HO} (h:H a=some o) (h':H b=some u) (d:o≠u):a≠b:=by
 intro e; subst e; rw[h] at h'; exact d (Option.some.inj h')
theorem kB {H:Hp} {a b:Addr} {o:HO} (h:H a=some o) (h':H b=none):a≠b:=by
 intro e; subst e; rw[h] at h'; cases h'
section
variable (P:Program) (w:World)
def NoD (h:Heap) (a:Addr):Prop:=∃ o,h.get? a=some o∧o.dict=none
def ObjOk (H:Hp) (h:Heap) (a:Addr):HO→Prop
 | .lst xs=>xs.length≤sizeLine∧∃ (its:List Value) (n:Nat),Vals xs its∧h.get? a=some { cls:=.type "list",data:=.seq its.toArray n }
 | .tup xs=>xs.length≤sizeLine∧∃ its:List Value,Vals xs its∧IsTup h a its.toArray∧NoD h a
 | .dK kvs=>kvs.length≤sizeLine∧(a == sysModules)=false∧∃ vs,KV kvs vs∧h.DictOf (uI P w) a vs
 | .dT kvs=>kvs.length≤sizeLine∧(a == sysModules)=false∧∃ xs:List (List Key×Addr×Value),
   Paired (fun (p:List Key×V) (q:List Key×Addr×Value)=>p.1=q.1∧H q.2.1=some (.tup (p.1.map kV))∧RelV p.2 q.2.2) kvs xs ∧
   ∃ o es ep,h.get? a=some o∧o.ExactDict∧o.data=.dict es ep∧es.toList=xs.map (entryOfKey (tupleKind (uI P w)))∧(xs.map (·.1)).Nodup
 | .set S n=>h.SetOf (intKind P w) a S n
 | .ins C dx fs=>H dx=some (.own a)∧fs.length≤1000∧dx≠a∧h.get? a=some (PySem.W.instObj C dx) ∧
   ∃ mA,h.Ns1 dx mA∧(∀ f,RelO (fs.lookup f) (mA f))∧PySem.Within mA (fs.map (·.1))
 | .own _=>∃ o,h.get? a=some o
 | .xd fs=>∃ mA,h.Ns1 a mA∧∀ f,RelO (fs.lookup f) (mA f)
 | .rng lo hi=>∃ t u v,h.get? a=some { cls:=.type "range",data:=.fields #[.int lo t,.int hi u,.int 1 v] }
 | .frz o u=>h.get? a=some o∧ObjOk H h a u
 | .tbl ps=>h.get? a=some { cls:=.none,data:=.fields ps }
 | .met f x=>h.get? a=some (PySem.W.methodObj (.ref f) (.ref x))
 | .ext φ=>φ h∧(∃ o,h.get? a=some o)∧∀ h1 h2:Heap,φ h1→(∀ o,h1.get? a=some o→h2.get? a=some o)→φ h2
def HOk (H:Hp) (h:Heap):Prop:=∀ a o,H a=some o→ObjOk P w H h a o
end
section
variable {P:Program} {w:World} {H H':Hp} {h h':Heap} {a:Addr} {o:HO}
theorem ObjOk.lt (x:ObjOk P w H h a o):a<h.objs.size:=by
 cases o with
 | lst xs=>obtain⟨_,_,_,_,e⟩:=x; exact Heap.lt_size e
 | tup xs=>obtain⟨_,_,_,p,_⟩:=x; exact p.lt
 | dK kvs=>obtain⟨_,_,_,_,o,_,_,e,_⟩:=x; exact Heap.lt_size e
 | dT kvs=>obtain⟨_,_,_,_,o,_,_,e,_⟩:=x; exact Heap.lt_size e
 | set S n=>obtain⟨o,_,_,_,e,_⟩:=x; exact Heap.lt_size e
 | ins C dx fs=>obtain⟨_,_,_,e,_⟩:=x; exact Heap.lt_size e
 | own y=>obtain⟨_,e⟩:=x; exact Heap.lt_size e
 | xd fs=>obtain⟨_,⟨_,_,_,e,_⟩,_⟩:=x; exact Heap.lt_size e
 | rng lo hi=>obtain⟨_,_,_,e⟩:=x; exact Heap.lt_size e
 | frz ob u=>obtain⟨e,_⟩:=x; exact Heap.lt_size e
 | tbl ps=>exact Heap.lt_size (show h.get? a=some _ from x)
 | met f y=>exact Heap.lt_size (show h.get? a=some _ from x)
 | ext φ=>obtain⟨_,⟨_,e⟩,_⟩:=x; exact Heap.lt_size e
theorem Paired.mapP {α β:Type} {F G:α→β→Prop}:∀ {l₁:List α} {l₂:List β},Paired F l₁ l₂→(∀ a b,F a b→G a b)→Paired G l₁ l₂
 | _,_,.nil,_=>.nil
 | _,_,.cons r t,f=>.cons (f _ _ r) (Paired.mapP t f)
theorem ObjOk.stay (x:ObjOk P w H h a o) (k:∀ b u,(b=a∨H b=some (.own a))→h.get? b=some u→h'.get? b=some u)
  (ho:∀ b,H b=some (.own a)→H' b=some (.own a)) (ht:∀ b xs,H b=some (.tup xs)→H' b=some (.tup xs)):ObjOk P w H' h' a o:=by
 induction o with
 | lst xs=>obtain⟨z,its,n,r,e⟩:=x; exact⟨z,its,n,r,k _ _ (.inl rfl) e⟩
 | tup xs=>obtain⟨z,its,r,⟨ob,e,c⟩,o2,e2,d2⟩:=x; exact⟨z,its,r,⟨ob,k _ _ (.inl rfl) e,c⟩,o2,k _ _ (.inl rfl) e2,d2⟩
 | dK kvs=>obtain⟨z,y,vs,r,ob,es,ep,e,c⟩:=x; exact⟨z,y,vs,r,ob,es,ep,k _ _ (.inl rfl) e,c⟩
 | dT kvs =>
  obtain⟨z,y,xs,r,ob,es,ep,e,c⟩:=x
  exact⟨z,y,xs,Paired.mapP r fun p q z=>⟨z.1,ht _ _ z.2.1,z.2.2⟩,ob,es,ep,k _ _ (.inl rfl) e,c⟩
 | set S n=>obtain⟨ob,es,ep,t,e,c⟩:=x; exact⟨ob,es,ep,t,k _ _ (.inl rfl) e,c⟩
 | ins C dx fs =>
  obtain⟨d,z,ne,e,mA,⟨od,es,ep,e2,c⟩,r⟩:=x
  exact⟨ho _ d,z,ne,k _ _ (.inl rfl) e,mA,⟨od,es,ep,k _ _ (.inr d) e2,c⟩,r⟩
 | own y=>obtain⟨ob,e⟩:=x; exact⟨ob,k _ _ (.inl rfl) e⟩
 | xd fs=>obtain⟨mA,⟨od,es,ep,e,c⟩,r⟩:=x; exact⟨mA,⟨od,es,ep,k _ _ (.inl rfl) e,c⟩,r⟩
 | rng lo hi=>obtain⟨t,u,v,e⟩:=x; exact⟨t,u,v,k _ _ (.inl rfl) e⟩
 | frz ob u ih=>obtain⟨e,q⟩:=x; exact⟨k _ _ (.inl rfl) e,ih q⟩
 | tbl ps =>
  have e:h.get? a=some { cls:=.none,data:=.fields ps }:=x
  show h'.get? a=some { cls:=.none,data:=.fields ps }
  exact k a _ (.inl rfl) e
 | met f y =>
  have e:h.get? a=some (PySem.W.methodObj (.ref f) (.ref y)):=x
  show h'.get? a=some (PySem.W.methodObj (.ref f) (.ref y))
  exact k a _ (.inl rfl) e
 | ext φ=>obtain⟨p,⟨o,e⟩,st⟩:=x; exact⟨st _ _ p fun o q=>k _ _ (.inl rfl) q,⟨o,k _ _ (.inl rfl) e⟩,st⟩
theorem HOk.lt (x:HOk P w H h) (e:H a=some o):a<h.objs.size:=(x a o e).lt
theorem HOk.fresh (x:HOk P w H h) (e:h.objs.size≤a):H a=none:=by
 cases q:H a with
 | none=>rfl
 | some u=>exact absurd (Nat.lt_of_lt_of_le (x.lt q) e) (Nat.lt_irrefl _)
theorem HOk.kept (x:HOk P w H h) (k:∀ b u,h.get? b=some u→h'.get? b=some u):HOk P w H h':=fun a o e =>
 (x a o e).stay (fun b u _ q=>k b u q) (fun _ q=>q) fun _ _ q=>q
theorem HOk.laid (x:HOk P w H h) (k:∀ b u,h.get? b=some u→h'.get? b=some u) (hp:h.objs.size≤a) (new:ObjOk P w (upd H a o) h' a o):HOk P w (upd H a o) h':=fun b u e=>by
 have hn:=x.fresh hp
 by_cases hb:b=a
 ·subst hb; rw[fj] at e; cases e; exact new
 ·rw[gS hb] at e
  exact (x b u e).stay (fun c v _ q=>k c v q) (fun c q=>by rw[gS (kB q hn)]; exact q) fun c xs q=>by rw[gS (kB q hn)]; exact q
end
def Rd (H:Hp) (a:Addr) (u:HO):Prop:=H a=some u∨∃ o,H a=some (.frz o u)
theorem Rd.ok {P:Program} {w:World} {H:Hp} {h:Heap} {a:Addr} {u:HO} (r:Rd H a u) (x:HOk P w H h):ObjOk P w H h a u:=by
 rcases r with r | ⟨o,r⟩
 ·exact x a u r
 ·obtain⟨_,q⟩:=x a _ r
  exact q
def Mut:Option HO→Prop
 | some (.lst _)=>True
 | some (.dK _)=>True
 | some (.dT _)=>True
 | some (.set _ _)=>True
 | some (.ins _ _ _)=>True
 | some (.ext _)=>True
 | _=>False
section
variable {P:Program} {w:World} {H:Hp} {h h':Heap} {x e:Addr} {o':HO}
theorem HOk.write (ok:HOk P w H h) (mu:Mut (H x)) (he:e=x∨H e=some (.own x)) (k:∀ b u,b≠e→h.get? b=some u→h'.get? b=some u) (heo:∃ u,h'.get? e=some u)
  (new:ObjOk P w (upd H x o') h' x o'):HOk P w (upd H x o') h':=fun b u q=>by
 have nown:∀ c y,H c=some (.own y)→c≠x:=fun c y r z=>by subst z; rw[r] at mu; exact mu
 have ntup:∀ c xs,H c=some (.tup xs)→c≠x:=fun c xs r z=>by subst z; rw[r] at mu; exact mu
 by_cases hb:b=x
 ·subst hb; rw[fj] at q; cases q; exact new
 ·rw[gS hb] at q
  by_cases hbe:b=e
  ·have q':H b=some (.own x):=by
    rcases he with z | z
    ·exact absurd (hbe.trans z) hb
    ·rw[hbe]; exact z
   rw[q] at q'; cases q'
   obtain⟨v,hv⟩:=heo
   exact⟨v,by rw[hbe]; exact hv⟩
  ·refine (ok b u q).stay (fun c v hc r=>k c v ?_ r) (fun c r=>by rw[gS (nown c b r)]; exact r) fun c xs r=>by rw[gS (ntup c xs r)]; exact r
   rcases hc with rfl | hc
   ·exact hbe
   ·rintro rfl
    rcases he with z | z
    ·exact nown c b hc z
    ·rw[hc] at z; cases z; exact hb rfl
end
structure Un (fs ex:List Addr) (H H':Hp) (h h':Heap):Prop where
 keep:∀ b o,h.get? b=some o→H b=none→b ∉ fs→b ∉ ex→h'.get? b=some o
 slot:∀ b o,h.get? b=some o→H b=none→b∈fs→b ∉ ex→∃ sl,h'.get? b=some { o with slots:=sl }
 free:∀ b o,h.get? b=some o→H b=none→b ∉ ex→H' b=none
 there:∀ b o,h.get? b=some o→b ∉ ex→∃ o',h'.get? b=some o'
 tups:∀ b xs,H b=some (.tup xs)→H' b=some (.tup xs)
 frzs:∀ b o u,H b=some (.frz o u)→H' b=some (.frz o u)
 tbls:∀ b ps,H b=some (.tbl ps)→∃ more,H' b=some (.tbl (ps++more))
section
variable {fs fs' ex ex':List Addr} {H H1 H2:Hp} {h h1 h2 h':Heap} {a x e:Addr} {o:HO}
theorem Un.any (u:Un fs ex H H1 h h1) {b:Addr} {ob:Obj} (q:h.get? b=some ob) (n:H b=none) (hx:b ∉ ex):∃ sl,h1.get? b=some { ob with slots:=sl }:=by
 by_cases hb:b∈fs
 ·exact u.slot b ob q n hb hx
 ·exact⟨ob.slots,u.keep b ob q n hb hx⟩
theorem Un.kept (k:∀ b u,h.get? b=some u→h'.get? b=some u):Un fs ex H H h h' :=
 ⟨fun b ob q _ _ _=>k b ob q,fun b ob q _ _ _=>⟨ob.slots,k b ob q⟩,fun _ _ _ n _=>n,fun b ob q _=>⟨ob,k b ob q⟩,fun _ _ q=>q,fun _ _ _ q=>q,fun _ ps q=>⟨#[],by rw[q]; simp⟩⟩
theorem Un.refl:Un fs ex H H h h:=Un.kept fun _ _ q=>q
theorem Un.laid (k:∀ b u,h.get? b=some u→h'.get? b=some u) (hp:h.objs.size≤a) (hn:H a=none):Un fs ex H (upd H a o) h h' where
 keep:=fun b u q _ _ _=>k b u q
 slot:=fun b u q _ _ _=>⟨u.slots,k b u q⟩
 free:=fun b u q n _=>by rw[gS (Nat.ne_of_lt (Nat.lt_of_lt_of_le (Heap.lt_size q) hp))]; exact n
 there:=fun b u q _=>⟨u,k b u q⟩
 tups:=fun b xs q=>by rw[gS (kB q hn)]; exact q
 frzs:=fun b u xs q=>by rw[gS (kB q hn)]; exact q
 tbls:=fun b ps q=>⟨#[],by rw[gS (kB q hn),q]; simp⟩
theorem Un.write (mu:Mut (H x)) (he:e=x∨H e=some (.own x)) (k:∀ b u,b≠e→h.get? b=some u→h'.get? b=some u) (heo:∃ u,h'.get? e=some u):Un fs ex H (upd H x o) h h':=by
 have hx:∀ b,H b=none→b≠x:=fun b n z=>by subst z; rw[n] at mu; exact mu
 have hb:∀ b,H b=none→b≠e:=fun b n z=>by
  subst z
  rcases he with r | r
  ·exact hx b n r
  ·rw[n] at r; cases r
 have hm:∀ b u,H b=some u→¬ Mut (some u)→b≠x:=fun b u q nm z=>by subst z; rw[q] at mu; exact nm mu
 refine⟨fun b u q n _ _=>k b u (hb b n) q,fun b u q n _ _=>⟨u.slots,k b u (hb b n) q⟩,fun b u q n _=>by rw[gS (hx b n)]; exact n,fun b u q _=>?_,
  fun b xs q=>by rw[gS (hm b _ q fun z=>z)]; exact q,fun b u xs q=>by rw[gS (hm b _ q fun z=>z)]; exact q,fun b ps q=>⟨#[],by rw[gS (hm b _ q fun z=>z),q]; simp⟩⟩
 by_cases hbe:b=e
 ·subst hbe; exact heo
 ·exact⟨u,k b u hbe q⟩
end
noncomputable def trk (h:Heap) (H:Hp):List Addr:=(List.range h.objs.size).filter fun a=>(H a).isSome
noncomputable def yr (h:Heap) (H:Hp):Heap:=PySem.W.hideAll h (trk h H)
theorem GB (h:Heap) (H:Hp):(yr h H).objs.size=h.objs.size:=PySem.W.hideAll_size _ _
theorem Io {h:Heap} {H:Hp} {b:Addr} {o:Obj} (e:h.get? b=some o) (n:H b=none):(yr h H).get? b=some o :=
 PySem.W.hideAll_get _ e fun hm=>by
  have q:(H b).isSome=true:=(List.mem_filter.mp hm).2
  rw[n] at q; simp at q
theorem Jd {h:Heap} {H:Hp} {b:Addr} {o:Obj} (e:(yr h H).get? b=some o):h.get? b=some o∧H b=none:=by
 have e':h.get? b=some o:=PySem.W.of_hideAll (trk h H) e
 refine⟨e',?_⟩
 cases q:H b with
 | none=>rfl
 | some x =>
  have hm:b∈trk h H:=List.mem_filter.mpr ⟨List.mem_range.mpr (Heap.lt_size e'),by simp [q]⟩
  have z:(yr h H).get? b=none:=PySem.W.hideAll_none (trk h H) hm
  rw[z] at e; cases e
noncomputable def IZ (g h:Heap) (L:Addr):List (Addr×Obj):=(List.range h.objs.size).filterMap fun a=>if a=L∨(g.get? a).isSome=true then none else (h.get? a).map fun o=>(a,o)
noncomputable def rest (g h:Heap) (L d:Addr):List (Addr×Obj):=(IZ g h L).filter fun p=>decide (p.1≠d)
structure Mod (K:PySem.W.Frag) (mg:Str→Option Value) (base:Heap):Prop where
 kin:K.In base
 glob:base.Ns mainGlobals mg
 blt:∃ mb,base.Ns builtinsNs mb∧∀ x:Str,x≠"__name__"→mb x=bootBuiltins x
 nolimit:base.NoLimit
structure Cx where
 prog:Program
 w:World
 K:PySem.W.Frag
 mg:Str→Option Value
 base:Heap
 A:Around
 N:List Str
 s₀:Shared
 H₀:Hp
 env:Env
 outer:List Env
 stack:List Env
 ex:List Addr
 fn:Str→Bool
 calm:Bool
 pn:List (Addr×Obj)
 xe:Value→Shared→Prop
noncomputable def frs (l:List Env):List Addr:=l.filterMap (·.frame)
noncomputable abbrev Cx.fs (X:Cx):List Addr:=frs X.outer
def Vis (sc:Scope) (x:Str):Prop:=sc.names.lookup x=some .local∨sc.names.lookup x=some .cell∨sc.names.lookup x=some .free
def Loc (sc:Scope) (x:Str):Prop:=sc.names.lookup x=some .local∨sc.names.lookup x=some .cell
def Look (env:Env) (h:Heap) (m:Str→Option Value) (x:Str) (u:Value):Prop :=
 (env.kindOf x=some .local∧m x=some u)∨((env.kindOf x=some .cell∨env.kindOf x=some .free)∧∃ c,env.cells.lookup x=some c∧h.IsCell c (some u))
structure Cx.Ok (X:Cx):Prop where
 mod:Mod X.K X.mg X.base
 kind:X.env.scope.kind=.function
 glob:X.env.globals=mainGlobals
 blt:X.env.builtins=builtinsNs
 above:X.s₀.heap.objs.size≤X.env.locals
 inj:∀ x y c,X.env.cells.lookup x=some c→X.env.cells.lookup y=some c→x=y
 has:∀ x,(X.env.kindOf x=some .cell∨X.env.kindOf x=some .free)→∃ c,X.env.cells.lookup x=some c
 cab:∀ x c,X.fn x=true→X.env.cells.lookup x=some c→X.s₀.heap.objs.size≤c
 hd:X.calm=true→X.A.handled=none
 frames:X.A.frames=some X.stack
 stk:X.stack=X.outer∨(X.stack=X.env::X.outer∧X.env.frame=some X.env.locals)
 exf:∀ b∈X.ex,b≠X.env.locals∧∀ x c,X.env.cells.lookup x=some c→c≠b
 bs:∀ b o,X.base.get? b=some o→X.s₀.heap.get? b=some o∧X.H₀ b=none
 bsz:X.base.objs.size≤X.s₀.heap.objs.size
 noex:∀ b o,X.base.get? b=some o→b ∉ X.ex
 exfs:∀ b∈X.ex,b ∉ X.fs
 funs:X.s₀.heap.FunFrames X.base X.outer
 frf:∀ b∈X.fs,X.H₀ b=none
structure Inv (X:Cx) (pins:List (Addr×Obj)) (σ:List (Option V)) (H:Hp) (s:Shared):Prop where
 ok:X.Ok
 os:s.os=X.s₀.os
 bare:AllBare s.gens
 base:Un X.fs X.ex X.H₀ H X.s₀.heap s.heap
 loc:∃ m,s.heap.Ns X.env.locals m∧∀ (i:Nat) (x:Str) (v:V),X.N[i]?=some x→σ[i]?=some (some v)→Vis X.env.scope x→∃ u,RelV v u∧Look X.env s.heap m x u
 cell:∀ x c,X.env.cells.lookup x=some c→∃ v,s.heap.IsCell c v
 free:H X.env.locals=none
 freeC:∀ x c,X.env.cells.lookup x=some c→H c=none
 pin:∀ p∈X.pn++pins,s.heap.get? p.1=some p.2∧H p.1=none∧p.1≠X.env.locals∧p.1 ∉ X.fs∧∀ v,p.2.data≠.cell v
 hok:HOk X.prog X.w H s.heap
 len:σ.length=X.N.length
section
variable {X:Cx} {pins:List (Addr×Obj)} {σ:List (Option V)} {H H':Hp} {s:Shared} {h':Heap}
theorem Cx.Ok.nofr (ok:X.Ok) {b:Addr} {o:Obj} (e:X.base.get? b=some o):b ∉ X.fs:=fun hb=>by
 have:=(ok.funs.mem hb).1
 rw[e] at this; cases this
theorem Inv.bs (I:Inv X pins σ H s):∀ b o,X.base.get? b=some o→s.heap.get? b=some o∧H b=none:=fun b o e =>
 ⟨I.base.keep b o (I.ok.bs b o e).1 (I.ok.bs b o e).2 (I.ok.nofr e) (I.ok.noex b o e),I.base.free b o (I.ok.bs b o e).1 (I.ok.bs b o e).2 (I.ok.noex b o e)⟩
theorem Inv.bk (I:Inv X pins σ H s):∀ b o,X.base.get? b=some o→s.heap.get? b=some o:=fun b o e=>(I.bs b o e).1
theorem Inv.mod (I:Inv X pins σ H s):Mod X.K X.mg X.base:=I.ok.mod
theorem Inv.kIn (I:Inv X pins σ H s):X.K.In s.heap:=I.ok.mod.kin.keeps I.bk
theorem Inv.lt (I:Inv X pins σ H s):X.env.locals<s.heap.objs.size:=let ⟨_,hn,_⟩:=I.loc; hn.lt
theorem Inv.sz (I:Inv X pins σ H s):X.s₀.heap.objs.size≤s.heap.objs.size:=Nat.le_trans I.ok.above (Nat.le_of_lt I.lt)
theorem Inv.nofs (I:Inv X pins σ H s) {a:Addr} (h:s.heap.objs.size≤a):a ∉ X.fs:=fun hb=>by
 obtain⟨_,o,ho,_⟩:=I.ok.funs.mem hb
 exact absurd (Nat.lt_of_lt_of_le (Heap.lt_size ho) (Nat.le_trans I.sz h)) (Nat.lt_irrefl _)
theorem Inv.cne (I:Inv X pins σ H s):∀ x c,X.env.cells.lookup x=some c→c≠X.env.locals:=fun x c e z=>by
 obtain⟨v,o,ho,hd⟩:=I.cell x c e
 obtain⟨m,⟨o',es,ep,ho',hd',_⟩,_⟩:=I.loc
 rw[z,ho'] at ho; cases ho; rw[hd'] at hd; cases hd
theorem Inv.funs (I:Inv X pins σ H s):s.heap.FunFrames X.base X.outer:=by
 have all:∀ (l:List Env),(∀ b∈frs l,b∈X.fs)→X.s₀.heap.FunFrames X.base l→s.heap.FunFrames X.base l:=by
  intro l
  induction l with
  | nil=>intro _ _; trivial
  | cons env r ih =>
   intro hs hl
   obtain⟨hk,⟨L,o,hf,hn,ho,hd⟩,hr⟩:=hl
   have hL:L∈X.fs:=hs L (by unfold frs; rw[List.filterMap_cons,hf]; exact List.mem_cons_self)
   obtain⟨sl,e⟩:=I.base.slot L o ho (I.ok.frf L hL) hL fun z=>I.ok.exfs L z hL
   exact⟨hk,⟨L,_,hf,hn,e,hd⟩,ih (fun b hb=>hs b (by unfold frs; rw[List.filterMap_cons,hf]; exact List.mem_cons_of_mem _ hb)) hr⟩
 exact all X.outer (fun _ hb=>hb) I.ok.funs
theorem Inv.stack (I:Inv X pins σ H s):s.heap.FunFrames X.base X.stack:=by
 rcases I.ok.stk with e | ⟨e,hf⟩
 ·rw[e]; exact I.funs
 ·rw[e]
  obtain⟨m,hn,_⟩:=I.loc
  refine .cons (by rw[I.ok.kind]; decide) hf hn ?_ I.funs
  exact Heap.get?_none_of_le (Nat.le_trans I.ok.bsz I.ok.above)
theorem Inv.stkSub (I:Inv X pins σ H s):∀ b∈frs X.stack,b∈X.env.locals::X.fs:=fun b hb=>by
 rcases I.ok.stk with e | ⟨e,hf⟩
 ·rw[e] at hb; exact List.mem_cons_of_mem _ hb
 ·rw[e] at hb
  unfold frs at hb
  rw[List.filterMap_cons,hf] at hb
  exact hb
theorem Inv.stkFree (I:Inv X pins σ H s):∀ b∈frs X.stack,H b=none:=fun b hb=>by
 rcases List.mem_cons.mp (I.stkSub b hb) with e | hb
 ·rw[e]; exact I.free
 ·obtain⟨_,o,ho,_⟩:=I.ok.funs.mem hb
  exact I.base.free b o ho (I.ok.frf b hb) fun z=>I.ok.exfs b z hb
theorem Inv.step {g':Array GenState} {t':Nat} {d':Drawn} {ch:List Addr} (I:Inv X pins σ H s)
  (hch:∀ b∈ch,(b∈X.ex∨X.s₀.heap.objs.size≤b)∧b≠X.env.locals∧(∀ x c,X.env.cells.lookup x=some c→c≠b)∧∀ p∈X.pn++pins,p.1≠b)
  (keep:∀ b o,b≠X.env.locals→b ∉ X.fs→b ∉ ch→s.heap.get? b=some o→H b=none→h'.get? b=some o)
  (slot:∀ b o,b≠X.env.locals→b∈X.fs→b ∉ ch→s.heap.get? b=some o→H b=none→∃ sl,h'.get? b=some { o with slots:=sl }) (free:∀ b o,b ∉ ch→s.heap.get? b=some o→H b=none→H' b=none)
  (there:∀ b o,b ∉ ch→s.heap.get? b=some o→∃ o',h'.get? b=some o')
  (tups:∀ b xs,H b=some (.tup xs)→H' b=some (.tup xs)) (frzs:∀ b o u,H b=some (.frz o u)→H' b=some (.frz o u)) (tbls:∀ b ps,H b=some (.tbl ps)→∃ more,H' b=some (.tbl (ps++more)))
  (ns:∀ m,s.heap.Ns X.env.locals m→h'.Ns X.env.locals m) (hok:HOk X.prog X.w H' h') (hg:AllBare g') :
  Inv X pins σ H' { s with heap:=h',gens:=g',drawn:=d',toks:=t' }:=by
 have neL:∀ b o,X.s₀.heap.get? b=some o→b≠X.env.locals:=fun b o e=>Nat.ne_of_lt (Nat.lt_of_lt_of_le (Heap.lt_size e) I.ok.above)
 have neC:∀ b o,X.s₀.heap.get? b=some o→b ∉ X.ex→b ∉ ch:=fun b o e hx hb=>by
  rcases (hch b hb).1 with z | z
  ·exact hx z
  ·exact absurd (Nat.lt_of_lt_of_le (Heap.lt_size e) z) (Nat.lt_irrefl _)
 have cellK:∀ x c,X.env.cells.lookup x=some c→∀ v,s.heap.IsCell c v→h'.IsCell c v:=fun x c e v ⟨o,ho,hd⟩=>by
  have nch:c ∉ ch:=fun z=>(hch c z).2.2.1 x c e rfl
  by_cases hc:c∈X.fs
  ·obtain⟨sl,q⟩:=slot c o (I.cne x c e) hc nch ho (I.freeC x c e)
   exact⟨_,q,hd⟩
  ·exact⟨o,keep c o (I.cne x c e) hc nch ho (I.freeC x c e),hd⟩
 refine⟨I.ok,I.os,hg,⟨fun b o e n hb hx=>?_,fun b o e n hb hx=>?_,fun b o e n hx=>?_,fun b o e hx=>?_,fun b xs e=>tups b xs (I.base.tups b xs e),fun b o xs e=>frzs b o xs (I.base.frzs b o xs e),fun b ps e=>?_⟩,?_,fun x c e=>?_,?_,fun x c e=>?_,fun p hp=>?_,hok,I.len⟩
 ·exact keep b o (neL b o e) hb (neC b o e hx) (I.base.keep b o e n hb hx) (I.base.free b o e n hx)
 ·obtain⟨sl,e1⟩:=I.base.slot b o e n hb hx
  obtain⟨sl',e2⟩:=slot b _ (neL b o e) hb (neC b o e hx) e1 (I.base.free b o e n hx)
  exact⟨sl',e2⟩
 ·obtain⟨o',e1⟩:=I.base.there b o e hx
  exact free b o' (neC b o e hx) e1 (I.base.free b o e n hx)
 ·obtain⟨o',e1⟩:=I.base.there b o e hx
  exact there b o' (neC b o e hx) e1
 ·obtain⟨m1,e1⟩:=I.base.tbls b ps e
  obtain⟨m2,e2⟩:=tbls b _ e1
  exact⟨m1++m2,by rw[e2,Array.append_assoc]⟩
 ·obtain⟨m,hn,hl⟩:=I.loc
  refine⟨m,ns m hn,fun i x v e1 e2 e3=>?_⟩
  obtain⟨u,r,l⟩:=hl i x v e1 e2 e3
  refine⟨u,r,?_⟩
  rcases l with l | ⟨k,c,e,z⟩
  ·exact .inl l
  ·exact .inr ⟨k,c,e,cellK x c e _ z⟩
 ·obtain⟨v,z⟩:=I.cell x c e
  exact⟨v,cellK x c e v z⟩
 ·obtain⟨m,⟨o,_,_,ho,_⟩,_⟩:=I.loc
  exact free _ o (fun z=>(hch _ z).2.1 rfl) ho I.free
 ·obtain⟨v,o,ho,hd⟩:=I.cell x c e
  exact free c o (fun z=>(hch c z).2.2.1 x c e rfl) ho (I.freeC x c e)
 ·obtain⟨e,n,ne,nf,d⟩:=I.pin p hp
  have nch:p.1 ∉ ch:=fun z=>(hch p.1 z).2.2.2 p hp rfl
  exact⟨keep p.1 p.2 ne nf nch e n,free p.1 p.2 nch e n,ne,nf,d⟩
theorem Inv.un {t':Nat} (I:Inv X pins σ H s) (u:Un X.fs [] H H' s.heap h') (hok:HOk X.prog X.w H' h'):Inv X pins σ H' { s with heap:=h',toks:=t' }:=by
 obtain⟨m,⟨o,es,ep,ho,r⟩,_⟩:=id I.loc
 obtain⟨sl,hL⟩:=u.any ho I.free (by simp)
 exact I.step (g':=s.gens) (d':=s.drawn) (ch:=[]) (fun _ z=>nomatch z) (fun b o _ hb _ e n=>u.keep b o e n hb (by simp)) (fun b o _ hb _ e n=>u.slot b o e n hb (by simp)) (fun b o _ e n=>u.free b o e n (by simp)) (fun b o _ e=>u.there b o e (by simp)) u.tups u.frzs u.tbls (fun m' hm=>by
  obtain⟨o',es',ep',ho',r'⟩:=hm
  rw[ho] at ho'; cases ho'
  exact⟨_,es',ep',hL,r'⟩) hok I.bare
theorem Inv.call {g':Array GenState} {t':Nat} {d':Drawn} {ch:List Addr} (I:Inv X pins σ H s) (u:Un (frs X.stack) ch H H' s.heap h') (hok:HOk X.prog X.w H' h') (hg:AllBare g')
  (hch:∀ b∈ch,(b∈X.ex∨X.s₀.heap.objs.size≤b)∧b≠X.env.locals∧(∀ x c,X.env.cells.lookup x=some c→c≠b)∧∀ p∈X.pn++pins,p.1≠b) :
  Inv X pins σ H' { s with heap:=h',gens:=g',drawn:=d',toks:=t' }:=by
 obtain⟨m,⟨o,es,ep,ho,r⟩,_⟩:=id I.loc
 obtain⟨sl,hL⟩:=u.any ho I.free fun z=>(hch _ z).2.1 rfl
 exact I.step (ch:=ch) hch (fun b o hL hb hc e n=>u.keep b o e n (fun z=>(List.mem_cons.mp (I.stkSub b z)).elim hL hb) hc) (fun b o _ _ hc e n=>u.any e n hc) (fun b o hc e n=>u.free b o e n hc) (fun b o hc e=>u.there b o e hc) u.tups u.frzs u.tbls (fun m' hm=>by
  obtain⟨o',es',ep',ho',r'⟩:=hm
  rw[ho] at ho'; cases ho'
  exact⟨_,es',ep',hL,r'⟩) hok hg
theorem Inv.turned {t':Nat} {it:Addr} (I:Inv X pins σ H s) (k:∀ b o,b≠it→s.heap.get? b=some o→h'.get? b=some o) (hn:H it=none) (hL:it≠X.env.locals)
  (h1:it∈X.ex∨X.s₀.heap.objs.size≤it) (h2:∀ x c,X.env.cells.lookup x=some c→c≠it) (h3:∀ p∈X.pn++pins,p.1≠it):Inv X pins σ H { s with heap:=h',toks:=t' }:=by
 have nit:∀ b u,H b=some u→b≠it:=fun b u e z=>by rw[z,hn] at e; cases e
 refine I.step (g':=s.gens) (d':=s.drawn) (ch:=[it]) (fun b hb=>?_) (fun b o _ _ hc e _=>k b o (fun z=>hc (by simp [z])) e) (fun b o _ _ hc e _=>⟨o.slots,k b o (fun z=>hc (by simp [z])) e⟩) (fun _ _ _ _ n=>n)
  (fun b o hc e=>⟨o,k b o (fun z=>hc (by simp [z])) e⟩) (fun _ _ e=>e) (fun _ _ _ e=>e) (fun b ps e=>⟨#[],by rw[e]; simp⟩) (fun m hm=>?_) (fun b u e=>?_) I.bare
 ·have e:b=it:=by simpa using hb
  subst e
  exact⟨h1,hL,h2,h3⟩
 ·obtain⟨o,es,ep,ho,r⟩:=hm
  exact⟨o,es,ep,k _ o (Ne.symm hL) ho,r⟩
 ·refine (I.hok b u e).stay (fun c v hc q=>k c v ?_ q) (fun _ q=>q) fun _ _ q=>q
  rcases hc with z | z
  ·rw[z]; exact nit b u e
  ·exact nit c _ z
theorem Inv.tok (I:Inv X pins σ H s) (t:Nat):Inv X pins σ H { s with toks:=t }:=I.un (h':=s.heap) (t':=t) Un.refl I.hok
theorem Inv.kept {t':Nat} (I:Inv X pins σ H s) (k:∀ b u,s.heap.get? b=some u→h'.get? b=some u):Inv X pins σ H { s with heap:=h',toks:=t' }:=I.un (Un.kept k) (I.hok.kept k)
theorem Inv.laid {a:Addr} {o:HO} {t':Nat} (I:Inv X pins σ H s) (k:∀ b u,s.heap.get? b=some u→h'.get? b=some u) (hp:s.heap.objs.size≤a) (new:ObjOk X.prog X.w (upd H a o) h' a o) :
  Inv X pins σ (upd H a o) { s with heap:=h',toks:=t' }:=I.un (Un.laid k hp (I.hok.fresh hp)) (I.hok.laid k hp new)
theorem Inv.write {x e:Addr} {o:HO} {t':Nat} (I:Inv X pins σ H s) (mu:Mut (H x)) (he:e=x∨H e=some (.own x)) (k:∀ b u,b≠e→s.heap.get? b=some u→h'.get? b=some u) (heo:∃ u,h'.get? e=some u)
  (new:ObjOk X.prog X.w (upd H x o) h' x o):Inv X pins σ (upd H x o) { s with heap:=h',toks:=t' }:=I.un (Un.write mu he k heo) (I.hok.write mu he k heo new)
theorem Inv.pins_of {pins':List (Addr×Obj)} (I:Inv X pins σ H s) (h:∀ p∈pins',s.heap.get? p.1=some p.2∧H p.1=none∧p.1≠X.env.locals∧p.1 ∉ X.fs∧∀ v,p.2.data≠.cell v):Inv X pins' σ H s :=
 ⟨I.ok,I.os,I.bare,I.base,I.loc,I.cell,I.free,I.freeC,fun p hp=>(List.mem_append.mp hp).elim (fun z=>I.pin p (List.mem_append_left _ z)) (h p),I.hok,I.len⟩
theorem B8 {N:List Str} (hN:N.Nodup) {i j:Nat} {x:Str} (a:N[i]?=some x) (b:N[j]?=some x):i=j:=by
 obtain⟨h1,e1⟩:=List.getElem?_eq_some_iff.mp a
 obtain⟨h2,e2⟩:=List.getElem?_eq_some_iff.mp b
 exact (List.getElem_inj hN).mp (e1.trans e2.symm)
theorem Bs {M:Model} {A:Around} {E:Value→Shared→Prop} {i:Nat} {x:Str} {v:V} {u:Value} {Q:Unit→Shared→Prop} (I:Inv X pins σ H s) (hN:X.N.Nodup) (hi:X.N[i]?=some x) (hx:Loc X.env.scope x) (r:RelV v u)
  (h:∀ s',Inv X pins (σ.set i (some v)) H s'→(∃ a,Heap.SameBut a s.heap s'.heap∧(a=X.env.locals∨X.env.cells.lookup x=some a))→Q () s') (hf:X.fn x=true∨X.env.scope.names.lookup x=some .local:=by first | exact .inl rfl | exact .inr rfl | assumption):wpAny M A (storeName X.env x u) Q E s:=by
 obtain⟨m,hn,hl⟩:=id I.loc
 have hcls:(X.env.scope.kind == .class || (X.env.scope.kind == .module && X.env.locals != X.env.globals))=false:=by rw[I.ok.kind]; rfl
 have hiσ:i<σ.length:=by rw[I.len]; exact (List.getElem?_eq_some_iff.mp hi).1
 have cne:=I.cne
 have tracked:∀ {a:Addr} {h':Heap},(∃ o,s.heap.get? a=some o∧H a=none)→Heap.SameBut a s.heap h'→HOk X.prog X.w H h':=fun {a h'} ha hs b ob e=>by
  obtain⟨_,_,hfree⟩:=ha
  refine (I.hok b ob e).stay (fun c w' hc q=>(hs.2 c ?_).trans q) (fun _ q=>q) fun _ _ q=>q
  rintro rfl
  rcases hc with rfl | hc
  ·rw[hfree] at e; cases e
  ·rw[hfree] at hc; cases hc
 rcases hx with hk | hk
 ·refine wpAny_storeName_local hk hn (fun h' hn' hs=>?_) hcls
  obtain⟨oL,_,_,hoL,_⟩:=id hn
  refine h _ ⟨I.ok,I.os,I.bare,⟨fun b o e n hb hx=>?_,fun b o e n hb hx=>?_,I.base.free,fun b o e hx=>?_,I.base.tups,I.base.frzs,I.base.tbls⟩,⟨_,hn',fun j y v' e1 e2 e3=>?_⟩,fun y c e=>?_,I.free,I.freeC,fun p hp=>?_,tracked ⟨oL,hoL,I.free⟩ hs,by simpa using I.len⟩ ⟨_,hs,.inl rfl⟩
  ·exact (hs.2 b (Nat.ne_of_lt (Nat.lt_of_lt_of_le (Heap.lt_size e) I.ok.above))).trans (I.base.keep b o e n hb hx)
  ·obtain⟨sl,e1⟩:=I.base.slot b o e n hb hx
   exact⟨sl,(hs.2 b (Nat.ne_of_lt (Nat.lt_of_lt_of_le (Heap.lt_size e) I.ok.above))).trans e1⟩
  ·obtain⟨o',e1⟩:=I.base.there b o e hx
   exact⟨o',(hs.2 b (Nat.ne_of_lt (Nat.lt_of_lt_of_le (Heap.lt_size e) I.ok.above))).trans e1⟩
  ·by_cases hj:j=i
   ·subst hj
    rw[hi] at e1; cases e1
    rw[List.getElem?_set_self hiσ] at e2
    cases e2
    exact⟨u,r,.inl ⟨hk,by simp⟩⟩
   ·rw[List.getElem?_set_ne (Ne.symm hj)] at e2
    obtain⟨u',r',q⟩:=hl j y v' e1 e2 e3
    refine⟨u',r',?_⟩
    rcases q with ⟨k,e⟩ | ⟨k,c,e,z⟩
    ·refine .inl ⟨k,?_⟩
     have:y≠x:=fun e=>hj (B8 hN e1 (e ▸ hi))
     simp [this,e]
    ·exact .inr ⟨k,c,e,z.sameBut hs (cne y c e)⟩
  ·obtain⟨w',z⟩:=I.cell y c e
   exact⟨w',z.sameBut hs (cne y c e)⟩
  ·obtain⟨e,n,ne,nf,d⟩:=I.pin p hp
   exact⟨(hs.2 p.1 ne).trans e,n,ne,nf,d⟩
 ·have hfn:X.fn x=true:=by
   rcases hf with z | z
   ·exact z
   ·rw[z] at hk; cases hk
  obtain⟨c,hc⟩:=I.ok.has x (.inl hk)
  obtain⟨w',z⟩:=I.cell x c hc
  refine wpAny_storeName_cell I.ok.kind hk hc z (fun h' hc' hs=>?_)
  obtain⟨oc,hoc,hocd⟩:=id z
  refine h { s with heap:=h' } ⟨I.ok,I.os,I.bare,⟨fun b o e n hb hx=>?_,fun b o e n hb hx=>?_,I.base.free,fun b o e hx=>?_,I.base.tups,I.base.frzs,I.base.tbls⟩,⟨m,hn.sameBut hs (Ne.symm (cne x c hc)),fun j y v' e1 e2 e3=>?_⟩,fun y c' e=>?_,I.free,I.freeC,fun p hp=>?_,tracked ⟨oc,hoc,I.freeC x c hc⟩ hs,by simpa using I.len⟩ ⟨c,hs,.inr hc⟩
  ·exact (hs.2 b (Nat.ne_of_lt (Nat.lt_of_lt_of_le (Heap.lt_size e) (I.ok.cab x c hfn hc)))).trans (I.base.keep b o e n hb hx)
  ·obtain⟨sl,e1⟩:=I.base.slot b o e n hb hx
   exact⟨sl,(hs.2 b (Nat.ne_of_lt (Nat.lt_of_lt_of_le (Heap.lt_size e) (I.ok.cab x c hfn hc)))).trans e1⟩
  ·obtain⟨o',e1⟩:=I.base.there b o e hx
   exact⟨o',(hs.2 b (Nat.ne_of_lt (Nat.lt_of_lt_of_le (Heap.lt_size e) (I.ok.cab x c hfn hc)))).trans e1⟩
  ·by_cases hj:j=i
   ·subst hj
    rw[hi] at e1; cases e1
    rw[List.getElem?_set_self hiσ] at e2
    cases e2
    exact⟨u,r,.inr ⟨.inl hk,c,hc,hc'⟩⟩
   ·rw[List.getElem?_set_ne (Ne.symm hj)] at e2
    obtain⟨u',r',q⟩:=hl j y v' e1 e2 e3
    refine⟨u',r',?_⟩
    rcases q with q | ⟨k,c',e,z'⟩
    ·exact .inl q
    ·refine .inr ⟨k,c',e,z'.sameBut hs ?_⟩
     rintro rfl
     exact hj (B8 hN e1 (I.ok.inj _ _ _ e hc ▸ hi))
  ·by_cases hcc:c'=c
   ·subst hcc; exact⟨_,hc'⟩
   ·obtain⟨w2,z2⟩:=I.cell y c' e
    exact⟨w2,z2.sameBut hs hcc⟩
  ·obtain⟨e,n,ne,nf,d⟩:=I.pin p hp
   refine⟨(hs.2 p.1 ?_).trans e,n,ne,nf,d⟩
   intro q
   rw[q,hoc] at e
   have q':oc=p.2:=Option.some.inj e
   exact d w' (by rw[← q']; exact hocd)
theorem C3 {M:Model} {A:Around} {E:Value→Shared→Prop} {i:Nat} {x:Str} {v:V} {u:Value} {Q:Unit→Shared→Prop} (I:Inv X pins σ H s) (hN:X.N.Nodup) (hi:X.N[i]?=some x) (hx:Loc X.env.scope x) (r:RelV v u)
  (h:∀ s',Inv X pins (σ.set i (some v)) H s'→Q () s') (hf:X.fn x=true∨X.env.scope.names.lookup x=some .local:=by first | exact .inl rfl | exact .inr rfl | assumption):wpAny M A (storeName X.env x u) Q E s :=
 Bs I hN hi hx r (fun s' I' _=>h s' I') hf
theorem Inv.call' {s':Shared} {ch:List Addr} (I:Inv X pins σ H s) (ho:s'.os=s.os) (u:Un (frs X.stack) ch H H' s.heap s'.heap) (hok:HOk X.prog X.w H' s'.heap) (hg:AllBare s'.gens)
  (hch:∀ b∈ch,(b∈X.ex∨X.s₀.heap.objs.size≤b)∧b≠X.env.locals∧(∀ x c,X.env.cells.lookup x=some c→c≠b)∧∀ p∈X.pn++pins,p.1≠b):Inv X pins σ H' s':=by
 obtain⟨h',g',d',t',o'⟩:=s'
 have e:o'=s.os:=ho
 subst e
 exact I.call (g':=g') (t':=t') (d':=d') u hok hg hch
end
abbrev XK:=Value→Option Addr→Hp→Prop
abbrev St:=List (Option V)
abbrev VK:=V→Hp→Prop
abbrev TE:=St→Hp→VK→Prop
abbrev TT:=St→Hp→(Bool→Hp→Prop)→Prop
abbrev TA:=St→Hp→(List V→Hp→Prop)→Prop
structure Ends where
 nx:St→Hp→Prop
 rt:VK
 bk:St→Hp→Prop:=fun _ _=>False
 ct:St→Hp→Prop:=fun _ _=>False
abbrev TS:=Ends→St→Hp→Prop
def EP (X:Cx) (pins:List (Addr×Obj)) (σ:St) (Q:VK) (u:Value) (s':Shared):Prop:=∃ v H',Inv X pins σ H' s'∧RelV v u∧Q v H'
def TP (X:Cx) (pins:List (Addr×Obj)) (σ:St) (Q:Bool→Hp→Prop) (b:Bool) (s':Shared):Prop:=∃ H',Inv X pins σ H' s'∧Q b H'
def AP (X:Cx) (pins:List (Addr×Obj)) (σ:St) (Q:List V→Hp→Prop) (us:List Value) (s':Shared):Prop:=∃ vs H',Inv X pins σ H' s'∧Vals vs us∧Q vs H'
def SP (X:Cx) (pins:List (Addr×Obj)) (D:Ends) (f:Flow) (s':Shared):Prop :=
 match f with
 | .next=>∃ σ' H',Inv X pins σ' H' s'∧D.nx σ' H'
 | .brk=>∃ σ' H',Inv X pins σ' H' s'∧D.bk σ' H'
 | .cont=>∃ σ' H',Inv X pins σ' H' s'∧D.ct σ' H'
 | .ret u=>∃ v σ' H',Inv X pins σ' H' s'∧RelV v u∧D.rt v H'
def PE (X:Cx) (e:Expr) (t:TE):Prop :=
 ∀ (pins:List (Addr×Obj)) (s:Shared) (σ:St) (H:Hp) (Q:VK),Inv X pins σ H s→t σ H Q→wpAny (model X.prog X.w) X.A (eval e X.env) (EP X pins σ Q) X.xe s
def PT (X:Cx) (e:Expr) (t:TT):Prop :=
 ∀ (pins:List (Addr×Obj)) (s:Shared) (σ:St) (H:Hp) (Q:Bool→Hp→Prop),Inv X pins σ H s→t σ H Q→wpAny (model X.prog X.w) X.A (isTrue e X.env (eval e X.env)) (TP X pins σ Q) X.xe s
def PW (X:Cx) (e:Expr) (t:TT):Prop :=
 ∀ (whole:Sem Value) (pins:List (Addr×Obj)) (s:Shared) (σ:St) (H:Hp) (Q:Bool→Hp→Prop),Inv X pins σ H s→t σ H Q→wpAny (model X.prog X.w) X.A (isTrue e X.env whole) (TP X pins σ Q) X.xe s
theorem PW.pt {X:Cx} {e:Expr} {t:TT} (h:PW X e t):PT X e t:=h _
def PA (X:Cx) (es:List Expr) (t:TA):Prop :=
 ∀ (pos:Pos) (pins:List (Addr×Obj)) (s:Shared) (σ:St) (H:Hp) (Q:List V→Hp→Prop),Inv X pins σ H s→t σ H Q→wpAny (model X.prog X.w) X.A (spliced (backTo pos (starEach es X.env))) (AP X pins σ Q) X.xe s
def PS (X:Cx) (st:Stmt) (t:TS):Prop :=
 ∀ (pins:List (Addr×Obj)) (s:Shared) (σ:St) (H:Hp) (D:Ends),Inv X pins σ H s→t D σ H→wpAny (model X.prog X.w) X.A (exec st X.env) (SP X pins D) X.xe s
def PSs (X:Cx) (st:List Stmt) (t:TS):Prop :=
 ∀ (pins:List (Addr×Obj)) (s:Shared) (σ:St) (H:Hp) (D:Ends),Inv X pins σ H s→t D σ H→wpAny (model X.prog X.w) X.A (execs st X.env) (SP X pins D) X.xe s
theorem thn {α:Type} {t:Sem α} {Q Q':α→Shared→Prop} {M:Model} {A:Around} {E:Value→Shared→Prop} {s:Shared} (h:wpAny M A t Q E s) (hQ:∀ a s,Q a s→Q' a s):wpAny M A t Q' E s:=wpAny_mono h hQ fun _ _ x=>x
section
variable {X:Cx}
theorem bin {a b:Expr} {ta tb:TE} (ha:PE X a ta) (hb:PE X b tb) {pins:List (Addr×Obj)} {s:Shared} {σ:St} {H:Hp} {R:V→V→Hp→Prop} (I:Inv X pins σ H s) (h:ta σ H fun x H1=>tb σ H1 fun y H2=>R x y H2)
  {α:Type} {Q:α→Shared→Prop} {f:Value→Value→Sem α}
  (hf:∀ v u s2 x y H2,Inv X pins σ H2 s2→RelV x v→RelV y u→R x y H2→wpAny (model X.prog X.w) X.A (f v u) Q X.xe s2) :
  wpAny (model X.prog X.w) X.A (eval a X.env) (fun v s₁=>wpAny (model X.prog X.w) X.A (eval b X.env) (fun u s₂=>wpAny (model X.prog X.w) X.A (f v u) Q X.xe s₂) X.xe s₁) X.xe s:=by
 refine thn (ha pins s σ H _ I h) fun v s1 ⟨x,H1,I1,r1,q1⟩=>?_
 refine thn (hb pins s1 σ H1 _ I1 q1) fun u s2 ⟨y,H2,I2,r2,q2⟩=>?_
 exact hf v u s2 x y H2 I2 r1 r2 q2
def CB (i:Nat):TE:=fun σ H Q=>∃ v,σ[i]?=some (some v)∧Q v H
def tC (v:V):TE:=fun _ H Q=>Q v H
theorem eF {i:Nat} {x:Str} {pos:Pos} (hN:X.N[i]?=some x) (hv:Vis X.env.scope x) (hd:(x == ("__debug__":Str))=false:=by decide) (hcd:(x == ("__classdict__":Str))=false:=by decide):PE X (.Name x pos) (CB i):=by
 intro pins s σ H Q I h
 obtain⟨v,e,h⟩:=h
 obtain⟨m,hn,hl⟩:=I.loc
 obtain⟨u,r,l⟩:=hl i x v hN e hv
 have fin:EP X pins σ Q u s:=⟨v,H,I,r,h⟩
 rcases l with ⟨hk,hm⟩ | ⟨hk,c,hc,hcell⟩
 ·exact wpAny_Name (wpAny_loadName_local I.ok.kind hk hn hm fin) hd
 ·rcases hk with hk | hk
  ·exact wpAny_Name (wpAny_loadName_cell I.ok.kind hk hc hcell fin) hd
  ·exact wpAny_Name (wpAny_loadName_free I.ok.kind hk hc hcell fin hcd) hd
theorem ff {i j pos}:PE X (.Constant (.int i) j pos) (tC (.int i)):=fun _ _ _ H _ I h=>wpAny_Constant_int ⟨.int i,H,I.tok _,⟨_,rfl⟩,h⟩
theorem sf {b j pos}:PE X (.Constant (.bool b) j pos) (tC (.bl b)):=fun _ _ _ H _ I h=>Constant_bool ⟨.bl b,H,I,rfl,h⟩
theorem CV {j pos}:PE X (.Constant .none j pos) (tC .non):=fun _ _ _ H _ I h=>Constant_none ⟨.non,H,I,rfl,h⟩
theorem nS {x j pos}:PE X (.Constant (.str x) j pos) (tC (.str x)):=fun _ _ _ H _ I h=>Calls.Constant_str ⟨.str x,H,I.tok _,⟨_,rfl⟩,h⟩
def Gl (X:Cx) (x:Str):Prop:=X.env.kindOf x=some .globalImplicit
theorem zq {E:Value→Shared→Prop} {pins:List (Addr×Obj)} {s:Shared} {σ:St} {H:Hp} {x:Str} {u:Value} {pos:Pos} {Q:Value→Shared→Prop} (I:Inv X pins σ H s) (hg:Gl X x) (hm:X.mg x=some u) (h:Q u s)
  (hd:(x == ("__debug__":Str))=false:=by decide):wpAny (model X.prog X.w) X.A (eval (.Name x pos) X.env) Q E s :=
 Calls.Name_function_global I.ok.kind hg (Calls.loadGlobal_global (by rw[I.ok.glob]; exact I.mod.glob.keeps I.bk) hm h) hd
theorem xP {E:Value→Shared→Prop} {pins:List (Addr×Obj)} {s:Shared} {σ:St} {H:Hp} {x:Str} {u:Value} {pos:Pos} {Q:Value→Shared→Prop} (I:Inv X pins σ H s) (hg:Gl X x) (hm:X.mg x=none) (hv:bootBuiltins x=some u) (h:Q u s)
  (hn:x≠"__name__":=by decide) (hd:(x == ("__debug__":Str))=false:=by decide):wpAny (model X.prog X.w) X.A (eval (.Name x pos) X.env) Q E s:=by
 obtain⟨mb,h1,h2⟩:=I.mod.blt
 exact Calls.Name_function_global I.ok.kind hg (Calls.loadGlobal_builtin (by rw[I.ok.glob]; exact I.mod.glob.keeps I.bk) hm (by rw[I.ok.blt]; exact h1.keeps I.bk) ((h2 x hn).trans hv) h) hd
theorem uT {x:Str} {v:V} {u:Value} {pos:Pos} (hg:Gl X x) (hm:X.mg x=none) (hv:bootBuiltins x=some u) (r:RelV v u) (hn:x≠"__name__":=by decide) (hd:(x == ("__debug__":Str))=false:=by decide):PE X (.Name x pos) (tC v) :=
 fun _ _ _ H _ I h=>xP I hg hm hv ⟨v,H,I,r,h⟩ hn hd
variable {a b:Expr} {ta tb:TE} {pos:Pos}
def PC (X:Cx) (op:CmpOp) (a b:Expr) (t:TE):Prop :=
 ∀ (pins:List (Addr×Obj)) (s:Shared) (σ:St) (H:Hp) (Q:VK),Inv X pins σ H s→t σ H Q →
  wpAny (model X.prog X.w) X.A (eval a X.env) (fun v s₁=>wpAny (model X.prog X.w) X.A (eval b X.env) (fun u s₂=>wpAny (model X.prog X.w) X.A (compareOp op v u) (EP X pins σ Q) X.xe s₂) X.xe s₁) X.xe s
theorem HC (b:Expr) {op:CmpOp} (h:op≠.In) (h2:op≠.NotIn):behindInMarks op b=false:=by
 have e1:(op == CmpOp.In)=false:=by cases op <;> first | rfl | exact absurd rfl h
 have e2:(op == CmpOp.NotIn)=false:=by cases op <;> first | rfl | exact absurd rfl h2
 cases b <;> simp [behindInMarks,e1,e2]
def tB (t:TE):TT:=fun σ H Q=>t σ H fun x H1=>∃ c,x=.bl c∧Q c H1
theorem Lg {op:CmpOp} {t:TE} (h:PC X op a b t) (h1:behindInMarks op b=false:=by first | exact HC _ (by decide) (by decide) | rfl):PT X (.Compare a [op] [b] pos) (tB t):=by
 intro pins s σ H Q I hw
 refine wpAny_isTrue_Compare1 (thn (h pins s σ H _ I hw) fun v s1 h1=>thn h1 fun u s2 h2=>thn h2 fun c s3 ⟨x,H1,I1,r1,q1⟩=>?_) h1
 obtain⟨d,rfl,q⟩:=q1
 cases r1
 exact wpAny_truthy_bool ⟨H1,I1,q⟩
theorem qY {e:Expr} {t:TE} (h:PE X e t) (he:∀ whole,isTrue e X.env whole=(do let v ← whole; standAt e.pos; holding [v] (truthy v)):=by intro _; rfl):PT X e (tB t):=by
 intro pins s σ H Q I hw
 refine isTrue_plain (thn (h pins s σ H _ I hw) fun v s1 ⟨x,H1,I1,r1,q1⟩=>?_) (he _)
 obtain⟨d,rfl,q⟩:=q1
 cases r1
 exact wpAny_truthy_bool ⟨H1,I1,q⟩
variable {tA tB':TT} {rest:List Expr}
def KL (t u:TT):TT:=fun σ H Q=>t σ H fun c H1=>if c=true then u σ H1 Q else Q false H1
def tOr (t u:TT):TT:=fun σ H Q=>t σ H fun c H1=>if c=true then Q true H1 else u σ H1 Q
def JK (t:TT):TT:=fun σ H Q=>t σ H fun c H1=>Q (!c) H1
theorem vB (ha:PT X a tA):PW X (.BoolOp .And [a] pos) tA:=by
 intro wh pins s σ H Q I h
 refine isTrue_and (thn (ha pins s σ H Q I h) fun c s1 e=>?_)
 cases c with
 | true=>exact isTrue_and_nil e
 | false=>exact e
theorem wC (ha:PT X a tA):PW X (.BoolOp .Or [a] pos) tA:=by
 intro wh pins s σ H Q I h
 refine isTrue_or (thn (ha pins s σ H Q I h) fun c s1 e=>?_)
 cases c with
 | false=>exact isTrue_or_nil e
 | true=>exact e
theorem vA (ha:PT X a tA) (hb:PW X (.BoolOp .And (b::rest) pos) tB'):PW X (.BoolOp .And (a::b::rest) pos) (KL tA tB'):=by
 intro wh pins s σ H Q I h
 refine isTrue_and (thn (ha pins s σ H _ I h) fun c s1 ⟨H1,I1,q1⟩=>?_)
 cases c with
 | true=>exact hb wh pins s1 σ H1 Q I1 q1
 | false=>exact⟨H1,I1,q1⟩
theorem wR (ha:PT X a tA) (hb:PW X (.BoolOp .Or (b::rest) pos) tB'):PW X (.BoolOp .Or (a::b::rest) pos) (tOr tA tB'):=by
 intro wh pins s σ H Q I h
 refine isTrue_or (thn (ha pins s σ H _ I h) fun c s1 ⟨H1,I1,q1⟩=>?_)
 cases c with
 | true=>exact⟨H1,I1,q1⟩
 | false=>exact hb wh pins s1 σ H1 Q I1 q1
theorem tw (ha:PT X a tA):PT X (.UnaryOp .Not a pos) (JK tA):=by
 intro pins s σ H Q I h
 exact isTrue_not (ha pins s σ H (fun c H1=>Q (!c) H1) I h)
def IS (ta tb:TE):TE:=fun σ H Q=>ta σ H fun x H1=>∃ c,x=.bl c∧if c=true then tb σ H1 Q else Q (.bl false) H1
def JT (ta tb:TE):TE:=fun σ H Q=>ta σ H fun x H1=>∃ c,x=.bl c∧if c=true then Q (.bl true) H1 else tb σ H1 Q
def IM (ta:TE):TE:=fun σ H Q=>ta σ H fun x H1=>∃ c,x=.bl c∧Q (.bl (!c)) H1
theorem vz {op} {t:TE} (h:PE X a t):PE X (.BoolOp op [a] pos) t:=fun pins s σ H Q I hw=>BoolOp_one (h pins s σ H Q I hw)
theorem vH (ha:PE X a ta) (hb:PE X (.BoolOp .And (b::rest) pos) tb):PE X (.BoolOp .And (a::b::rest) pos) (IS ta tb):=by
 intro pins s σ H Q I h
 refine BoolOp_and (thn (ha pins s σ H _ I h) fun v s1 ⟨x,H1,I1,r1,q1⟩=>?_)
 obtain⟨c,rfl,q1⟩:=q1
 cases r1
 refine wpAny_truthy_bool ?_
 cases c with
 | true=>exact hb pins s1 σ H1 Q I1 q1
 | false=>exact⟨.bl false,H1,I1,rfl,q1⟩
theorem IQ (ha:PE X a ta) (hb:PE X (.BoolOp .Or (b::rest) pos) tb):PE X (.BoolOp .Or (a::b::rest) pos) (JT ta tb):=by
 intro pins s σ H Q I h
 refine BoolOp_or (thn (ha pins s σ H _ I h) fun v s1 ⟨x,H1,I1,r1,q1⟩=>?_)
 obtain⟨c,rfl,q1⟩:=q1
 cases r1
 refine wpAny_truthy_bool ?_
 cases c with
 | false=>exact hb pins s1 σ H1 Q I1 q1
 | true=>exact⟨.bl true,H1,I1,rfl,q1⟩
theorem Cc (ha:PE X a ta):PE X (.UnaryOp .Not a pos) (IM ta):=by
 intro pins s σ H Q I h
 refine UnaryOp_ (thn (ha pins s σ H _ I h) fun v s1 ⟨x,H1,I1,r1,q1⟩=>?_)
 obtain⟨c,rfl,q1⟩:=q1
 cases r1
 exact not_of (wpAny_truthy_bool ⟨.bl (!c),H1,I1,rfl,q1⟩)
end
def SqL (K:PySem.W.Frag) (H:Hp) (a:Addr) (xs:List V):Prop :=
 Rd H a (.lst xs) ∨
  ∃ (o:Obj) (its:Array Value) (n:Nat),K.lookup a=some o∧o.cls=.type "list"∧o.dict=none∧o.data=.seq its n∧its.size≤sizeLine∧Vals xs its.toList
def SqT (K:PySem.W.Frag) (H:Hp) (a:Addr) (xs:List V):Prop :=
 Rd H a (.tup xs) ∨
  ∃ (o:Obj) (its:Array Value) (n:Nat),K.lookup a=some o∧o.cls=.type "tuple"∧o.data=.seq its n∧its.size≤sizeLine∧Vals xs its.toList
noncomputable def Le:Value→Option V
 | .none=>some .non
 | .bool b=>some (.bl b)
 | .int i _=>some (.int i)
 | .str x _=>some (.str x)
 | .bytes b _=>some (.byt b)
 | .float b _=>some (.flt b)
 | .ref a=>some (.ref a)
 | .type n=>some (.ty n)
 | _=>none
theorem RelV.abs {x:V} {u:Value} (r:RelV x u):Le u=some x:=by
 cases x with
 | non=>cases r; rfl
 | bl _=>cases r; rfl
 | int _=>obtain⟨t,rfl⟩:=r; rfl
 | str _=>obtain⟨t,rfl⟩:=r; rfl
 | byt _=>obtain⟨t,rfl⟩:=r; rfl
 | flt _=>obtain⟨t,rfl⟩:=r; rfl
 | ref _=>cases r; rfl
 | ty _=>cases r; rfl
theorem RelV.inj {x y:V} {u:Value} (r:RelV x u) (q:RelV y u):x=y:=Option.some.inj (r.abs.symm.trans q.abs)
theorem Vals.inj:∀ {xs ys:List V} {us:List Value},Vals xs us→Vals ys us→xs=ys
 | _,_,_,.nil,.nil=>rfl
 | _,_,_,.cons r t,.cons r' t'=>by rw[r.inj r',Vals.inj t t']
section
variable {X:Cx} {pins:List (Addr×Obj)} {σ:St} {H:Hp} {s:Shared} {a:Addr} {xs ys:List V}
theorem SqL.of {K:PySem.W.Frag} (h:H a=some (.lst xs)):SqL K H a xs:=.inl (.inl h)
theorem SqT.of {K:PySem.W.Frag} (h:H a=some (.tup xs)):SqT K H a xs:=.inl (.inl h)
theorem Inv.list (I:Inv X pins σ H s) (h:SqL X.K H a xs):∃ its:List Value,Vals xs its∧PlainL s.heap a its.toArray∧xs.length≤sizeLine:=by
 rcases h with h | ⟨o,its,n,hk,hc,hd,hs,hz,r⟩
 ·obtain⟨z,its,n,r,e⟩:=h.ok I.hok
  exact⟨its,r,⟨_,n,e,rfl,rfl,rfl⟩,z⟩
 ·refine⟨its.toList,r,⟨o,n,I.kIn a o hk,hc,hd,by simpa using hs⟩,?_⟩
  have e:=r.length
  simp only [Array.length_toList] at e
  exact Oz96 hz e
theorem Inv.tuple (I:Inv X pins σ H s) (h:SqT X.K H a xs):∃ its:List Value,Vals xs its∧IsTup s.heap a its.toArray∧xs.length≤sizeLine:=by
 rcases h with h | ⟨o,its,n,hk,hc,hs,hz,r⟩
 ·obtain⟨z,its,r,p,_⟩:=h.ok I.hok
  exact⟨its,r,p,z⟩
 ·refine⟨its.toList,r,⟨o,I.kIn a o hk,hc,n,by simpa using hs⟩,?_⟩
  have e:=r.length
  simp only [Array.length_toList] at e
  exact Oz96 hz e
theorem Inv.list_inj (I:Inv X pins σ H s) (h:SqL X.K H a xs) (h':SqL X.K H a ys):xs=ys:=by
 obtain⟨its,r,⟨o,n,e,_,_,d⟩,_⟩:=I.list h
 obtain⟨its',r',⟨o',n',e',_,_,d'⟩,_⟩:=I.list h'
 rw[e] at e'; cases e'
 rw[d] at d'
 injection d' with d1 _
 have:its=its':=by simpa using congrArg Array.toList d1
 subst this
 exact r.inj r'
theorem Inv.tuple_inj (I:Inv X pins σ H s) (h:SqT X.K H a xs) (h':SqT X.K H a ys):xs=ys:=by
 obtain⟨its,r,⟨o,e,_,n,d⟩,_⟩:=I.tuple h
 obtain⟨its',r',⟨o',e',_,n',d'⟩,_⟩:=I.tuple h'
 rw[e] at e'; cases e'
 rw[d] at d'
 injection d' with d1 _
 have:its=its':=by simpa using congrArg Array.toList d1
 subst this
 exact r.inj r'
end
noncomputable abbrev Cx.wish (X:Cx) (E:Value→Shared→Prop):Cx:={ X with xe:=E }
noncomputable abbrev Cx.nox (X:Cx):Cx:=X.wish fun _ _=>False
theorem Cx.Ok.wish {X:Cx} (ok:X.Ok) (E:Value→Shared→Prop):(X.wish E).Ok :=
 ⟨ok.mod,ok.kind,ok.glob,ok.blt,ok.above,ok.inj,ok.has,ok.cab,ok.hd,ok.frames,ok.stk,ok.exf,ok.bs,ok.bsz,ok.noex,ok.exfs,ok.funs,ok.frf⟩
theorem Cx.Ok.unwish {X:Cx} {E:Value→Shared→Prop} (ok:(X.wish E).Ok):X.Ok :=
 ⟨ok.mod,ok.kind,ok.glob,ok.blt,ok.above,ok.inj,ok.has,ok.cab,ok.hd,ok.frames,ok.stk,ok.exf,ok.bs,ok.bsz,ok.noex,ok.exfs,ok.funs,ok.frf⟩
section
variable {X:Cx} {pins:List (Addr×Obj)} {σ:St} {H:Hp} {s:Shared} {E:Value→Shared→Prop}
theorem Inv.wish (I:Inv X pins σ H s) (E:Value→Shared→Prop):Inv (X.wish E) pins σ H s:=⟨I.ok.wish E,I.os,I.bare,I.base,I.loc,I.cell,I.free,I.freeC,I.pin,I.hok,I.len⟩
theorem Inv.unwish (I:Inv (X.wish E) pins σ H s):Inv X pins σ H s:=⟨I.ok.unwish,I.os,I.bare,I.base,I.loc,I.cell,I.free,I.freeC,I.pin,I.hok,I.len⟩
theorem SP.unwish {D:Ends} {f:Flow} {s':Shared} (h:SP (X.wish E) pins D f s'):SP X pins D f s':=by
 cases f with
 | next=>obtain⟨σ',H',I,q⟩:=h; exact⟨σ',H',I.unwish,q⟩
 | brk=>obtain⟨σ',H',I,q⟩:=h; exact⟨σ',H',I.unwish,q⟩
 | cont=>obtain⟨σ',H',I,q⟩:=h; exact⟨σ',H',I.unwish,q⟩
 | ret u=>obtain⟨v,σ',H',I,r,q⟩:=h; exact⟨v,σ',H',I.unwish,r,q⟩
theorem PSs.nox {st:List Stmt} {t:TS} (h:PSs X.nox st t):PSs X st t:=fun pins s σ H D I hw =>
 wpAny_mono (h pins s σ H D (I.wish _) hw) (fun _ _ q=>q.unwish) fun _ _ z=>False.elim z
end
section
variable {X:Cx} {st:Stmt} {rest:List Stmt} {t u:TS} {e:Expr} {te:TE} {pos:Pos}
def ID:TS:=fun D σ H=>D.nx σ H
def ze (t u:TS):TS:=fun D σ H=>t { D with nx:=u D } σ H
theorem mO:PSs X [] ID:=fun _ _ σ H _ I h=>wpAny_execs_nil ⟨σ,H,I,h⟩
theorem fz (h1:PS X st t) (h2:PSs X rest u):PSs X (st::rest) (ze t u):=by
 intro pins s σ H D I h
 refine wpAny_execs_cons (thn (h1 pins s σ H { D with nx:=u D } I h) fun f s1 q=>?_)
 cases f with
 | next =>
  obtain⟨σ',H',I',q⟩:=q
  exact h2 pins s1 σ' H' D I' q
 | ret v=>exact q
 | brk=>exact q
 | cont=>exact q
theorem fS (h1:PS X st t):PSs X [st] t:=by
 intro pins s σ H D I h
 refine wpAny_execs_cons (thn (h1 pins s σ H D I h) fun f s1 q=>?_)
 cases f with
 | next=>exact wpAny_execs_nil q
 | ret v=>exact q
 | brk=>exact q
 | cont=>exact q
theorem Inv.quiet {pins:List (Addr×Obj)} {σ:St} {H:Hp} {s:Shared} (I:Inv X pins σ H s):interactive X.env=false:=by simp [interactive,I.ok.kind]
def IC (te:TE):TS:=fun D σ H=>te σ H fun _ H1=>D.nx σ H1
theorem wH (he:PE X e te) (hs:swapsWith e none pos.line X.env=pure false:=by rfl):PS X (.Expr e pos) (IC te):=by
 intro pins s σ H D I h
 exact wpAny_Expr_any (thn (he pins s σ H _ I h) fun v s1 ⟨x,H1,I1,r1,q1⟩=>⟨σ,H1,I1,q1⟩) I.quiet hs
def Hy (te:TE):TS:=fun D σ H=>te σ H D.rt
theorem jm (he:PE X e te):PS X (.Return (some e) pos) (Hy te):=by
 intro pins s σ H D I h
 exact wpAny_Return_some (thn (he pins s σ H _ I h) fun v s1 ⟨x,H1,I1,r1,q1⟩=>⟨x,σ,H1,I1,r1,q1⟩)
def KG (c:TT) (t u:TS):TS:=fun D σ H=>c σ H fun b H1=>if b=true then t D σ H1 else u D σ H1
theorem pG {c:Expr} {a b:List Stmt} {tc:TT} (hc:PT X c tc) (ha:PSs X a t) (hb:PSs X b u):PS X (.If c a b pos) (KG tc t u):=by
 intro pins s σ H D I h
 refine wpAny_If (thn (hc pins s σ H _ I h) fun d s1 ⟨H1,I1,q1⟩=>?_)
 cases d with
 | true=>exact ha pins s1 σ H1 D I1 q1
 | false=>exact hb pins s1 σ H1 D I1 q1
def G5:TS:=fun _ _ _=>False
theorem wc:PS X st G5:=fun _ _ _ _ _ _ h=>h.elim
end
abbrev TG:=V→St→Hp→(St→Hp→Prop)→Prop
abbrev TGs:=List V→St→Hp→(St→Hp→Prop)→Prop
def PG (X:Cx) (target:Expr) (t:TG):Prop :=
 ∀ (pins:List (Addr×Obj)) (s:Shared) (σ:St) (H:Hp) (v:V) (u:Value) (Q:St→Hp→Prop),Inv X pins σ H s→RelV v u→t v σ H Q →
  wpAny (model X.prog X.w) X.A (assign target X.env u) (fun _ s'=>∃ σ' H',Inv X pins σ' H' s'∧Q σ' H') X.xe s
def PGs (X:Cx) (ts:List Expr) (t:TGs):Prop :=
 ∀ (pins:List (Addr×Obj)) (s:Shared) (σ:St) (H:Hp) (vs:List V) (us:List Value) (Q:St→Hp→Prop),Inv X pins σ H s→Vals vs us→t vs σ H Q →
  wpAny (model X.prog X.w) X.A (assignInOrder ((assignEach ts X.env).map (·.2)) us) (fun _ s'=>∃ σ' H',Inv X pins σ' H' s'∧Q σ' H') X.xe s
abbrev HD:=V→V→V→Hp→(Hp→Prop)→Prop
def KC (X:Cx) (t:HD):Prop :=
 ∀ (pins:List (Addr×Obj)) (s:Shared) (σ:St) (H:Hp) (o i v:V) (ov iv u:Value) (Q:Hp→Prop),Inv X pins σ H s→RelV o ov→RelV i iv→RelV v u→t o i v H Q →
  wpAny (model X.prog X.w) X.A (setItem ov iv u) (fun _ s'=>∃ H',Inv X pins σ H' s'∧Q H') X.xe s
section
variable {X:Cx} {pos:Pos}
def As (i:Nat):TG:=fun v σ H Q=>Q (σ.set i (some v)) H
theorem pF {i:Nat} {x:Str} (hN:X.N.Nodup) (hi:X.N[i]?=some x) (hx:Loc X.env.scope x) (hf:X.fn x=true∨X.env.scope.names.lookup x=some .local:=by first | exact .inl rfl | exact .inr rfl | assumption):PG X (.Name x pos) (As i):=by
 intro pins s σ H v u Q I r h
 exact wpAny_assign_Name (C3 I hN hi hx r (fun s' I'=>⟨_,H,I',h⟩) hf)
def JU:TGs:=fun vs σ H Q=>vs=[]∧Q σ H
def IB (t:TG) (u:TGs):TGs:=fun vs σ H Q=>∃ v r,vs=v::r∧t v σ H fun σ' H'=>u r σ' H' Q
theorem xF:PGs X [] JU:=by
 intro pins s σ H vs us Q I r h
 obtain⟨e,h⟩:=h
 subst e
 cases r
 exact assignInOrder_nil ⟨σ,H,I,h⟩
theorem t9 {e:Expr} {es:List Expr} {t:TG} {u:TGs} (h1:PG X e t) (h2:PGs X es u)
  (hs:(assignEach (e::es) X.env).map (·.2)=assign e X.env::(assignEach es X.env).map (·.2):=by rfl):PGs X (e::es) (IB t u):=by
 intro pins s σ H vs us Q I r h
 obtain⟨v,vr,e1,h⟩:=h
 subst e1
 cases r with
 | cons r rr =>
  rw[hs]
  refine assignInOrder_cons (thn (h1 pins s σ H _ _ _ I r h) fun _ s1 ⟨σ1,H1,I1,q1⟩=>?_)
  exact h2 pins s1 σ1 H1 _ _ Q I1 rr q1
def Ip (K:PySem.W.Frag) (n:Nat) (t:TGs):TG:=fun v σ H Q=>∃ a xs,v=.ref a∧SqT K H a xs∧xs.length=n∧t xs σ H Q
theorem CJ {es:List Expr} {k:Nat} {t:TGs} {n:Nat} (hc:X.calm=true) (h:PGs X es t)
  (hn:(assignEach es X.env).length=n:=by rfl) (hst:(assignEach es X.env).findIdx? (·.1)=none:=by rfl):PG X (.Tuple es k pos) (Ip X.K n t):=by
 intro pins s σ H v u Q I r hw
 obtain⟨a,xs,e1,hq,hl,hw⟩:=hw
 subst e1
 cases r
 obtain⟨its,rv,ht,hz⟩:=I.tuple hq
 refine assign_Tuple_tuple (I.ok.hd hc) ht (by simp [hn,← hl,rv.length]) hst fun h' hx=>?_
 have I1:Inv X pins σ H { s with heap:=h' }:=I.kept (t':=s.toks) fun b o e=>hx b o (Nat.ne_of_lt (Heap.lt_size e)) e
 exact h pins _ σ H xs _ Q I1 (by simpa using rv) hw
def Kw (to ti:TE) (t:HD):TG:=fun v σ H Q=>to σ H fun o H1=>ti σ H1 fun i H2=>t o i v H2 fun H3=>Q σ H3
theorem Ku {o i:Expr} {to ti:TE} {t:HD} (ho:PE X o to) (hi:PE X i ti) (hs:KC X t)
  (ha:∀ v,assign (.Subscript o i pos) X.env v=(do
   let ov ← holding [v] (eval o X.env)
   let iv ← holding [v,ov] (eval i X.env)
   standAt pos
   holding [v,ov,iv] (setItem ov iv v)
   release [v,ov,iv] []):=by intro _; rfl):PG X (.Subscript o i pos) (Kw to ti t):=by
 intro pins s σ H v u Q I r h
 rw[ha]
 refine wpAny_bind (wpAny_holding (thn (ho pins s σ H _ I h) fun ov s1 ⟨x,H1,I1,r1,q1⟩=>?_))
 refine wpAny_bind (wpAny_holding (thn (hi pins s1 σ H1 _ I1 q1) fun iv s2 ⟨y,H2,I2,r2,q2⟩=>?_))
 refine wpAny_bind (wpAny_standAt (wpAny_bind (wpAny_holding (thn (hs pins s2 σ H2 x y v ov iv u _ I2 r1 r2 r q2) fun _ s3 ⟨H3,I3,q3⟩=>?_))))
 exact wpAny_release ⟨σ,H3,I3,q3⟩
def E8 (te:TE) (g:TG):TS:=fun D σ H=>te σ H fun x H1=>g x σ H1 D.nx
theorem G2 {tg e:Expr} {te:TE} {g:TG} (he:PE X e te) (hg:PG X tg g) (hs:swapsWithSole [tg] e pos.line X.env=pure false:=by rfl) (hw:swappedStores [tg] e X.env=pure none:=by rfl)
  (h1:(assignEach [tg] X.env).map (·.2)=[assign tg X.env]:=by rfl):PS X (.Assign [tg] e pos) (E8 te g):=by
 intro pins s σ H D I h
 refine wpAny_Assign_stores (thn (he pins s σ H _ I h) fun v s1 ⟨x,H1,I1,r1,q1⟩=>?_) hs hw
 rw[h1]
 exact thn (hg pins s1 σ H1 x v _ I1 r1 q1) fun _ s2 q=>q
theorem ni {i:Nat} {x:Str} {e:Expr} {te:TE} {pos':Pos} (hN:X.N.Nodup) (hi:X.N[i]?=some x) (hx:Loc X.env.scope x) (he:PE X e te) (hs:swapsWith e (some (.Name x pos')) pos.line X.env=pure false:=by rfl) (hf:X.fn x=true∨X.env.scope.names.lookup x=some .local:=by first | exact .inl rfl | exact .inr rfl | assumption) :
  PS X (.Assign [.Name x pos'] e pos) (E8 te (As i)):=by
 intro pins s σ H D I h
 refine wpAny_Assign_Name (thn (he pins s σ H _ I h) fun v s1 ⟨y,H1,I1,r1,q1⟩=>?_) hs
 exact C3 I1 hN hi hx r1 (fun s2 I2=>⟨_,H1,I2,q1⟩) hf
end
structure It where
 go:Nat→Hp→Prop
 yld:Nat→Hp→V→Hp→Prop
 stop:Nat→Hp→Prop
def FpOk (X:Cx) (pins:List (Addr×Obj)) (H:Hp) (b:Addr):Prop :=
 H b=none∧b≠X.env.locals∧b ∉ X.fs∧(b∈X.ex∨X.s₀.heap.objs.size≤b)∧(∀ x c,X.env.cells.lookup x=some c→c≠b)∧∀ p∈X.pn++pins,p.1≠b
theorem Inv.fpOk {X:Cx} {pins:List (Addr×Obj)} {σ:St} {H H':Hp} {s:Shared} {b:Addr} (I:Inv X pins σ H s) (hb:s.heap.objs.size≤b) (hn:H' b=none):FpOk X pins H' b:=by
 refine⟨hn,Nat.ne_of_gt (Nat.lt_of_lt_of_le I.lt hb),I.nofs hb,.inr (Nat.le_trans I.sz hb),fun x c e z=>?_,fun p hp z=>?_⟩
 ·obtain⟨v,q⟩:=I.cell x c e
  exact absurd (Nat.lt_of_lt_of_le q.lt (by rw[z]; exact hb)) (Nat.lt_irrefl _)
 ·exact absurd (Nat.lt_of_lt_of_le (Heap.lt_size (I.pin p hp).1) (by rw[z]; exact hb)) (Nat.lt_irrefl _)
structure Turn (P:Program) (w:World) (K:PySem.W.Frag) (tg:Expr) (J:It) (fp:List Addr) (it:Addr) (tn:Nat→Heap→Prop):Prop where
 mem:it∈fp
 obj:∀ i h,tn i h→∀ b∈fp,∃ o,h.get? b=some o∧∀ v,o.data≠.cell v
 keep:∀ i h h',tn i h→(∀ b∈fp,∀ o,h.get? b=some o→h'.get? b=some o)→tn i h'
 item:∀ (X:Cx),X.prog=P→X.w=w→X.K=K→X.calm=true→∀ (i:Nat) (pins:List (Addr×Obj)) (s:Shared) (σ:St) (H:Hp) (E:Value→Shared→Prop),Inv X pins σ H s→(∀ b∈fp,FpOk X pins H b)→tn i s.heap→J.go i H →
  wpAny (model P w) X.A (pyNext (.ref it)) (fun r s1=>∃ u,r=some u ∧
   wpAny (model P w) X.A (letOwnedTupleGo tg (.ref it) u) (fun _ s2=>∃ x H',Inv X pins σ H' s2∧RelV x u∧J.yld i H x H'∧tn (i+1) s2.heap∧∀ b∈fp,H' b=none) E s1) E s
 done:∀ (X:Cx),X.prog=P→X.w=w→X.K=K→X.calm=true→∀ (i:Nat) (pins:List (Addr×Obj)) (s:Shared) (σ:St) (H:Hp) (E:Value→Shared→Prop),Inv X pins σ H s→(∀ b∈fp,FpOk X pins H b)→tn i s.heap→J.stop i H →
  wpAny (model P w) X.A (pyNext (.ref it)) (fun r s1=>r=none∧Inv X pins σ H s1) E s
 self:∀ (A:Around) (i:Nat) (s:Shared) (Q:Value→Shared→Prop) (E:Value→Shared→Prop),tn i s.heap→Q (.ref it) s→wpAny (model P w) A (pyIter (.ref it)) Q E s
abbrev TI:=St→Hp→(It→Hp→Prop)→Prop
def PIE (X:Cx) (pins:List (Addr×Obj)) (σ:St) (tg:Expr) (R:It→Hp→Prop) (itv:Value) (s2:Shared):Prop :=
 ∃ (it:Addr) (fp:List Addr) (tn:Nat→Heap→Prop) (J:It) (H':Hp),itv=.ref it∧Inv X pins σ H' s2∧Turn X.prog X.w X.K tg J fp it tn∧tn 0 s2.heap∧(∀ b∈fp,FpOk X pins H' b)∧R J H'
def PI (X:Cx) (tg iter:Expr) (wi:TI):Prop :=
 ∀ (pins:List (Addr×Obj)) (s:Shared) (σ:St) (H:Hp) (R:It→Hp→Prop),Inv X pins σ H s→wi σ H R →
  wpAny (model X.prog X.w) X.A (eval iter X.env) (fun v s1=>wpAny (model X.prog X.w) X.A (pyIter v) (PIE X pins σ tg R) X.xe s1) X.xe s
theorem BS {M:Model} {A:Around} {E:Value→Shared→Prop} {s:Shared} {tg:Expr} {it:Addr} {u:Value} {o:Obj} {n:String} {vs:Array Value} {Q:Unit→Shared→Prop} (ho:s.heap.get? it=some o) (hc:o.cls=.type n) (hd:o.data=.fields vs)
    (hn:["enumerate","zip","dict_itemiterator","dict_reverseitemiterator","odict_iterator","itertools.zip_longest","itertools.pairwise"].contains n=false) (hQ:Q () s):wpAny M A (letOwnedTupleGo tg (.ref it) u) Q E s:=by
  unfold letOwnedTupleGo
  cases tg <;> first
    | exact wpAny_pure hQ
    | (cases u <;> first
        | exact wpAny_pure hQ
        | (refine wpAny_bind (wpAny_load ho ?_)
           rw[hc,hd]
           show wpAny M A (if (["enumerate","zip","dict_itemiterator","dict_reverseitemiterator","odict_iterator","itertools.zip_longest","itertools.pairwise"].contains n && vs[0]? == some (rawInt _))=true then _ else _) Q E s
           rw[if_neg (by intro h; rw[hn,Bool.false_and] at h; cases h)]
           exact wpAny_pure hQ))
noncomputable def Itl (K:PySem.W.Frag) (a:Addr):It :=
 ⟨fun i H=>∃ xs x,SqL K H a xs∧xs[i]?=some x,fun i H x H'=>H'=H∧∀ xs,SqL K H a xs→xs[i]?=some x,fun i H=>∃ xs,SqL K H a xs∧xs.length≤i⟩
noncomputable def Itt (K:PySem.W.Frag) (a:Addr):It :=
 ⟨fun i H=>∃ xs x,SqT K H a xs∧xs[i]?=some x,fun i H x H'=>H'=H∧∀ xs,SqT K H a xs→xs[i]?=some x,fun i H=>∃ xs,SqT K H a xs∧xs.length≤i⟩
noncomputable def Itr (lo:Int) (n:Nat):It:=⟨fun i _=>i<n,fun i H x H'=>H'=H∧x=.int (lo+i),fun i _=>n≤i⟩
theorem Bq {P:Program} {w:World} {K:PySem.W.Frag} {tg:Expr} (a it:Addr):Turn P w K tg (Itl K a) [it] it (fun i h=>h.IsListIter it a i) where
 mem:=by simp
 obj:=fun i h st b hb=>by
  have e:b=it:=by simpa using hb
  subst e
  obtain⟨o,e,c,d⟩:=st
  exact⟨o,e,fun v z=>by rw[d] at z; cases z⟩
 keep:=fun i h h' st k=>st.at fun o e=>k it (by simp) o e
 item:=by
  intro X hP hw hK hc i pins s σ H E I hf st hg
  subst hP hw hK
  obtain⟨xs,x,hq,hx⟩:=hg
  obtain⟨its,rv,p,hz⟩:=I.list hq
  obtain⟨u,hu,ru⟩:=rv.get hx
  obtain⟨f0,f1,f2,f3,f4,f5⟩:=hf it (by simp)
  refine wpAny_pyNext_list_item st p.isList (x:=u) (by simpa using hu) fun h' st' sb=>?_
  have I1:Inv X pins σ H { s with heap:=h' }:=I.turned (t':=s.toks) (fun b o hb e=>(sb.2 b hb).trans e) f0 f1 f3 f4 f5
  obtain⟨o,e,c,d⟩:=id st'
  exact⟨u,rfl,BS (s:={ s with heap:=h' }) e c d (by decide) ⟨x,H,I1,ru,⟨rfl,fun ys hy=>by rw[I.list_inj hy hq]; exact hx⟩,st',fun b hb=>(hf b hb).1⟩⟩
 done:=by
  intro X hP hw hK hc i pins s σ H E I hf st hg
  subst hP hw hK
  obtain⟨xs,hq,hx⟩:=hg
  obtain⟨its,rv,p,hz⟩:=I.list hq
  obtain⟨f0,f1,f2,f3,f4,f5⟩:=hf it (by simp)
  have hl:=rv.length
  exact wpAny_pyNext_list_end (I.ok.hd hc) st p.isList (by simp; exact Oz12 hx hl) fun h' eb=>⟨rfl,I.turned (t':=s.toks) (fun b o hb e=>eb b o hb e) f0 f1 f3 f4 f5⟩
 self:=fun _ _ _ _ _ st h=>wpAny_pyIter_listiter st h
theorem Ao {P:Program} {w:World} {K:PySem.W.Frag} {tg:Expr} (a it:Addr):Turn P w K tg (Itt K a) [it] it (fun i h=>h.IsTupleIter it a i) where
 mem:=by simp
 obj:=fun i h st b hb=>by
  have e:b=it:=by simpa using hb
  subst e
  obtain⟨o,e,c,d⟩:=st
  exact⟨o,e,fun v z=>by rw[d] at z; cases z⟩
 keep:=fun i h h' st k=>st.at fun o e=>k it (by simp) o e
 item:=by
  intro X hP hw hK hc i pins s σ H E I hf st hg
  subst hP hw hK
  obtain⟨xs,x,hq,hx⟩:=hg
  obtain⟨its,rv,p,hz⟩:=I.tuple hq
  obtain⟨u,hu,ru⟩:=rv.get hx
  obtain⟨f0,f1,f2,f3,f4,f5⟩:=hf it (by simp)
  refine wpAny_pyNext_tuple_item st (show s.heap.IsTuple a its.toArray from p) (x:=u) (by simpa using hu) fun h' st' sb=>?_
  have I1:Inv X pins σ H { s with heap:=h' }:=I.turned (t':=s.toks) (fun b o hb e=>(sb.2 b hb).trans e) f0 f1 f3 f4 f5
  obtain⟨o,e,c,d⟩:=id st'
  exact⟨u,rfl,BS (s:={ s with heap:=h' }) e c d (by decide) ⟨x,H,I1,ru,⟨rfl,fun ys hy=>by rw[I.tuple_inj hy hq]; exact hx⟩,st',fun b hb=>(hf b hb).1⟩⟩
 done:=by
  intro X hP hw hK hc i pins s σ H E I hf st hg
  subst hP hw hK
  obtain⟨xs,hq,hx⟩:=hg
  obtain⟨its,rv,p,hz⟩:=I.tuple hq
  obtain⟨f0,f1,f2,f3,f4,f5⟩:=hf it (by simp)
  have hl:=rv.length
  exact wpAny_pyNext_tuple_end (I.ok.hd hc) st (show s.heap.IsTuple a its.toArray from p) (by simp; exact Oz12 hx hl) fun h' eb=>⟨rfl,I.turned (t':=s.toks) (fun b o hb e=>eb b o hb e) f0 f1 f3 f4 f5⟩
 self:=fun _ _ _ _ _ st h=>wpAny_pyIter_tupleiter st h
theorem FA {P:Program} {w:World} {K:PySem.W.Frag} {tg:Expr} (it:Addr) (lo:Int) (n:Nat):Turn P w K tg (Itr lo n) [it] it (fun i h=>IsRangeIter h it (lo+(i:Nat) * 1) ((n:Int)-(i:Nat)) 1) where
 mem:=by simp
 obj:=fun i h st b hb=>by
  have e:b=it:=by simpa using hb
  subst e
  exact⟨_,st,fun v z=>by
   have z':Data.fields _=Data.cell v:=z
   cases z'⟩
 keep:=fun i h h' st k=>k it (by simp) _ st
 item:=by
  intro X hP hw hK hc i pins s σ H E I hf st hg
  subst hP hw hK
  obtain⟨f0,f1,f2,f3,f4,f5⟩:=hf it (by simp)
  have W:=Walks.range (prog:=X.prog) (w:=X.w) (I.ok.hd hc) it lo 1 n
  refine W.item i s _ _ hg st fun v h' tk hv st' kk=>?_
  obtain⟨t,rfl⟩:=hv
  have I1:Inv X pins σ H { s with heap:=h',toks:=tk }:=I.turned (fun b o hb e=>kk b o (by simpa using hb) e) f0 f1 f3 f4 f5
  refine⟨_,rfl,BS (s:={ s with heap:=h',toks:=tk }) (n:="range_iterator") st' rfl rfl (by decide) ⟨.int (lo+i),H,I1,⟨t,?_⟩,⟨rfl,rfl⟩,st',fun b hb=>(hf b hb).1⟩⟩
  rw[Int.mul_one]
 done:=by
  intro X hP hw hK hc i pins s σ H E I hf st hg
  subst hP hw hK
  obtain⟨f0,f1,f2,f3,f4,f5⟩:=hf it (by simp)
  exact wpAny_pyNext_range_end (I.ok.hd hc) st (by have:n≤i:=hg; omega) fun h' eb=>⟨rfl,I.turned (t':=s.toks) (fun b o hb e=>eb b o hb e) f0 f1 f3 f4 f5⟩
 self:=fun _ _ _ _ _ st h=>wpAny_pyIter_rangeiter st h
section
variable {X:Cx} {tg:Expr}
def II (K:PySem.W.Frag) (tl:TE):TI:=fun σ H R=>tl σ H fun x H1=>∃ a,x=.ref a∧(∃ xs,SqL K H1 a xs)∧R (Itl K a) H1
def J0 (K:PySem.W.Frag) (tl:TE):TI:=fun σ H R=>tl σ H fun x H1=>∃ a,x=.ref a∧(∃ xs,SqT K H1 a xs)∧R (Itt K a) H1
theorem uo {l:Expr} {tl:TE} (hl:PE X l tl):PI X tg l (II X.K tl):=by
 intro pins s σ H R I h
 refine thn (hl pins s σ H _ I h) fun v s1 ⟨x,H1,I1,r1,q1⟩=>?_
 obtain⟨a,e,⟨xs,hq⟩,q⟩:=q1
 subst e
 cases r1
 obtain⟨its,rv,p,hz⟩:=I1.list hq
 refine wpAny_pyIter_list p.isList ?_
 refine⟨s1.heap.objs.size,[s1.heap.objs.size],_,_,H1,rfl,I1.kept (t':=s1.toks) fun b o e=>Heap.get?_push_of_some _ e,Bq a _,⟨_,Heap.get?_push_size _ rfl,rfl,rfl⟩,fun b hb=>?_,q⟩
 have e:b=s1.heap.objs.size:=by simpa using hb
 subst e
 exact I1.fpOk (Nat.le_refl _) (I1.hok.fresh (Nat.le_refl _))
theorem Gi {l:Expr} {tl:TE} (hl:PE X l tl):PI X tg l (J0 X.K tl):=by
 intro pins s σ H R I h
 refine thn (hl pins s σ H _ I h) fun v s1 ⟨x,H1,I1,r1,q1⟩=>?_
 obtain⟨a,e,⟨xs,hq⟩,q⟩:=q1
 subst e
 cases r1
 obtain⟨its,rv,p,hz⟩:=I1.tuple hq
 refine wpAny_pyIter_tuple (show s1.heap.IsTuple a its.toArray from p) ?_
 refine⟨s1.heap.objs.size,[s1.heap.objs.size],_,_,H1,rfl,I1.kept (t':=s1.toks) fun b o e=>Heap.get?_push_of_some _ e,Ao a _,⟨_,Heap.get?_push_size _ rfl,rfl,rfl⟩,fun b hb=>?_,q⟩
 have e:b=s1.heap.objs.size:=by simpa using hb
 subst e
 exact I1.fpOk (Nat.le_refl _) (I1.hok.fresh (Nat.le_refl _))
theorem Hx {pins:List (Addr×Obj)} {σ:St} {H:Hp} {s:Shared} {R:It→Hp→Prop} {E:Value→Shared→Prop} {lo hi:Int} {t u v:Tok} {tk:Nat} (I:Inv X pins σ H s) (h1:-(2 ^ 62)≤lo) (h2:lo<2 ^ 62) (h3:-(2 ^ 62)≤hi) (h4:hi<2 ^ 62)
  (q:R (Itr lo (hi-lo).toNat) H):wpAny (model X.prog X.w) X.A (pyIter (.ref s.heap.objs.size)) (PIE X pins σ tg R) E { s with heap:=s.heap.push { cls:=.type "range",data:=.fields #[.int lo t,.int hi u,.int 1 v] },toks:=tk }:=by
 refine wpAny_pyIter_range (IsRange.new ..) (small_one h1 h2 h3 h4) ?_
 have I1:Inv X pins σ H { s with heap:=s.heap.push { cls:=.type "range",data:=.fields #[.int lo t,.int hi u,.int 1 v] },toks:=tk }:=I.kept fun b o e=>Heap.get?_push_of_some _ e
 refine⟨(s.heap.push { cls:=.type "range",data:=.fields #[.int lo t,.int hi u,.int 1 v] }).objs.size,[(s.heap.push { cls:=.type "range",data:=.fields #[.int lo t,.int hi u,.int 1 v] }).objs.size],_,_,H,rfl,
  I1.kept (t':=tk) fun b o e=>Heap.get?_push_of_some _ e,FA _ lo (hi-lo).toNat,?_,fun b hb=>?_,q⟩
 ·have e1:lo+((0:Nat):Int) * 1=lo:=by simp
  have e2:(((hi-lo).toNat:Nat):Int)-((0:Nat):Int)=Builtin.Range.rangeSize lo hi 1:=by rw[rangeSize_one]; split <;> omega
  show IsRangeIter _ _ (lo+((0:Nat):Int) * 1) ((((hi-lo).toNat:Nat):Int)-((0:Nat):Int)) 1
  rw[e1,e2]
  exact Heap.get?_push_size _ rfl
 ·have e:b=(s.heap.push { cls:=.type "range",data:=.fields #[.int lo t,.int hi u,.int 1 v] }).objs.size:=by simpa using hb
  subst e
  exact I1.fpOk (Nat.le_refl _) (I1.hok.fresh (Nat.le_refl _))
def IJ (ta:TA):TI:=fun σ H R=>ta σ H fun vs H1=>∃ j:Int,vs=[.int j]∧-(2 ^ 62)≤j∧j<2 ^ 62∧R (Itr 0 j.toNat) H1
theorem vP {a:Expr} {ta:TA} {p pos:Pos} (hg:Gl X "range") (hm:X.mg "range"=none) (ha:PA X [a] ta) (hs:starEach [a] X.env=[(false,eval a X.env)]:=by rfl):PI X tg (.Call (.Name "range" p) [a] [] pos) (IJ ta):=by
 intro pins s σ H R I h
 refine Call_ (xP I hg hm boot_range (PyProof.Rows.callWith_type1 (thn (ha pos pins s σ H _ I h) fun us s1 ⟨vs,H1,I1,r1,q1⟩=>?_) hs rfl))
 obtain⟨j,e,q1,q2,q⟩:=q1
 subst e
 cases r1 with
 | cons r rr =>
  cases rr
  obtain⟨t,rfl⟩:=r
  exact call_range_1 (Hx I1 (by omega) (by omega) q1 q2 (by simpa using q))
def JY (wi:TI) (g:TG) (tb:TS):TS:=fun D σ H=>wi σ H fun J H1=>∃ W:Nat→Nat→St→Hp→Prop,(∃ m,W 0 m σ H1)∧∀ i m σ H,W i m σ H →
 (J.stop i H∧D.nx σ H)∨(J.go i H∧∃ N:St→Hp→Prop,(∀ σ' H',N σ' H'→∃ m',m'<m∧W (i+1) m' σ' H')∧∀ x H',J.yld i H x H'→g x σ H' fun σ2 H2=>tb { D with nx:=N,ct:=N,bk:=D.nx } σ2 H2)
noncomputable def yY (fp:List Addr) (h:Heap):List (Addr×Obj):=fp.filterMap fun b=>(h.get? b).map fun o=>(b,o)
theorem xy {fp:List Addr} {h:Heap} {b:Addr} {o:Obj} (hb:b∈fp) (e:h.get? b=some o):(b,o)∈yY fp h:=List.mem_filterMap.mpr ⟨b,hb,by rw[e]; rfl⟩
theorem Hl {fp:List Addr} {h:Heap} {p:Addr×Obj} (hp:p∈yY fp h):p.1∈fp∧h.get? p.1=some p.2:=by
 obtain⟨b,hb,e⟩:=List.mem_filterMap.mp hp
 cases q:h.get? b with
 | none=>rw[q] at e; cases e
 | some o =>
  rw[q] at e
  have e':(b,o)=p:=Option.some.inj e
  subst e'
  exact⟨hb,q⟩
theorem Inv.pinned {pins:List (Addr×Obj)} {σ:St} {H:Hp} {s:Shared} {fp:List Addr} (I:Inv X pins σ H s) (hf:∀ b∈fp,FpOk X pins H b) (ho:∀ b∈fp,∃ o,s.heap.get? b=some o∧∀ v,o.data≠.cell v):Inv X (pins++yY fp s.heap) σ H s :=
 I.pins_of fun p hp=>(List.mem_append.mp hp).elim (fun z=>I.pin p (List.mem_append_right _ z)) fun z=>by
  obtain⟨hb,e⟩:=Hl z
  obtain⟨f0,f1,f2,_⟩:=hf p.1 hb
  obtain⟨o,e',d⟩:=ho p.1 hb
  rw[e] at e'; cases e'
  exact⟨e,f0,f1,f2,d⟩
theorem Inv.unpinned {pins pl:List (Addr×Obj)} {σ:St} {H:Hp} {s:Shared} (I:Inv X (pins++pl) σ H s):Inv X pins σ H s:=I.pins_of fun p hp=>I.pin p (List.mem_append_right _ (List.mem_append_left _ hp))
theorem vZ {iter:Expr} {body:List Stmt} {wi:TI} {g:TG} {tb:TS} {pos:Pos} (hp:PassesOwn (model X.prog X.w) X.A X.env X.xe) (hc:X.calm=true) (hi:PI X tg iter wi) (hg:PG X tg g) (hb:PSs X body tb)
  (hs:∀ x,foldedSetIterable iter X.env x=pure x:=by intro _; rfl):PS X (.For tg iter body [] pos) (JY wi g tb):=by
 intro pins s σ H D I h
 refine wpAny_For (thn (hi pins s σ H _ I h) fun v s1 h1=>thn h1 fun itv s2 h2=>?_) hs
 obtain⟨it,fp,tn,J,H2,e,I2,T,st2,f2,W,⟨m0,w0⟩,turn⟩:=h2
 subst e
 -- what stays true of the iterator's objects through the loop
 have stat:∀ {H':Hp},(∀ b∈fp,H' b=none)→∀ b∈fp,FpOk X pins H' b:=fun hn b hb=>⟨hn b hb,(f2 b hb).2⟩
 refine codeAny_forLoop_any (fun n s'=>∃ i σ' H',Inv X pins σ' H' s'∧tn i s'.heap∧(∀ b∈fp,H' b=none)∧W i n σ' H') ?_ m0 ⟨0,σ,H2,I2,st2,fun b hb=>(f2 b hb).1,w0⟩
 rintro n s3 ⟨i,σ3,H3,I3,st3,fr3,w3⟩
 rcases turn i n σ3 H3 w3 with ⟨stop,qn⟩ | ⟨go,N,hN,step⟩
 ·refine wpAny_passesOwn hp (thn (T.done X rfl rfl rfl hc i pins s3 σ3 H3 X.xe I3 (stat fr3) st3 stop) fun r s4 ⟨hr,I4⟩=>?_)
  subst hr
  exact wpAny_execs_nil ⟨σ3,H3,I4,qn⟩
 ·refine wpAny_passesOwn hp (thn (T.item X rfl rfl rfl hc i pins s3 σ3 H3 X.xe I3 (stat fr3) st3 go) fun r s4 ⟨u,hr,h4⟩=>?_)
  subst hr
  refine wpAny_passesOwn hp (thn h4 fun _ s5 ⟨x,H5,I5,r5,y5,st5,fr5⟩=>?_)
  have I5':=I5.pinned (stat fr5) (T.obj _ _ st5)
  refine wpAny_passesOwn hp (thn (hg _ s5 σ3 H5 x u _ I5' r5 (step x H5 y5)) fun _ s6 ⟨σ6,H6,I6,q6⟩=>?_)
  refine wpAny_passesOwn hp (thn (hb _ s6 σ6 H6 _ I6 q6) fun f s7 q7=>?_)
  have again:∀ {σ7:St} {H7:Hp},Inv X (pins++yY fp s5.heap) σ7 H7 s7→N σ7 H7→∃ m,m<n∧∃ i σ' H',Inv X pins σ' H' s7∧tn i s7.heap∧(∀ b∈fp,H' b=none)∧W i m σ' H':=fun {σ7 H7} I7 n7=>by
   obtain⟨m',hm,w7⟩:=hN σ7 H7 n7
   refine⟨m',hm,i+1,σ7,H7,I7.unpinned,T.keep _ _ _ st5 fun b hb o e=>(I7.pin (b,o) (List.mem_append_right _ (List.mem_append_right _ (xy hb e)))).1,fun b hb=>?_,w7⟩
   obtain⟨o,e,d⟩:=T.obj _ _ st5 b hb
   exact (I7.pin (b,o) (List.mem_append_right _ (List.mem_append_right _ (xy hb e)))).2.1
  cases f with
  | next=>obtain⟨σ7,H7,I7,n7⟩:=q7; exact again I7 n7
  | cont=>obtain⟨σ7,H7,I7,n7⟩:=q7; exact again I7 n7
  | brk=>obtain⟨σ7,H7,I7,q7⟩:=q7; exact⟨σ7,H7,I7.unpinned,q7⟩
  | ret v=>obtain⟨x7,σ7,H7,I7,r7,q7⟩:=q7; exact⟨x7,σ7,H7,I7.unpinned,r7,q7⟩
end
theorem Ii {K:PySem.W.Frag} {a:Addr} {xs:List V} {g:TG} {tb:TS} {D:Ends} {σ:St} {H:Hp} (Pv:Nat→St→Hp→Prop) (h0:Pv 0 σ H) (hl:∀ i σ H,i≤xs.length→Pv i σ H→SqL K H a xs)
  (hs:∀ i x σ H,xs[i]?=some x→Pv i σ H→g x σ H fun σ2 H2=>tb { D with nx:=Pv (i+1),ct:=Pv (i+1),bk:=D.nx } σ2 H2) (hd:∀ σ H,Pv xs.length σ H→D.nx σ H) :
  ∃ W:Nat→Nat→St→Hp→Prop,(∃ m,W 0 m σ H)∧∀ i m σ H,W i m σ H →
   ((Itl K a).stop i H∧D.nx σ H)∨((Itl K a).go i H∧∃ N:St→Hp→Prop,(∀ σ' H',N σ' H'→∃ m',m'<m∧W (i+1) m' σ' H')∧∀ x H',(Itl K a).yld i H x H'→g x σ H' fun σ2 H2=>tb { D with nx:=N,ct:=N,bk:=D.nx } σ2 H2):=by
 refine⟨fun i m σ H=>m=xs.length-i∧i≤xs.length∧Pv i σ H,⟨xs.length,by simp,Nat.zero_le _,h0⟩,?_⟩
 rintro i m σ H ⟨rfl,hi,p⟩
 have q:=hl i σ H hi p
 by_cases hlt:i<xs.length
 ·refine .inr ⟨⟨xs,xs[i],q,by simp [hlt]⟩,Pv (i+1),fun σ' H' p'=>⟨xs.length-(i+1),by exact Oz3 hlt,rfl,hlt,p'⟩,fun x H' y=>?_⟩
  obtain⟨e,y⟩:=y
  subst e
  exact hs i x σ _ (y xs q) p
 ·have e:i=xs.length:=by exact Oz8 hi hlt
  subst e
  exact .inl ⟨⟨xs,q,Nat.le_refl _⟩,hd σ H p⟩
theorem Hi {lo:Int} {n:Nat} {g:TG} {tb:TS} {D:Ends} {σ:St} {H:Hp} (Pv:Nat→St→Hp→Prop) (h0:Pv 0 σ H)
  (hs:∀ i σ H,i<n→Pv i σ H→g (.int (lo+i)) σ H fun σ2 H2=>tb { D with nx:=Pv (i+1),ct:=Pv (i+1),bk:=D.nx } σ2 H2) (hd:∀ σ H,Pv n σ H→D.nx σ H) :
  ∃ W:Nat→Nat→St→Hp→Prop,(∃ m,W 0 m σ H)∧∀ i m σ H,W i m σ H →
   ((Itr lo n).stop i H∧D.nx σ H)∨((Itr lo n).go i H∧∃ N:St→Hp→Prop,(∀ σ' H',N σ' H'→∃ m',m'<m∧W (i+1) m' σ' H')∧∀ x H',(Itr lo n).yld i H x H'→g x σ H' fun σ2 H2=>tb { D with nx:=N,ct:=N,bk:=D.nx } σ2 H2):=by
 refine⟨fun i m σ H=>m=n-i∧i≤n∧Pv i σ H,⟨n,by simp,Nat.zero_le _,h0⟩,?_⟩
 rintro i m σ H ⟨rfl,hi,p⟩
 by_cases hlt:i<n
 ·refine .inr ⟨hlt,Pv (i+1),fun σ' H' p'=>⟨n-(i+1),by exact Oz3 hlt,rfl,hlt,p'⟩,fun x H' y=>?_⟩
  obtain⟨e,y⟩:=y
  subst e y
  exact hs i σ _ hlt p
 ·have e:i=n:=by exact Oz8 hi hlt
  subst e
  exact .inl ⟨Nat.le_refl _,hd σ H p⟩
abbrev R2:=V→V→Hp→VK→Prop
def OpR (X:Cx) (f:Value→Value→Sem Value) (r:R2):Prop :=
 ∀ (pins:List (Addr×Obj)) (s:Shared) (σ:St) (H:Hp) (x y:V) (v u:Value) (Q:VK),Inv X pins σ H s→RelV x v→RelV y u→r x y H Q →
  wpAny (model X.prog X.w) X.A (f v u) (EP X pins σ Q) X.xe s
def UnR (X:Cx) (f:Value→Sem Value) (r:V→Hp→VK→Prop):Prop :=
 ∀ (pins:List (Addr×Obj)) (s:Shared) (σ:St) (H:Hp) (x:V) (v:Value) (Q:VK),Inv X pins σ H s→RelV x v→r x H Q →
  wpAny (model X.prog X.w) X.A (f v) (EP X pins σ Q) X.xe s
def vn (X:Cx) (f:Value) (r:List V→Hp→VK→Prop):Prop :=
 ∀ (pins:List (Addr×Obj)) (s:Shared) (σ:St) (H:Hp) (xs:List V) (us:List Value) (Q:VK),Inv X pins σ H s→Vals xs us→r xs H Q →
  wpAny (model X.prog X.w) X.A (call f us) (EP X pins σ Q) X.xe s
def tOp (r:R2) (ta tb:TE):TE:=fun σ H Q=>ta σ H fun x H1=>tb σ H1 fun y H2=>r x y H2 Q
def tUn (r:V→Hp→VK→Prop) (ta:TE):TE:=fun σ H Q=>ta σ H fun x H1=>r x H1 Q
def rI (C:Int→Int→Prop) (g:Int→Int→V):R2:=fun x y H Q=>∃ i j,x=.int i∧y=.int j∧C i j∧Q (g i j) H
def rI0 (g:Int→Int→V):R2:=fun x y H Q=>∃ i j,x=.int i∧y=.int j∧Q (g i j) H
def rU (g:Int→V):V→Hp→VK→Prop:=fun x H Q=>∃ i,x=.int i∧Q (g i) H
section
variable {X:Cx} {a b c:Expr} {ta tb tc:TE} {pos:Pos}
theorem Iv (ha:PE X a ta) (hb:PE X b tb) {pins:List (Addr×Obj)} {s:Shared} {σ:St} {H:Hp} {R:V→V→Hp→Prop} (I:Inv X pins σ H s)
  (h:ta σ H fun x H1=>tb σ H1 fun y H2=>R x y H2) {Q:Value→Shared→Prop} {f:Value→Value→Sem Value}
  (hf:∀ v u s2 x y H2,Inv X pins σ H2 s2→RelV x v→RelV y u→R x y H2→wpAny (model X.prog X.w) X.A (f v u) Q X.xe s2) :
  wpAny (model X.prog X.w) X.A (eval a X.env) (fun v s₁=>wpAny (model X.prog X.w) X.A (eval b X.env) (fun u s₂=>wpAny (model X.prog X.w) X.A (f v u) Q X.xe s₂) X.xe s₁) X.xe s:=by
 refine thn (ha pins s σ H _ I h) fun v s1 ⟨x,H1,I1,r1,q1⟩=>?_
 refine thn (hb pins s1 σ H1 _ I1 q1) fun u s2 ⟨y,H2,I2,r2,q2⟩=>?_
 exact hf v u s2 x y H2 I2 r1 r2 q2
theorem kT {op:Operator} {r:R2} (ho:OpR X (binaryOp op) r) (ha:PE X a ta) (hb:PE X b tb):PE X (.BinOp a op b pos) (tOp r ta tb):=by
 intro pins s σ H Q I h
 exact wpAny_BinOp (Iv ha hb I h fun v u s2 x y H2 I2 rx ry q=>ho pins s2 σ H2 x y v u Q I2 rx ry q)
theorem IK {op:UnaryOp} {r:V→Hp→VK→Prop} (ho:UnR X (unaryOp op) r) (ha:PE X a ta):PE X (.UnaryOp op a pos) (tUn r ta):=by
 intro pins s σ H Q I h
 exact UnaryOp_ (thn (ha pins s σ H _ I h) fun v s1 ⟨x,H1,I1,r1,q1⟩=>ho pins s1 σ H1 x v Q I1 r1 q1)
theorem opI {f:Value→Value→Sem Value} {C:Int→Int→Prop} {g:Int→Int→Int}
  (rule:∀ (i j:Int) (t u:Tok) (s:Shared) (Q:Value→Shared→Prop) (E:Value→Shared→Prop),C i j→Q (.int (g i j) s.toks) { s with toks:=s.toks+1 }→wpAny (model X.prog X.w) X.A (f (.int i t) (.int j u)) Q E s) :
  OpR X f (rI C fun i j=>.int (g i j)):=by
 intro pins s σ H x y v u Q I rx ry h
 obtain⟨i,j,rfl,rfl,hc,q⟩:=h
 obtain⟨t,rfl⟩:=rx
 obtain⟨t',rfl⟩:=ry
 exact rule i j t t' s _ _ hc ⟨.int (g i j),H,I.tok _,⟨_,rfl⟩,q⟩
theorem JO {f:Value→Value→Sem Value} {g:Int→Int→Int}
  (rule:∀ (i j:Int) (t u:Tok) (s:Shared) (Q:Value→Shared→Prop) (E:Value→Shared→Prop),Q (.int (g i j) s.toks) { s with toks:=s.toks+1 }→wpAny (model X.prog X.w) X.A (f (.int i t) (.int j u)) Q E s) :
  OpR X f (rI0 fun i j=>.int (g i j)):=by
 intro pins s σ H x y v u Q I rx ry h
 obtain⟨i,j,rfl,rfl,q⟩:=h
 obtain⟨t,rfl⟩:=rx
 obtain⟨t',rfl⟩:=ry
 exact rule i j t t' s _ _ ⟨.int (g i j),H,I.tok _,⟨_,rfl⟩,q⟩
theorem ES {f:Value→Value→Sem Value} {g:Int→Int→Bool}
  (rule:∀ (i j:Int) (t u:Tok) (s:Shared) (Q:Value→Shared→Prop) (E:Value→Shared→Prop),Q (.bool (g i j)) s→wpAny (model X.prog X.w) X.A (f (.int i t) (.int j u)) Q E s) :
  OpR X f (rI0 fun i j=>.bl (g i j)):=by
 intro pins s σ H x y v u Q I rx ry h
 obtain⟨i,j,rfl,rfl,q⟩:=h
 obtain⟨t,rfl⟩:=rx
 obtain⟨t',rfl⟩:=ry
 exact rule i j t t' s _ _ ⟨.bl (g i j),H,I,rfl,q⟩
def JX (i j:Int):Prop:=0≤j∧j≤1000000∧i.natAbs<2 ^ 64
def CMul (i j:Int):Prop:=(-(2 ^ 64)<i∧i<2 ^ 64)∨(-(2 ^ 64)<j∧j<2 ^ 64)
theorem CMul.ok {i j:Int} (h:CMul i j):IntMulOk i j:=by
 rcases h with ⟨h1,h2⟩ | ⟨h1,h2⟩
 ·exact .of_left (intBits_le_64 h1 h2)
 ·exact .of_right (intBits_le_64 h1 h2)
theorem vv:OpR X (binaryOp .Add) (rI0 fun i j=>.int (i+j)):=JO fun _ _ _ _ _ _ _ q=>add_int q
theorem yl:OpR X (binaryOp .Sub) (rI0 fun i j=>.int (i-j)):=JO fun _ _ _ _ _ _ _ q=>sub_int q
theorem Gx:OpR X (binaryOp .Mult) (rI CMul fun i j=>.int (i * j)):=opI fun _ _ _ _ _ _ _ hc q=>mul_int q hc.ok
theorem p5:OpR X (binaryOp .Mod) (rI (fun _ j=>0<j) fun i j=>.int (i % j)):=opI fun i j _ _ _ _ _ hc q=>by
 have h1:(0:Int)<j:=hc
 exact mod_int' (by exact Oz105 hc) (by rw[Int.fmod_eq_emod_of_nonneg i (by exact Oz102 hc)]; exact q)
theorem JR:OpR X (binaryOp .Pow) (rI JX fun i j=>.int (i ^ j.toNat)):=opI fun _ _ _ _ _ _ _ hc q=>pow_int_small hc.1 hc.2.1 hc.2.2 q
theorem unI {f:Value→Sem Value} {g:Int→Int}
  (rule:∀ (i:Int) (t:Tok) (s:Shared) (Q:Value→Shared→Prop) (E:Value→Shared→Prop),Q (.int (g i) s.toks) { s with toks:=s.toks+1 }→wpAny (model X.prog X.w) X.A (f (.int i t)) Q E s) :
  UnR X f (rU fun i=>.int (g i)):=by
 intro pins s σ H x v Q I rx h
 obtain⟨i,rfl,q⟩:=h
 obtain⟨t,rfl⟩:=rx
 exact rule i t s _ _ ⟨.int (g i),H,I.tok _,⟨_,rfl⟩,q⟩
theorem GO:UnR X (unaryOp .USub) (rU fun i=>.int (-i)):=unI fun _ _ _ _ _ q=>neg_int q
end
noncomputable def vW:V→V→Bool
 | .non,.non=>true | .non,.int _=>true | .int _,.non=>true | .non,.bl _=>true | .bl _,.non=>true | .non,.str _=>true | .str _,.non=>true
 | .int _,.int _=>true | .bl _,.bl _=>true | .str _,.str _=>true | .byt _,.byt _=>true
 | .int _,.str _=>true | .str _,.int _=>true | .bl _,.str _=>true | .str _,.bl _=>true
 | _,_=>false
def rEq:R2:=fun x y H Q=>vW x y=true∧Q (.bl (decide (x=y))) H
def rNe:R2:=fun x y H Q=>vW x y=true∧Q (.bl (!decide (x=y))) H
theorem Ei {i j:Int}:decide (V.int i=V.int j)=(i == j):=by
 rw[Bool.eq_iff_iff]
 simp
theorem GX {i j:Bool}:decide (V.bl i=V.bl j)=(i == j):=by
 rw[Bool.eq_iff_iff]
 simp
theorem Ep {i j:Str}:decide (V.str i=V.str j)=(i == j):=by
 rw[Bool.eq_iff_iff]
 simp
theorem D9 {i j:Array UInt8}:decide (V.byt i=V.byt j)=(i.toList == j.toList):=by
 rw[Bool.eq_iff_iff]
 cases i
 cases j
 simp
section
variable {X:Cx} {a b c:Expr} {ta tb tc:TE} {pos:Pos}
theorem qa {pins:List (Addr×Obj)} {σ:St} {H:Hp} {s:Shared} {Q:VK} {k k':Bool} (I:Inv X pins σ H s) (q:Q (.bl k) H) (e:k=k'):EP X pins σ Q (.bool k') s:=by
 subst e
 exact⟨.bl k,H,I,rfl,q⟩
theorem qb:OpR X (compareOp .Eq) rEq:=by
 intro pins s σ H x y v u Q I rx ry h
 obtain⟨hs,q⟩:=h
 cases x with
 | non =>
  cases rx
  cases y with
  | non=>cases ry; exact PySem.EqNone.eq_none_none (qa I q (by simp))
  | bl j=>cases ry; exact PySem.EqNone.eq_none_bool (qa I q (by simp))
  | int j=>obtain⟨t',rfl⟩:=ry; exact PySem.EqNone.eq_none_int (qa I q (by simp))
  | str j=>obtain⟨t',rfl⟩:=ry; exact PySem.EqNone.eq_none_str (qa I q (by simp))
  | _=>exact absurd (show false=true from hs) Bool.false_ne_true
 | bl i =>
  cases rx
  cases y with
  | non=>cases ry; exact PySem.EqNone.eq_bool_none (qa I q (by simp))
  | bl j=>cases ry; exact eq_bool (qa I q GX)
  | str j=>obtain⟨t',rfl⟩:=ry; exact PySem.EqMixed.eq_bool_str (qa I q (by simp))
  | _=>exact absurd (show false=true from hs) Bool.false_ne_true
 | int i =>
  obtain⟨t,rfl⟩:=rx
  cases y with
  | non=>cases ry; exact PySem.EqNone.eq_int_none (qa I q (by simp))
  | int j=>obtain⟨t',rfl⟩:=ry; exact eq_int (qa I q Ei)
  | str j=>obtain⟨t',rfl⟩:=ry; exact PySem.EqMixed.eq_int_str (qa I q (by simp))
  | _=>exact absurd (show false=true from hs) Bool.false_ne_true
 | str i =>
  obtain⟨t,rfl⟩:=rx
  cases y with
  | non=>cases ry; exact PySem.EqNone.eq_str_none (qa I q (by simp))
  | bl j=>cases ry; exact PySem.EqMixed.eq_str_bool (qa I q (by simp))
  | int j=>obtain⟨t',rfl⟩:=ry; exact PySem.EqMixed.eq_str_int (qa I q (by simp))
  | str j=>obtain⟨t',rfl⟩:=ry; exact eq_str (qa I q Ep)
  | _=>exact absurd (show false=true from hs) Bool.false_ne_true
 | byt i =>
  obtain⟨t,rfl⟩:=rx
  cases y with
  | byt j=>obtain⟨t',rfl⟩:=ry; exact PySem.W.eq_bytes (qa I q D9)
  | _=>exact absurd (show false=true from hs) Bool.false_ne_true
 | _=>cases y <;> exact absurd (show false=true from hs) Bool.false_ne_true
theorem zx:OpR X (compareOp .NotEq) rNe:=by
 intro pins s σ H x y v u Q I rx ry h
 obtain⟨hs,q⟩:=h
 cases x with
 | non =>
  cases rx
  cases y with
  | non=>cases ry; exact PySem.EqNone.ne_none_none (qa I q (by simp))
  | bl j=>cases ry; exact PySem.EqNone.ne_none_bool (qa I q (by simp))
  | int j=>obtain⟨t',rfl⟩:=ry; exact PySem.EqNone.ne_none_int (qa I q (by simp))
  | str j=>obtain⟨t',rfl⟩:=ry; exact PySem.EqNone.ne_none_str (qa I q (by simp))
  | _=>exact absurd (show false=true from hs) Bool.false_ne_true
 | bl i =>
  cases rx
  cases y with
  | non=>cases ry; exact PySem.EqNone.ne_bool_none (qa I q (by simp))
  | bl j=>cases ry; exact ne_bool (qa I q (congrArg not GX))
  | str j=>obtain⟨t',rfl⟩:=ry; exact PySem.EqMixed.ne_bool_str (qa I q (by simp))
  | _=>exact absurd (show false=true from hs) Bool.false_ne_true
 | int i =>
  obtain⟨t,rfl⟩:=rx
  cases y with
  | non=>cases ry; exact PySem.EqNone.ne_int_none (qa I q (by simp))
  | int j=>obtain⟨t',rfl⟩:=ry; exact ne_int (qa I q (congrArg not Ei))
  | str j=>obtain⟨t',rfl⟩:=ry; exact PySem.EqMixed.ne_int_str (qa I q (by simp))
  | _=>exact absurd (show false=true from hs) Bool.false_ne_true
 | str i =>
  obtain⟨t,rfl⟩:=rx
  cases y with
  | non=>cases ry; exact PySem.EqNone.ne_str_none (qa I q (by simp))
  | bl j=>cases ry; exact PySem.EqMixed.ne_str_bool (qa I q (by simp))
  | int j=>obtain⟨t',rfl⟩:=ry; exact PySem.EqMixed.ne_str_int (qa I q (by simp))
  | str j=>obtain⟨t',rfl⟩:=ry; exact ne_str (qa I q (congrArg not Ep))
  | _=>exact absurd (show false=true from hs) Bool.false_ne_true
 | byt i =>
  obtain⟨t,rfl⟩:=rx
  cases y with
  | byt j=>obtain⟨t',rfl⟩:=ry; exact PySem.W.ne_bytes (qa I q (congrArg not D9))
  | _=>exact absurd (show false=true from hs) Bool.false_ne_true
 | _=>cases y <;> exact absurd (show false=true from hs) Bool.false_ne_true
theorem E3:OpR X (compareOp .Lt) (rI0 fun i j=>.bl (decide (i<j))):=ES fun _ _ _ _ _ _ _ q=>lt_int q
theorem xB:OpR X (compareOp .LtE) (rI0 fun i j=>.bl (decide (i≤j))):=ES fun _ _ _ _ _ _ _ q=>le_int q
theorem Ac:OpR X (compareOp .Gt) (rI0 fun i j=>.bl (decide (j<i))):=ES fun _ _ _ _ _ _ _ q=>gt_int q
theorem IF:OpR X (compareOp .GtE) (rI0 fun i j=>.bl (decide (j≤i))):=ES fun _ _ _ _ _ _ _ q=>ge_int q
theorem nj (b:Expr) {op:CmpOp} (h:op≠.In:=by decide) (h2:op≠.NotIn:=by decide):behindInMarks op b=false:=by
 have e1:(op == CmpOp.In)=false:=by cases op <;> first | rfl | exact absurd rfl h
 have e2:(op == CmpOp.NotIn)=false:=by cases op <;> first | rfl | exact absurd rfl h2
 cases b <;> simp [behindInMarks,e1,e2]
theorem vV {op:CmpOp} {r:R2} (ho:OpR X (compareOp op) r) (ha:PE X a ta) (hb:PE X b tb) (hm:behindInMarks op b=false):PE X (.Compare a [op] [b] pos) (tOp r ta tb):=by
 intro pins s σ H Q I h
 exact wpAny_Compare1 (Iv ha hb I h fun v u s2 x y H2 I2 rx ry q=>ho pins s2 σ H2 x y v u Q I2 rx ry q) hm
def FZ (t:TE):TT:=fun σ H Q=>t σ H fun x H'=>∃ k,x=.bl k∧Q k H'
theorem mL {op:CmpOp} {r:R2} (ho:OpR X (compareOp op) r) (ha:PE X a ta) (hb:PE X b tb) (hm:behindInMarks op b=false):PT X (.Compare a [op] [b] pos) (FZ (tOp r ta tb)):=by
 intro pins s σ H Q I h
 refine wpAny_isTrue_Compare1 (thn (ha pins s σ H _ I h) fun v s1 ⟨x,H1,I1,r1,q1⟩=>thn (hb pins s1 σ H1 _ I1 q1) fun u s2 ⟨y,H2,I2,r2,q2⟩ =>
  thn (ho pins s2 σ H2 x y v u _ I2 r1 r2 q2) fun c s3 ⟨z,H3,I3,r3,k,e,q3⟩=>?_) hm
 subst e
 cases r3
 exact wpAny_truthy_bool ⟨H3,I3,q3⟩
def CN (r r':R2) (ta tb tc:TE):TE:=fun σ H Q=>ta σ H fun x H1=>tb σ H1 fun y H2=>r x y H2 fun z H3=>∃ k,z=.bl k ∧
 (if k=true then tc σ H3 fun w' H4=>r' y w' H4 Q else Q (.bl false) H3)
theorem CL {op op':CmpOp} {r r':R2} (ho:OpR X (compareOp op) r) (ho':OpR X (compareOp op') r') (ha:PE X a ta) (hb:PE X b tb) (hc:PE X c tc)
  (hm:lastMarks [op,op'] [b,c]=false:=by with_unfolding_all rfl):PE X (.Compare a [op,op'] [b,c] pos) (CN r r' ta tb tc):=by
 intro pins s σ H Q I h
 refine Compare_chain (thn (ha pins s σ H _ I h) fun v s1 ⟨x,H1,I1,r1,q1⟩=>chain_link (thn (hb pins s1 σ H1 _ I1 q1) fun u s2 ⟨y,H2,I2,r2,q2⟩ =>
  thn (ho pins s2 σ H2 x y v u _ I2 r1 r2 q2) fun d s3 ⟨z,H3,I3,r3,k,e,q3⟩=>?_)) hm
 subst e
 cases r3
 refine wpAny_truthy_bool ?_
 cases k with
 | false=>exact ite_ff ⟨.bl false,H3,I3,rfl,q3⟩
 | true=>exact ite_tt (chain_last (thn (hc pins s3 σ H3 _ I3 q3) fun w' s4 ⟨z',H4,I4,r4,q4⟩=>ho' pins s4 σ H4 y z' u w' Q I4 r2 r4 q4))
theorem yC {op op':CmpOp} {r r':R2} (ho:OpR X (compareOp op) r) (ho':OpR X (compareOp op') r') (ha:PE X a ta) (hb:PE X b tb) (hc:PE X c tc)
  (hm:lastMarks [op,op'] [b,c]=false:=by with_unfolding_all rfl):PT X (.Compare a [op,op'] [b,c] pos) (FZ (CN r r' ta tb tc)):=by
 intro pins s σ H Q I h
 refine isTrue_chain (thn (ha pins s σ H _ I h) fun v s1 ⟨x,H1,I1,r1,q1⟩=>test_link (thn (hb pins s1 σ H1 _ I1 q1) fun u s2 ⟨y,H2,I2,r2,q2⟩ =>
  thn (ho pins s2 σ H2 x y v u _ I2 r1 r2 q2) fun d s3 ⟨z,H3,I3,r3,k,e,q3⟩=>?_)) hm
 subst e
 cases r3
 refine wpAny_truthy_bool ?_
 cases k with
 | false =>
  obtain⟨k',e',q'⟩:=q3
  cases e'
  exact ite_ff ⟨H3,I3,q'⟩
 | true =>
  refine ite_tt (test_last (thn (hc pins s3 σ H3 _ I3 q3) fun w' s4 ⟨z',H4,I4,r4,q4⟩=>thn (ho' pins s4 σ H4 y z' u w' _ I4 r2 r4 q4) fun d' s5 ⟨z2,H5,I5,r5,k2,e2,q5⟩=>?_))
  subst e2
  cases r5
  exact wpAny_truthy_bool ⟨H5,I5,q5⟩
theorem xK:(sizeLine:Nat)<2 ^ 63:=by rw[sizeLine_eq]; decide
theorem vals1 {x:V} {us:List Value} (r:Vals [x] us):∃ u,us=[u]∧RelV x u:=by
 cases r with
 | cons r1 r2=>cases r2; exact⟨_,rfl,r1⟩
theorem vals2 {x y:V} {us:List Value} (r:Vals [x,y] us):∃ u w',us=[u,w']∧RelV x u∧RelV y w':=by
 cases r with
 | cons r1 r2 =>
  cases r2 with
  | cons r3 r4=>cases r4; exact⟨_,_,rfl,r1,r3⟩
theorem Gb (hc:X.calm=true):vn X (.builtin "max") (fun xs H Q=>∃ i j,xs=[.int i,.int j]∧Q (.int (if j > i then j else i)) H):=by
 intro pins s σ H xs us Q I r h
 obtain⟨i,j,rfl,q⟩:=h
 obtain⟨u,w',rfl,⟨t,rfl⟩,⟨t',rfl⟩⟩:=vals2 r
 refine max_two_ints (I.ok.hd hc) fun h' tk k=>⟨_,H,I.kept k,?_,q⟩
 by_cases hj:j > i
 ·rw[if_pos hj,if_pos hj]; exact⟨_,rfl⟩
 ·rw[if_neg hj,if_neg hj]; exact⟨_,rfl⟩
end
structure ObjM (h:Heap) (x dx C:Addr) (mA:Str→Option Value):Prop where
 obj:h.get? x=some (PySem.W.instObj C dx)
 ns:h.Ns1 dx mA
 ne:dx≠x
theorem Gz {h:Heap} {dx:Addr} {mA:Str→Option Value} (n:h.Ns1 dx mA):∃ od,h.get? dx=some od∧∀ name,PySem.W.lookIn name od=some (mA name):=by
 obtain⟨o,es,ep,ho,hd,hk,_,hm⟩:=n
 refine⟨o,ho,fun name=>?_⟩
 have e:=hm name
 unfold nsFind findBy at e
 rw[← Array.find?_toList] at e
 unfold PySem.W.lookIn
 rw[hd]
 dsimp only
 split
 ·rename_i y q
  rw[q] at e
  exact congrArg some e
 ·rename_i q
  rw[q] at e
  have a:es.toList.any (·.refKey)=false:=by
   rw[List.any_eq_false]
   intro y hy
   obtain⟨z,t,hkey⟩:=hk y (Array.mem_toList_iff.mp hy)
   simp [DictEntry.refKey,hkey]
  have a':¬ es.toList.any (·.refKey)=true:=by rw[a]; exact Bool.false_ne_true
  rw[if_neg a']
  exact congrArg some e
theorem ObjM.look {h:Heap} {x dx C:Addr} {mA:Str→Option Value} (I:ObjM h x dx C mA):∃ od,PySem.W.InstAt h x (PySem.W.instObj C dx) C (some od)∧∀ name,PySem.W.lookIn name od=some (mA name) :=
 let ⟨od,ho,hl⟩:=Gz I.ns
 ⟨od,⟨I.obj,rfl,rfl,ho⟩,hl⟩
section
variable {prog:Program} {w:World} {A:Around} {E:Value→Shared→Prop} {s:Shared} {K:PySem.W.Frag} {x dx C f:Addr} {mA:Str→Option Value} {name:Str} {v:Value}
theorem get_map {expr:Bool} {Q:Value→Shared→Prop} (X:K.In s.heap) (I:ObjM s.heap x dx C mA) (hg:PySem.W.plainGet K C name=true) (hh:PySem.W.hasDictIn K C=true)
  (ha:PySem.W.findIn K (.ref C) name=some none) (hv:mA name=some v) (hv':PySem.W.handedIn v=true) (h:Q v { s with toks:=s.toks+1 }) :
  wpAny (model prog w) A (getAttr (.ref x) name expr) Q E s:=by
 obtain⟨od,J,hl⟩:=I.look
 exact PySem.W.get_value X J (PySem.W.plainGet_of hg).1 (PySem.W.findObj_own hh ha rfl (by rw[hl,hv])) hv' h
theorem Iq {pl:Sem Bool} {Q:Value×List Value→Shared→Prop} (X:K.In s.heap) (I:ObjM s.heap x dx C mA) (hg:PySem.W.plainGet K C name=true)
  (hf:PySem.W.findIn K (.ref C) name=some (some (.ref f))) (ht:PySem.W.isFn K (.ref f)=true) (hv:mA name=none) (h:Q (.ref f,[.ref x]) s) :
  wpAny (model prog w) A (getMethod (.ref x) name pl) Q E s:=by
 obtain⟨od,J,hl⟩:=I.look
 exact PySem.W.method_fn X J (PySem.W.plainGet_of hg).1 (PySem.W.plainGet_of hg).2 hf (beq_iff_eq.mp ht) (by show (PySem.W.lookIn name od).map (·.isSome)=some false; rw[hl,hv]; rfl) h
theorem Jq {ns:List Str} {Q:Unit→Shared→Prop} (X:K.In s.heap) (I:ObjM s.heap x dx C mA)
  (hs:PySem.W.findIn K (.ref C) "__setattr__"=some (some (.builtin "object.__setattr__"))) (hp:PySem.W.plainOver K C=true) (ht:PySem.W.takerIn K C name=some none) (hh:PySem.W.hasDictIn K C=true)
  (hw:PySem.Within mA ns) (hsz:ns.length≤sizeLine)
  (h:∀ h',ObjM h' x dx C (fun y=>if y=name then some v else mA y)→Heap.SameBut dx s.heap h'→Q () { s with heap:=h',toks:=s.toks+2 }) :
  wpAny (model prog w) A (setAttr (.ref x) name v) Q E s:=by
 obtain⟨od,J,hl⟩:=I.look
 refine PySem.W.set_plain X J hs (PySem.W.osa_open (s:={ s with toks:=s.toks+1 }) (r:=none) X J hp ht fun b=>?_)
 obtain⟨cd,hc,hd'⟩:=PySem.W.any_some hh
 have hx:s.heap.get? x=some ⟨.ref C,some dx,.plain,#[]⟩:=I.obj
 refine wpAny_bind (wpAny_pure (wpAny_bind (wpAny_bind (wpAny_loadPart hx (wpAny_bind (PySem.W.Looks.here (s:={ s with toks:=s.toks+1 }) (PySem.W.looks_clsIn X hc) ?_))))))
 rw[hd']
 refine wpAny_pure (a:=some dx) (wpAny_bind (wpAny_pure (wpAny_bind ?_)))
 refine wpAny_nsSet1 (s:={ s with toks:=s.toks+1 }) I.ns fun h' hn2 hs2=>?_
 obtain⟨oD,esD,epD,hoD,hdD,hcD⟩:=hn2.count (PySem.Within.cons name v hw)
 refine wpAny_bind (wpAny_lookBehind hoD (by rw[hdD]; exact pastItsLine_dict (Nat.le_trans hcD (by rw[List.length_cons]; omega))) ?_)
 exact wpAny_pure (h _ ⟨(hs2.2 _ (Ne.symm I.ne)).trans I.obj,hn2,I.ne⟩ hs2)
theorem Ia {R:Result→Shared→Prop} {vs:List Value} {kw:List (Str×Value)} (X:K.In s.heap) (hm:PySem.W.makesIn K C=true)
  (hi:PySem.W.findIn K (.ref C) "__init__"=some (some (.ref f))) (hf:PySem.W.typeIn K (.ref f)=some (.type "function"))
  (h:codeAny (model prog w) (A.under (.builtin "type.__call__" ⟨.ref C::vs,kw⟩)) (.call (.ref f) ⟨.ref (s.heap.objs.size+1)::vs,kw⟩) (PySem.W.InitBack (s.heap.objs.size+1) R)
   { s with heap:=(s.heap.push PySem.W.emptyDict).push (PySem.W.instObj C s.heap.objs.size) }) :
  codeAny (model prog w) A (.call (.ref C) ⟨vs,kw⟩) R s:=by
 obtain⟨hh,g,d,t,os⟩:=s
 exact PySem.W.make_core (PySem.W.makes_of X hm) (PySem.W.looks_findIn X hi) (fun self=>PySem.W.bind_fn X self hf) (.inl rfl) h
theorem GD {R:Result→Shared→Prop} (X:K.In s.heap) (hm:PySem.W.makesIn K C=true)
  (hi:PySem.W.findIn K (.ref C) "__init__"=some (some (.builtin "object.__init__")))
  (hb:∀ self,PySem.W.Looks (model prog w) s.heap (bindSpecial (.builtin "object.__init__") self) (.builtin "object.__init__",[self]))
  (h:codeAny (model prog w) (A.under (.builtin "type.__call__" ⟨[.ref C],[]⟩)) (.call (.builtin "object.__init__") ⟨[.ref (s.heap.objs.size+1)],[]⟩) (PySem.W.InitBack (s.heap.objs.size+1) R)
   { s with heap:=(s.heap.push PySem.W.emptyDict).push (PySem.W.instObj C s.heap.objs.size) }) :
  codeAny (model prog w) A (.call (.ref C) ⟨[],[]⟩) R s:=by
 obtain⟨hh,g,d,t,os⟩:=s
 exact PySem.W.make_core (PySem.W.makes_of X hm) (PySem.W.looks_findIn X hi) hb (.inr ⟨rfl,rfl⟩) h
end
noncomputable def vh (f:Str) (v:V):List (Str×V)→List (Str×V)
 | []=>[(f,v)]
 | (g,x)::r=>if g=f then (g,v)::r else (g,x)::vh f v r
theorem zH (f g:Str) (v:V):∀ fs:List (Str×V),(vh f v fs).lookup g=if g=f then some v else fs.lookup g
 | []=>by
  show List.lookup g [(f,v)]=_
  by_cases h:g=f
  ·have hb:(g == f)=true:=beq_iff_eq.mpr h
   simp only [List.lookup,hb,if_pos h]
  ·have hb:(g == f)=false:=beq_eq_false_iff_ne.mpr h
   simp only [List.lookup,hb,if_neg h]
 | (k,x)::r=>by
  have ih:=zH f g v r
  rw[show vh f v ((k,x)::r)=(if k=f then (k,v)::r else (k,x)::vh f v r) from rfl]
  by_cases hk:k=f
  ·rw[if_pos hk]
   by_cases h:g=k
   ·have hb:(g == k)=true:=beq_iff_eq.mpr h
    simp only [List.lookup,hb,if_pos (h.trans hk)]
   ·have hb:(g == k)=false:=beq_eq_false_iff_ne.mpr h
    simp only [List.lookup,hb,if_neg (fun e:g=f=>h (e.trans hk.symm))]
  ·rw[if_neg hk]
   by_cases h:g=k
   ·have hb:(g == k)=true:=beq_iff_eq.mpr h
    simp only [List.lookup,hb,if_neg (fun e:g=f=>hk (h.symm.trans e))]
   ·have hb:(g == k)=false:=beq_eq_false_iff_ne.mpr h
    simp only [List.lookup,hb]
    exact ih
theorem yP (f:Str) (v:V):∀ fs:List (Str×V),f∈(vh f v fs).map (·.1)∧∀ g,g∈fs.map (·.1)→g∈(vh f v fs).map (·.1)
 | []=>⟨by simp [vh],fun g h=>by simp at h⟩
 | (k,x)::r=>by
  obtain⟨i1,i2⟩:=yP f v r
  rw[show vh f v ((k,x)::r)=(if k=f then (k,v)::r else (k,x)::vh f v r) from rfl]
  by_cases hk:k=f
  ·rw[if_pos hk]
   subst hk
   exact⟨by simp,fun g h=>by simpa using h⟩
  ·rw[if_neg hk]
   refine⟨?_,fun g h=>?_⟩
   ·rw[List.map_cons]
    exact List.mem_cons_of_mem _ i1
   ·rw[List.map_cons] at h ⊢
    rcases List.mem_cons.mp h with e | e
    ·exact List.mem_cons.mpr (.inl e)
    ·exact List.mem_cons_of_mem _ (i2 g e)
theorem zE (f:Str) (v:V):∀ fs:List (Str×V),(vh f v fs).length≤fs.length+1
 | []=>by simp [vh]
 | (k,x)::r=>by
  have ih:=zE f v r
  rw[show vh f v ((k,x)::r)=(if k=f then (k,v)::r else (k,x)::vh f v r) from rfl]
  by_cases hk:k=f
  ·rw[if_pos hk,List.length_cons,List.length_cons]; omega
  ·rw[if_neg hk,List.length_cons,List.length_cons]; omega
theorem RelO.some_of {v:V} {o:Option Value} (r:RelO (some v) o):∃ u,o=some u∧RelV v u:=by
 cases o with
 | none=>exact (show False from r).elim
 | some u=>exact⟨u,rfl,r⟩
theorem RelO.none_of {o:Option Value} (r:RelO none o):o=none:=by
 cases o with
 | none=>rfl
 | some u=>exact (show False from r).elim
theorem G4 {v:V} {u:Value} (r:RelV v u):PySem.W.handedIn u=true:=by
 cases v with
 | non=>cases (show u=Value.none from r); rfl
 | bl b=>cases (show u=Value.bool b from r); rfl
 | int i=>obtain⟨t,e⟩:=(show ∃ t,u=Value.int i t from r); cases e; rfl
 | str x=>obtain⟨t,e⟩:=(show ∃ t,u=Value.str x t from r); cases e; rfl
 | byt b=>obtain⟨t,e⟩:=(show ∃ t,u=Value.bytes b t from r); cases e; rfl
 | flt b=>obtain⟨t,e⟩:=(show ∃ t,u=Value.float b t from r); cases e; rfl
 | ref a=>cases (show u=Value.ref a from r); rfl
 | ty n=>cases (show u=Value.type n from r); rfl
section
variable {P:Program} {w:World} {H H':Hp} {h h':Heap} {a C dx:Addr} {fs fs':List (Str×V)}
theorem AA (hok:HOk P w H h) (e:H a=some (.ins C dx fs)):∃ mA,ObjM h a dx C mA∧(∀ f,RelO (fs.lookup f) (mA f))∧PySem.Within mA (fs.map (·.1))∧fs.length≤1000∧H dx=some (.own a):=by
 obtain⟨d,z,ne,ob,mA,n,r,q⟩:=(show ObjOk P w H h a (.ins C dx fs) from hok a _ e)
 exact⟨mA,⟨ob,n,ne⟩,r,q,z,d⟩
end
structure Cls (K:PySem.W.Frag) (C:Addr):Prop where
 pg:PySem.W.plainGet K C Str.empty=true
 hd:PySem.W.hasDictIn K C=true
 po:PySem.W.plainOver K C=true
 sa:PySem.W.findIn K (.ref C) "__setattr__"=some (some (.builtin "object.__setattr__"))
theorem Cls.get {K:PySem.W.Frag} {C:Addr} (c:Cls K C) (f:Str):PySem.W.plainGet K C f=true:=c.pg
def NoAttr (K:PySem.W.Frag) (C:Addr) (f:Str):Prop:=PySem.W.findIn K (.ref C) f=some none
theorem NoAttr.taker {K:PySem.W.Frag} {C:Addr} {f:Str} (n:NoAttr K C f):PySem.W.takerIn K C f=some none:=by
 unfold PySem.W.takerIn
 rw[show PySem.W.findIn K (.ref C) f=some none from n]
 rfl
structure Con (K:PySem.W.Frag) (C:Addr) (f:Str) (v:V) (u:Value):Prop where
 at_:PySem.W.findIn K (.ref C) f=some (some u)
 rel:RelV v u
 get:PySem.W.specialIn K u "__get__"=some none
 cp:PySem.W.copiedNames.contains f=false
structure Meth (K:PySem.W.Frag) (C:Addr) (m:Str) (f:Addr):Prop where
 at_:PySem.W.findIn K (.ref C) m=some (some (.ref f))
 fn:PySem.W.isFn K (.ref f)=true
 kp:PySem.W.keepIn K (.ref f)=true
section
variable {X:Cx} {pins:List (Addr×Obj)} {σ:St} {H:Hp} {s:Shared} {a C dx:Addr} {fs:List (Str×V)} {f:Str} {v:V} {A:Around} {E:Value→Shared→Prop}
theorem FL {b:Bool} {Q:Value→Shared→Prop} (I:Inv X pins σ H s) (e:H a=some (.ins C dx fs)) (c:Cls X.K C) (n:NoAttr X.K C f) (l:fs.lookup f=some v)
  (h:∀ u s',Inv X pins σ H s'→RelV v u→Q u s'):wpAny (model X.prog X.w) A (getAttr (.ref a) f b) Q E s:=by
 obtain⟨mA,O,r,_,_,_⟩:=AA I.hok e
 obtain⟨u,hu,ru⟩:=RelO.some_of (v:=v) (o:=mA f) (by rw[← l]; exact r f)
 exact get_map I.kIn O (c.get f) c.hd n hu (G4 ru) (h u _ (I.tok _) ru)
theorem Fe {m:Str} {g:Addr} {pl:Sem Bool} {Q:Value×List Value→Shared→Prop} (I:Inv X pins σ H s) (e:H a=some (.ins C dx fs)) (c:Cls X.K C) (k:Meth X.K C m g) (l:fs.lookup m=none)
  (h:Q (.ref g,[.ref a]) s):wpAny (model X.prog X.w) A (getMethod (.ref a) m pl) Q E s:=by
 obtain⟨mA,O,r,_,_,_⟩:=AA I.hok e
 have hn:mA m=none:=RelO.none_of (by rw[← l]; exact r m)
 exact Iq I.kIn O (c.get m) k.at_ k.fn hn h
theorem E5 {y:V} {u:Value} {Q:Unit→Shared→Prop} (I:Inv X pins σ H s) (e:H a=some (.ins C dx fs)) (c:Cls X.K C) (n:NoAttr X.K C f) (hl:fs.length<1000) (ry:RelV y u)
  (h:∀ s',Inv X pins σ (upd H a (.ins C dx (vh f y fs))) s'→Q () s'):wpAny (model X.prog X.w) A (setAttr (.ref a) f u) Q E s:=by
 obtain⟨mA,O,r,wi,_,ho⟩:=AA I.hok e
 have hz:(fs.map (·.1)).length≤sizeLine:=by rw[List.length_map,sizeLine_eq]; omega
 refine Jq I.kIn O c.sa c.po n.taker c.hd wi hz fun h' O' sb=>h _ ?_
 have hd:∃ o,h'.get? dx=some o:=let ⟨o,_,_,e',_⟩:=O'.ns; ⟨o,e'⟩
 refine I.write (x:=a) (e:=dx) (by rw[e]; exact True.intro) (.inr ho) (fun b q hb z=>(sb.2 b hb).trans z) hd ?_
 refine⟨by rw[gS O.ne]; exact ho,?_,O.ne,O'.obj,_,O'.ns,fun g=>?_,fun g hg=>?_⟩
 ·have:=zE f y fs; omega
 ·show RelO ((vh f y fs).lookup g) (if g=f then some u else mA g)
  rw[zH]
  by_cases q:g=f
  ·rw[if_pos q,if_pos q]; exact ry
  ·rw[if_neg q,if_neg q]; exact r g
 ·by_cases q:g=f
  ·rw[q]; exact (yP f y fs).1
  ·refine (yP f y fs).2 g (wi g fun z=>hg ?_)
   show (if g=f then some u else mA g)=none
   rw[if_neg q]; exact z
theorem Inv.made (I:Inv X pins σ H s):Inv X pins σ (upd (upd H s.heap.objs.size (.own (s.heap.objs.size+1))) (s.heap.objs.size+1) (.ins C s.heap.objs.size []))
  { s with heap:=(s.heap.push PySem.W.emptyDict).push (PySem.W.instObj C s.heap.objs.size) }:=by
 have e1:(s.heap.push PySem.W.emptyDict).get? s.heap.objs.size=some PySem.W.emptyDict:=Heap.get?_push_size s.heap rfl
 have e2:((s.heap.push PySem.W.emptyDict).push (PySem.W.instObj C s.heap.objs.size)).get? (s.heap.objs.size+1)=some (PySem.W.instObj C s.heap.objs.size):=by
  have:=Heap.get?_push_size (s.heap.push PySem.W.emptyDict) (o:=PySem.W.instObj C s.heap.objs.size) rfl
  rwa [Heap.size_push] at this
 have e3:(s.heap.push PySem.W.emptyDict).Ns s.heap.objs.size (fun _=>none):=⟨PySem.W.emptyDict,#[],_,e1,rfl,(fun e he=>absurd he (by simp)),fun _=>rfl⟩
 have I1:=I.laid (a:=s.heap.objs.size) (o:=.own (s.heap.objs.size+1)) (h':=s.heap.push PySem.W.emptyDict) (t':=s.toks) (fun b u q=>Heap.get?_push_of_some _ q) (Nat.le_refl _) ⟨_,e1⟩
 refine I1.laid (a:=s.heap.objs.size+1) (o:=.ins C s.heap.objs.size []) (t':=s.toks) (fun b u q=>Heap.get?_push_of_some _ q) (Nat.le_of_eq (Heap.size_push _ _)) ?_
 have ne:s.heap.objs.size≠s.heap.objs.size+1:=Nat.ne_of_lt (Nat.lt_succ_self _)
 refine⟨by rw[gS ne,fj],Nat.zero_le _,ne,e2,fun _=>none,(Heap.Ns1.of_empty e3).at fun o q=>Heap.get?_push_of_some _ q,fun _=>True.intro,fun y hy=>absurd rfl hy⟩
theorem Jr {prog:Program} {w:World} {env:Env} {e:Expr} {f:Str} {pos:Pos} {s:Shared} {Q:Value→Shared→Prop} (hb:attributeBase e f env (eval e env)=eval e env)
  (h:wpAny (model prog w) A (eval e env) (fun o s₁=>wpAny (model prog w) A (getAttr o f true) Q E s₁) E s):wpAny (model prog w) A (eval (.Attribute e f pos) env) Q E s :=
 Attribute_any_ h (by rw[arm_eval_Attribute,hb])
end
def JP (K:PySem.W.Frag) (ta:TE) (f:Str):TE:=fun σ H Q=>ta σ H fun x H1=>∃ a C dx fs v,x=.ref a∧H1 a=some (.ins C dx fs)∧Cls K C∧NoAttr K C f∧fs.lookup f=some v∧Q v H1
def Km (K:PySem.W.Frag) (ta tv:TE) (f:Str):TS:=fun D σ H=>tv σ H fun y H1=>ta σ H1 fun x H2=>∃ a C dx fs,x=.ref a∧H2 a=some (.ins C dx fs)∧Cls K C∧NoAttr K C f∧fs.length<1000 ∧
 D.nx σ (upd H2 a (.ins C dx (vh f y fs)))
section
variable {X:Cx} {o e value:Expr} {f:Str} {pos pos' tpos:Pos} {ta tv:TE}
theorem tY (he:PE X e ta) (hb:attributeBase e f X.env (eval e X.env)=eval e X.env):PE X (.Attribute e f pos) (JP X.K ta f):=by
 intro pins s σ H Q I h
 refine Jr hb (thn (he pins s σ H _ I h) fun u s1 ⟨x,H1,I1,rx,a,C,dx,fs,v,ex,ea,c,n,l,q⟩=>?_)
 subst ex
 obtain rfl:u=Value.ref a:=rx
 exact FL I1 ea c n l fun u' s2 I2 ru=>⟨v,H1,I2,ru,q⟩
theorem vI (ha:PE X o ta) (hv:PE X value tv) (hs:swapsWith value (some (.Attribute o f pos')) pos.line X.env=pure false):PS X (.Assign [.Attribute o f pos'] value pos) (Km X.K ta tv f):=by
 intro pins s σ H D I h
 refine plainObj_wpAny_Assign_Attribute (thn (hv pins s σ H _ I h) fun u s1 ⟨y,H1,I1,ry,q⟩=>thn (ha pins s1 σ H1 _ I1 q) fun ov s2 ⟨x,H2,I2,rx,a,C,dx,fs,ex,ea,c,n,l,q2⟩=>?_) hs
 subst ex
 obtain rfl:ov=Value.ref a:=rx
 exact E5 I2 ea c n l ry fun s3 I3=>⟨σ,_,I3,q2⟩
end
section
variable {X:Cx} {pins:List (Addr×Obj)} {σ:St} {H:Hp} {s:Shared} {A:Around} {E:Value→Shared→Prop} {Q:Value→Shared→Prop} {c:Value} {b:Bool}
inductive TyOf (K:PySem.W.Frag) (H:Hp):V→Value→Prop where
 | non:TyOf K H .non (.type "NoneType")
 | bl (x:Bool):TyOf K H (.bl x) (.type "bool")
 | int (i:Int):TyOf K H (.int i) (.type "int")
 | str (x:Str):TyOf K H (.str x) (.type "str")
 | flt (x:UInt64):TyOf K H (.flt x) (.type "float")
 | lst {a:Addr} {xs:List V} (e:H a=some (.lst xs)):TyOf K H (.ref a) (.type "list")
 | frz {a:Addr} {o:Obj} {xs:List V} (e:H a=some (.frz o (.lst xs))):TyOf K H (.ref a) (.type "list")
 | tup {a:Addr} {xs:List V} (e:H a=some (.tup xs)):TyOf K H (.ref a) (.type "tuple")
 | dK {a:Addr} {kvs:List (Key×V)} (e:H a=some (.dK kvs)):TyOf K H (.ref a) (.type "dict")
 | dT {a:Addr} {kvs:List (List Key×V)} (e:H a=some (.dT kvs)):TyOf K H (.ref a) (.type "dict")
 | ins {a C dx:Addr} {fs:List (Str×V)} (e:H a=some (.ins C dx fs)) (cl:Cls K C) (ha:PySem.W.findIn K (.ref C) "__class__"=some (some (.builtin "object.__class__")))
   (hn:PySem.W.specialIn K (.builtin "object.__class__") "__get__"=some (some (.builtin "getset_descriptor.__get__"))) (htk:PySem.W.takesIn K (.builtin "object.__class__")=some true)
   (hm:PySem.W.mroIn K C (.type "object")=some true):TyOf K H (.ref a) (.ref C)
end
structure Room (k:Nat) (A:Around):Prop where
 hd:A.handled=none
 dp:A.depth+3 * k+5<recursionLimit
 un:A.units+16 * k+200<cLine
theorem Room.mono {j k:Nat} {A:Around} (r:Room k A) (h:j≤k):Room j A:=⟨r.hd,by have:=r.dp; omega,by have:=r.un; omega⟩
theorem Room.deeper {k:Nat} {A:Around} (r:Room (k+1) A) (env:Env):Room k (A.deeper env) :=
 ⟨r.hd,by have:=r.dp; show A.depth+1+3 * k+5<_; exact Oz73 this,by have:=r.un; show A.units+3+16 * k+200<_; omega⟩
theorem Room.in1 {k:Nat} {A:Around} (r:Room (k+1) A):Room k A.in1 :=
 ⟨r.hd,by have:=r.dp; show A.depth+3 * k+5<_; omega,by have:=r.un; show A.units+1+16 * k+200<_; exact Oz78 this⟩
theorem E4 {A:Around} {C:Addr} {us:List Value} {kw:List (Str×Value)}:(A.under (.builtin "type.__call__" ⟨.ref C::us,kw⟩)).depth=A.depth+1:=by
 first | rfl | simp [Around.under,Code.weight,Code.isCreation,Code.isGuard,Code.isCaller,Code.frames,Code.isFrame,guardIds]
theorem EG {A:Around} {C:Addr} {us:List Value} {kw:List (Str×Value)}:(A.under (.builtin "type.__call__" ⟨.ref C::us,kw⟩)).units=A.units+1:=by
 first | rfl | simp [Around.under,Code.cUnits,Code.frames,Code.isFrame]
theorem Room.make {k:Nat} {A:Around} (r:Room (k+1) A) (C:Addr) (us:List Value) (kw:List (Str×Value)):Room k (A.under (.builtin "type.__call__" ⟨.ref C::us,kw⟩)) :=
 ⟨r.hd,by have:=r.dp; rw[E4]; exact Oz73 this,by have:=r.un; rw[EG]; exact Oz78 this⟩
theorem Room.depth {k:Nat} {A:Around} (r:Room k A):A.depth<recursionLimit:=by have:=r.dp; omega
theorem Room.units {k:Nat} {A:Around} (r:Room k A):A.units+64<cLine:=by have:=r.un; omega
def HY:TA:=fun _ H Q=>Q [] H
def FH (ta:TE) (tr:TA):TA:=fun σ H Q=>ta σ H fun x H1=>tr σ H1 fun xs H2=>Q (x::xs) H2
section
variable {X:Cx} {e:Expr} {es:List Expr} {te:TE} {t:TA} {pos:Pos}
theorem eY:PA X [] HY:=fun _ _ _ _ H Q I h=>Calls.spliced_nil ⟨[],H,I,.nil,h⟩
theorem cg (ha:PE X e te) (hr:PA X es t) (hs:starEach (e::es) X.env=(false,eval e X.env)::starEach es X.env:=by rfl):PA X (e::es) (FH te t):=by
 intro pos pins s σ H Q I h
 rw[hs]
 show wpAny _ _ (spliced ((false,eval e X.env)::backTo pos (starEach es X.env))) _ _ s
 refine Calls.spliced_cons (thn (ha pins s σ H _ I h) fun u s1 ⟨x,H1,I1,r1,q1⟩=>?_)
 exact thn (hr pos pins s1 σ H1 _ I1 q1) fun us s2 ⟨xs,H2,I2,r2,q2⟩=>⟨x::xs,H2,I2,.cons r1 r2,q2⟩
def Ko (t:TA):TE:=fun σ H Q=>t σ H fun xs H1=>xs.length≤sizeLine∧∀ p,H1 p=none→Q (.ref p) (upd H1 p (.tup xs))
def KN (t:TA):TE:=fun σ H Q=>t σ H fun xs H1=>xs.length≤sizeLine∧∀ p,H1 p=none→Q (.ref p) (upd H1 p (.lst xs))
theorem nP {x1} (h:PA X es t):PE X (.Tuple es x1 pos) (Ko t):=by
 intro pins s σ H Q I hq
 refine wpAny_Tuple_spliced (thn (h pos pins s σ H _ I hq) fun us s1 ⟨xs,H1,I1,r,z,q⟩=>⟨by rw[← r.length]; exact z,?_⟩)
 have hf:H1 s1.heap.objs.size=none:=I1.hok.fresh (Nat.le_refl _)
 refine⟨.ref s1.heap.objs.size,upd H1 s1.heap.objs.size (.tup xs),I1.laid (t':=s1.toks) (fun b u e=>Heap.get?_push_of_some _ e) (Nat.le_refl _) ?_,rfl,q _ hf⟩
 exact⟨z,us,r,⟨_,Heap.get?_push_size _ rfl,rfl,_,rfl⟩,_,Heap.get?_push_size _ rfl,rfl⟩
theorem vY (h:PA X es t):PE X (.List es pos) (KN t):=by
 intro pins s σ H Q I hq
 refine wpAny_List_spliced (thn (h pos pins s σ H _ I hq) fun us s1 ⟨xs,H1,I1,r,z,q⟩=>⟨by rw[← r.length]; exact z,?_⟩)
 have hf:H1 s1.heap.objs.size=none:=I1.hok.fresh (Nat.le_refl _)
 refine⟨.ref s1.heap.objs.size,upd H1 s1.heap.objs.size (.lst xs),I1.laid (t':=s1.toks) (fun b u e=>Heap.get?_push_of_some _ e) (Nat.le_refl _) ?_,rfl,q _ hf⟩
 exact⟨z,us,0,r,Heap.get?_push_size _ rfl⟩
end
abbrev Sp:=List V→Hp→VK→XK→Prop
abbrev CXT:=List Env→Hp→Shared→XK→Value→Shared→Prop
structure Env0 (P:Program) (w:World) (K:PySem.W.Frag) (mg:Str→Option Value) (base:Heap) (A:Around) (outer:List Env) (s:Shared) (H:Hp):Prop where
 frames:A.frames=some outer
 mod:Mod K mg base
 bs:∀ b o,base.get? b=some o→s.heap.get? b=some o∧H b=none
 bsz:base.objs.size≤s.heap.objs.size
 funs:s.heap.FunFrames base outer
 frf:∀ b∈frs outer,H b=none
 hok:HOk P w H s.heap
 bare:AllBare s.gens
def CE (outer:List Env) (P:Program) (w:World) (H:Hp) (s:Shared) (Q:VK) (u:Value) (s':Shared):Prop :=
 ∃ v H',s'.os=s.os∧AllBare s'.gens∧Un (frs outer) [] H H' s.heap s'.heap∧HOk P w H' s'.heap∧RelV v u∧Q v H'
def CR (CX:CXT) (outer:List Env) (P:Program) (w:World) (H:Hp) (s:Shared) (Q:VK) (E:XK) (r:Result) (s':Shared):Prop :=
 match r with
 | .ok (.ret u)=>CE outer P w H s Q u s'
 | .ok _=>False
 | .error e=>CX outer H s E e s'
structure FnOk (P:Program) (w:World) (K:PySem.W.Frag) (mg:Str→Option Value) (base:Heap) (CX:CXT) (k:Nat) (f:Addr) (fd:FuncData) (ps:List Str) (sp:Sp):Prop where
 len:∀ vs H Q E,sp vs H Q E→vs.length=ps.length
 run:∀ (A:Around) (outer:List Env) (s:Shared) (H:Hp) (args:Args) (us:List Value) (vs:List V) (Q:VK) (E:XK),Room k A→Env0 P w K mg base A outer s H→BindsTo s fd args (ps.zip us)→Vals vs us→sp vs H Q E →
  codeAny (model P w) A (.call (.ref f) args) (CR CX outer P w H s Q E) s
theorem Env0.make {P:Program} {w:World} {K:PySem.W.Frag} {mg:Str→Option Value} {base:Heap} {A:Around} {outer:List Env} {s:Shared} {H:Hp} (e:Env0 P w K mg base A outer s H) (C:Addr) (us:List Value) (kw:List (Str×Value)) :
  Env0 P w K mg base (A.under (.builtin "type.__call__" ⟨.ref C::us,kw⟩)) outer s H:=⟨by first | exact e.frames | (simpa [Around.under,Code.envs,Code.isFrame,pushEnvs] using e.frames),e.mod,e.bs,e.bsz,e.funs,e.frf,e.hok,e.bare⟩
theorem Env0.in1 {P:Program} {w:World} {K:PySem.W.Frag} {mg:Str→Option Value} {base:Heap} {A:Around} {outer:List Env} {s:Shared} {H:Hp} (e:Env0 P w K mg base A outer s H) :
  Env0 P w K mg base A.in1 outer s H:=⟨e.frames,e.mod,e.bs,e.bsz,e.funs,e.frf,e.hok,e.bare⟩
section
variable {X:Cx} {pins:List (Addr×Obj)} {σ:St} {H:Hp} {s s':Shared}
theorem Inv.env0 (I:Inv X pins σ H s):Env0 X.prog X.w X.K X.mg X.base X.A X.stack s H :=
 ⟨I.ok.frames,I.ok.mod,I.bs,Nat.le_trans I.ok.bsz I.sz,I.stack,I.stkFree,I.hok,I.bare⟩
theorem Inv.after {Q:VK} {u:Value} (I:Inv X pins σ H s) (h:CE X.stack X.prog X.w H s Q u s'):EP X pins σ Q u s':=by
 obtain⟨v,H',os,bare,un,hok,r,q⟩:=h
 obtain⟨hh,g,d,t,os'⟩:=s'
 obtain rfl:os'=s.os:=os
 exact⟨v,H',I.call (h':=hh) (g':=g) (d':=d) (t':=t) (ch:=[]) un hok bare (fun b z=>absurd z (by simp)),r,q⟩
end
def Aq (sp:Sp) (dvs:List V) (E:XK) (t:TA):TE:=fun σ H Q=>t σ H fun vs H1=>sp (vs++dvs) H1 Q E
def Fc (C:Addr) (sp:Sp) (dvs:List V) (E:XK) (t:TA):TE:=fun σ H Q=>t σ H fun vs H1=>∀ x dx,H1 x=none→H1 dx=none→dx≠x →
 sp (.ref x::(vs++dvs)) (upd (upd H1 dx (.own x)) x (.ins C dx [])) (fun v H2=>v=.non∧Q (.ref x) H2) E
def Binds (K:PySem.W.Frag) (fd:FuncData) (ps:List Str) (ds:List Value):Prop :=
 ∀ (s:Shared) (us:List Value),K.In s.heap→(us++ds).length=ps.length→BindsTo s fd ⟨us,[]⟩ (ps.zip (us++ds))
theorem Binds.all {K:PySem.W.Frag} {fd:FuncData} {ps:List Str} (h:∀ us:List Value,us.length=ps.length→bindArgs fd ⟨us,[]⟩=pure (ps.zip us)):Binds K fd ps []:=fun s us _ hl=>by
 rw[List.append_nil] at hl ⊢
 exact .of_eq (h us hl)
def yb (CX:CXT) (X:Cx) (E:XK):Prop:=∀ (pins:List (Addr×Obj)) (σ:St) (H:Hp) (s:Shared) (e:Value) (s':Shared),Inv X pins σ H s→CX X.stack H s E e s'→X.xe e s'
section
variable {X:Cx} {CX:CXT} {k:Nat} {f C:Addr} {fd:FuncData} {ps:List Str} {sp:Sp} {dvs:List V} {ds:List Value} {E:XK} {x m:Str} {p pos apos:Pos} {e o:Expr} {es:List Expr} {ta:TE} {t:TA}
theorem Gg {pins:List (Addr×Obj)} {σ:St} {H:Hp} {s:Shared} {Q:VK} {us:List Value} {vs:List V} (F:FnOk X.prog X.w X.K X.mg X.base CX k f fd ps sp) (hr:Room k X.A) (hb:Binds X.K fd ps ds) (hd:Vals dvs ds) (hx:yb CX X E)
  (I:Inv X pins σ H s) (r:Vals vs us) (h:sp (vs++dvs) H Q E):wpAny (model X.prog X.w) X.A (call (.ref f) us) (EP X pins σ Q) X.xe s:=by
 have r2:Vals (vs++dvs) (us++ds):=r.append hd
 have hl:(us++ds).length=ps.length:=by rw[← r2.length]; exact F.len _ _ _ _ h
 refine wpAny_call (codeAny_mono (F.run X.A X.stack s H ⟨us,[]⟩ (us++ds) (vs++dvs) Q E hr I.env0 (hb s us I.kIn hl) r2 h) fun r s' hq=>?_)
 cases r with
 | error e=>exact hx pins σ H s e s' I hq
 | ok fl =>
  cases fl with
  | ret u=>exact I.after hq
  | next=>exact False.elim hq
  | brk=>exact False.elim hq
  | cont=>exact False.elim hq
theorem Js (F:FnOk X.prog X.w X.K X.mg X.base CX k f fd ps sp) (hr:Room k X.A) (hg:Gl X x) (hm:X.mg x=some (.ref f)) (hk:PySem.W.keepIn X.K (.ref f)=true) (hb:Binds X.K fd ps ds) (hd:Vals dvs ds) (hx:yb CX X E)
  (ha:PA X (e::es) t) (hdb:(x == ("__debug__":Str))=false:=by decide) (he:starEach (e::es) X.env=(false,eval e X.env)::starEach es X.env:=by rfl) (hpl:(backTo pos (starEach es X.env)).any (·.1)=false:=by rfl) :
  PE X (.Call (.Name x p) (e::es) [] pos) (Aq sp dvs E t):=by
 intro pins s σ H Q I h
 refine wpAny_Call_Name_kw (zq I hg hm ?_ hdb)
 refine PySem.W.callWith_K (h₀:=X.base) I.ok.mod.kin hk (thn (ha pos pins s σ H _ I h) fun us s1 ⟨vs,H1,I1,r,q⟩=>⟨I1.kIn,?_⟩) he hpl
 exact Gg F hr hb hd hx I1 r q
structure Mk (K:PySem.W.Frag) (C f:Addr):Prop where
 makes:PySem.W.makesIn K C=true
 init:PySem.W.findIn K (.ref C) "__init__"=some (some (.ref f))
 fn:PySem.W.isFn K (.ref f)=true
 kp:PySem.W.keepIn K (.ref C)=true
theorem IA {pins:List (Addr×Obj)} {σ:St} {H:Hp} {s:Shared} {Q:VK} {us:List Value} {vs:List V} (M:Mk X.K C f) (F:FnOk X.prog X.w X.K X.mg X.base CX k f fd ps sp) (hr:Room (k+1) X.A) (hb:Binds X.K fd ps ds) (hd:Vals dvs ds)
  (hx:yb CX X E) (I:Inv X pins σ H s) (r:Vals vs us)
  (h:∀ x dx,H x=none→H dx=none→dx≠x→sp (.ref x::(vs++dvs)) (upd (upd H dx (.own x)) x (.ins C dx [])) (fun v H2=>v=.non∧Q (.ref x) H2) E) :
  wpAny (model X.prog X.w) X.A (call (.ref C) us) (EP X pins σ Q) X.xe s:=by
 have hq:=h (s.heap.objs.size+1) s.heap.objs.size (I.hok.fresh (Nat.le_succ _)) (I.hok.fresh (Nat.le_refl _)) (Nat.ne_of_lt (Nat.lt_succ_self _))
 have I2:=Inv.made (C:=C) I
 have r2:Vals (V.ref (s.heap.objs.size+1)::(vs++dvs)) (Value.ref (s.heap.objs.size+1)::(us++ds)):=.cons rfl (r.append hd)
 have hl:(Value.ref (s.heap.objs.size+1)::us++ds).length=ps.length:=by
  have e:=r2.length
  rw[F.len _ _ _ _ hq] at e
  exact e.symm
 refine wpAny_call (Ia (f:=f) I.kIn M.makes M.init (beq_iff_eq.mp M.fn) (codeAny_mono (F.run _ X.stack _ _ ⟨Value.ref (s.heap.objs.size+1)::us,[]⟩ (Value.ref (s.heap.objs.size+1)::(us++ds)) _ _ E (hr.make C us [])
  (I2.env0.make C us []) (hb _ (Value.ref (s.heap.objs.size+1)::us) I2.kIn hl) r2 hq) fun r s' hq'=>?_))
 cases r with
 | error e=>exact hx pins σ _ _ e s' I2 hq'
 | ok fl =>
  cases fl with
  | ret u =>
   obtain⟨v,H',I3,rv,ev,q3⟩:=I2.after hq'
   subst ev
   exact⟨rv,⟨V.ref (s.heap.objs.size+1),H',I3,rfl,q3⟩⟩
  | next=>exact False.elim hq'
  | brk=>exact False.elim hq'
  | cont=>exact False.elim hq'
theorem JH (M:Mk X.K C f) (F:FnOk X.prog X.w X.K X.mg X.base CX k f fd ps sp) (hr:Room (k+1) X.A) (hg:Gl X x) (hm:X.mg x=some (.ref C)) (hb:Binds X.K fd ps ds) (hd:Vals dvs ds) (hx:yb CX X E)
  (ha:PA X (e::es) t) (hdb:(x == ("__debug__":Str))=false:=by decide) (he:starEach (e::es) X.env=(false,eval e X.env)::starEach es X.env:=by rfl) (hpl:(backTo pos (starEach es X.env)).any (·.1)=false:=by rfl) :
  PE X (.Call (.Name x p) (e::es) [] pos) (Fc C sp dvs E t):=by
 intro pins s σ H Q I h
 refine wpAny_Call_Name_kw (zq I hg hm ?_ hdb)
 refine PySem.W.callWith_K (h₀:=X.base) I.ok.mod.kin M.kp (thn (ha pos pins s σ H _ I h) fun us s1 ⟨vs,H1,I1,r,q⟩=>⟨I1.kIn,?_⟩) he hpl
 exact IA M F hr hb hd hx I1 r q
end
section
variable {X:Cx} {CX:CXT} {k:Nat} {f C:Addr} {fd:FuncData} {ps ks:List Str} {sp:Sp} {E:XK} {x m:Str} {p pos apos kpos:Pos} {e o:Expr} {es:List Expr} {kws:List Keyword} {te ta:TE} {t tk:TA} {nm:Option Str}
structure KBinds (K:PySem.W.Frag) (fd:FuncData) (ps ks:List Str) (g:List Value→List Value→List Value) (gV:List V→List V→List V):Prop where
 to:∀ (s:Shared) (us ws:List Value),K.In s.heap→(g us ws).length=ps.length→BindsTo s fd ⟨us,ks.zip ws⟩ (ps.zip (g us ws))
 rel:∀ {vs:List V} {us:List Value} {zs:List V} {ws:List Value},Vals vs us→Vals zs ws→Vals (gV vs zs) (g us ws)
variable {g:List Value→List Value→List Value} {gV:List V→List V→List V}
end
structure FnScope (N P:List Str) (sc:Scope):Prop where
 kind:sc.kind=.function
 co:sc.isCoroutine=false
 gen:sc.isGenerator=false
 nd:N.Nodup
 pre:N.take P.length=P
 par:∀ x∈P,sc.names.lookup x=some .local∨sc.names.lookup x=some .cell
 nofree:∀ y∈sc.names,y.2≠.free
theorem Ba {kindOf:Str→Option NameKind} {x:Str}:∀ {binds:List (Str×Value)} {m:Str→Option Value},(∀ v,(x,v) ∉ binds)→bindL kindOf binds m x=m x
 | [],_,_=>rfl
 | (n,v)::r,m,h=>by
  unfold bindL
  rw[Ba fun w hw=>h w (List.mem_cons_of_mem _ hw)]
  split
  ·have:x≠n:=by rintro rfl; exact h v List.mem_cons_self
   simp [this]
  ·rfl
theorem Bl {kindOf:Str→Option NameKind} {x:Str}:∀ {binds:List (Str×Value)} {m:Str→Option Value},(∀ v,(x,v) ∉ binds)→bindC kindOf binds m x=m x
 | [],_,_=>rfl
 | (n,v)::r,m,h=>by
  unfold bindC
  rw[Bl fun w hw=>h w (List.mem_cons_of_mem _ hw)]
  split
  ·rfl
  ·have:x≠n:=by rintro rfl; exact h v List.mem_cons_self
   simp [this]
theorem Bv {kindOf:Str→Option NameKind} {x:Str} {v:Value}:∀ {P:List Str} {vs:List Value} {i:Nat} {m:Str→Option Value},P.Nodup→P[i]?=some x→vs[i]?=some v→kindOf x=some .local →
  bindL kindOf (P.zip vs) m x=some v
 | [],_,_,_,_,h,_,_=>by simp at h
 | _::_,[],_,_,_,_,h,_=>by simp at h
 | p::P,w::vs,0,m,nd,h1,h2,hk=>by
  simp at h1 h2; subst h1; subst h2
  show bindL kindOf ((p,w)::P.zip vs) m p=_
  unfold bindL
  rw[Ba fun v hv=>(List.nodup_cons.mp nd).1 (List.of_mem_zip hv).1,if_pos hk]
  simp
 | p::P,w::vs,i+1,m,nd,h1,h2,hk=>by
  show bindL kindOf ((p,w)::P.zip vs) m x=_
  unfold bindL
  exact Bv (i:=i) (List.nodup_cons.mp nd).2 (by simpa using h1) (by simpa using h2) hk
theorem BA {kindOf:Str→Option NameKind} {x:Str} {v:Value}:∀ {P:List Str} {vs:List Value} {i:Nat} {m:Str→Option Value},P.Nodup→P[i]?=some x→vs[i]?=some v→kindOf x≠some .local →
  bindC kindOf (P.zip vs) m x=some v
 | [],_,_,_,_,h,_,_=>by simp at h
 | _::_,[],_,_,_,_,h,_=>by simp at h
 | p::P,w::vs,0,m,nd,h1,h2,hk=>by
  simp at h1 h2; subst h1; subst h2
  show bindC kindOf ((p,w)::P.zip vs) m p=_
  unfold bindC
  rw[Bl fun v hv=>(List.nodup_cons.mp nd).1 (List.of_mem_zip hv).1,if_neg hk]
  simp
 | p::P,w::vs,i+1,m,nd,h1,h2,hk=>by
  show bindC kindOf ((p,w)::P.zip vs) m x=_
  unfold bindC
  exact BA (i:=i) (List.nodup_cons.mp nd).2 (by simpa using h1) (by simpa using h2) hk
noncomputable def start (N:List Str) (vs:List V):St:=vs.map some++List.replicate (N.length-vs.length) none
noncomputable def zY (CX:CXT) (P:Program) (w:World) (K:PySem.W.Frag) (mg:Str→Option Value) (base:Heap) (N:List Str) (qual:Str) (scope:Scope) (f:Addr) (cd:Value) (A:Around) (outer:List Env) (s:Shared) (H:Hp) (E:XK):Cx where
 prog:=P
 w:=w
 K:=K
 mg:=mg
 base:=base
 A:=A.deeper (envOfC qual scope s.heap.objs.size f cd)
 N:=N
 s₀:=s
 H₀:=H
 env:=envOfC qual scope s.heap.objs.size f cd
 outer:=outer
 stack:=envOfC qual scope s.heap.objs.size f cd::outer
 ex:=[]
 calm:=true
 fn:=fun _=>true
 pn:=[]
 xe:=fun e s'=>wpAny (model P w) (A.deeper (envOfC qual scope s.heap.objs.size f cd)) (leaving (envOfC qual scope s.heap.objs.size f cd) e) (fun _ s''=>CX outer H s E e s'') (fun e' s''=>CX outer H s E e' s'') s'
theorem CM {sc:Scope} {n:Nat} {x:Str} (h:sc.names.lookup x=some .cell):∃ c,(cellsFrom n sc.names []).lookup x=some c:=by
 have q:=PySem.W.cellsFrom_some sc.names n [] (.inl h)
 exact Option.isSome_iff_exists.mp q
theorem GY {CX:CXT} {P:Program} {w:World} {K:PySem.W.Frag} {mg:Str→Option Value} {base:Heap} {N ps:List Str} {qual:Str} {scope:Scope} {f:Addr} {cd:Value} {A:Around} {outer:List Env} {s s1:Shared} {H:Hp} {E:XK} {us:List Value} {vs:List V}
  (S:FnScope N ps scope) (hd:A.handled=none) (e0:Env0 P w K mg base A outer s H) (hl:vs.length=ps.length) (r:Vals vs us)
  (x:InCallC s s.heap.objs.size (bindL (envOfC qual scope s.heap.objs.size f cd).kindOf (ps.zip us) fun _=>none) (cellsFrom (s.heap.objs.size+1) scope.names []) (bindC (envOfC qual scope s.heap.objs.size f cd).kindOf (ps.zip us) fun _=>none) s1) :
  Inv (zY CX P w K mg base N qual scope f cd A outer s H E) [] (start N vs) H s1:=by
 have hpl:ps.length≤N.length:=by have:=congrArg List.length S.pre; rw[List.length_take] at this; omega
 obtain⟨h1,tk,rfl,hk⟩:=x.done
 have noA:∀ b:Addr,b ∉ (zY CX P w K mg base N qual scope f cd A outer s H E).ex:=fun b z=>absurd (show b∈([]:List Addr) from z) (by simp)
 refine⟨⟨e0.mod,S.kind,rfl,rfl,Nat.le_refl _,fun y z c h1 h2=>?_,fun y hy=>?_,fun y c _ h=>?_,fun _=>hd,Around.frames_deeper e0.frames,.inr ⟨rfl,rfl⟩,fun b z=>absurd z (noA b),e0.bs,e0.bsz,fun b _ _=>noA b,fun b z=>absurd z (noA b),e0.funs,e0.frf⟩,
  rfl,e0.bare,Un.kept hk,⟨_,x.toInCall.ns,fun i y v h1 h2 h3=>?_⟩,fun y c h=>⟨_,x.cell y c h⟩,e0.hok.fresh (Nat.le_refl _),fun y c h=>?_,fun p hp=>absurd (show p∈([]:List (Addr×Obj)) from hp) (by simp),e0.hok.kept hk,?_⟩
 ·exact name_of_addr x.apart (PySem.mem_of_lookup h1) (PySem.mem_of_lookup h2)
 ·have hy:scope.names.lookup y=some .cell∨scope.names.lookup y=some .free:=hy
  rcases hy with hy | hy
  ·exact CM hy
  ·exact absurd rfl (S.nofree _ (PySem.mem_of_lookup hy))
 ·exact Nat.le_of_lt (x.above y c (PySem.mem_of_lookup h))
 ·have hi:i<vs.length:=by
   unfold start at h2
   by_cases hi:i<vs.length
   ·exact hi
   ·rw[List.getElem?_append_right (by simpa using hi)] at h2
    rw[List.getElem?_replicate] at h2
    split at h2 <;> cases h2
  have ha:vs[i]?=some v:=by
   unfold start at h2
   rw[List.getElem?_append_left (by simpa using hi),List.getElem?_map] at h2
   cases e:vs[i]? with
   | none=>rw[e] at h2; cases h2
   | some a=>rw[e] at h2; cases h2; rfl
  obtain⟨u,hu,rv⟩:=r.get ha
  have hp:ps[i]?=some y:=by
   rw[← S.pre,List.getElem?_take_of_lt (by exact Oz11 hl hi)]; exact h1
  have ndP:ps.Nodup:=by rw[← S.pre]; exact S.nd.sublist (List.take_sublist _ _)
  refine⟨u,rv,?_⟩
  rcases S.par y (List.mem_of_getElem? hp) with k | k
  ·exact .inl ⟨k,Bv ndP hp hu k⟩
  ·obtain⟨c,e⟩:=CM (n:=s.heap.objs.size+1) k
   refine .inr ⟨.inl k,c,e,?_⟩
   have q:=x.cell y c e
   rw[BA ndP hp hu (by show scope.names.lookup y≠_; rw[k]; decide)] at q
   exact q
 ·exact e0.hok.fresh (Nat.le_of_lt (x.above y c (PySem.mem_of_lookup h)))
 ·unfold start
  show _=N.length
  rw[List.length_append,List.length_map,List.length_replicate]
  omega
theorem K0 {CX:CXT} {P:Program} {w:World} {K:PySem.W.Frag} {mg:Str→Option Value} {base:Heap} {k:Nat} {f:Addr} {name qual:Str} {params:Arguments} {body:List Stmt} {scope:Scope} {dV kV doc pm cdv ct oc:Value} {an od:Option Addr}
  {osl:Array (Option Value)} {N ps:List Str} {sp:Sp} (lk:K.lookup f=some ⟨oc,od,.func (PySem.W.fnOf name qual params body scope dV kV doc pm an cdv ct),osl⟩) (hcd:PySem.W.codeIn K cdv qual=true) (S:FnScope N ps scope)
  (len:∀ vs H Q E,sp vs H Q E→vs.length=ps.length)
  (hbody:∀ (A:Around) (outer:List Env) (s:Shared) (H:Hp) (vs:List V) (Q:VK) (E:XK),Room k (A.deeper (envOfC qual scope s.heap.objs.size f cdv))→sp vs H Q E →
   ∃ t,PSs (zY CX P w K mg base N qual scope f cdv A outer s H E) body t∧t { nx:=fun _ H'=>Q .non H',rt:=Q } (start N vs) H) :
  FnOk P w K mg base CX (k+1) f (PySem.W.fnOf name qual params body scope dV kV doc pm an cdv ct) ps sp:=by
 refine⟨len,fun A outer s H args us vs Q E hr e0 hb r hsp=>?_⟩
 have hl:=len _ _ _ _ hsp
 have KX:K.In s.heap:=e0.mod.kin.keeps fun b o e=>(e0.bs b o e).1
 have lim:s.heap.NoLimit:=e0.mod.nolimit.keeps fun b o e=>(e0.bs b o e).1
 have hkind:∀ y∈ps.zip us,scope.names.lookup y.1=some .local∨(scope.names.lookup y.1=some .cell∧((cellsFrom (s.heap.objs.size+1) scope.names []).lookup y.1).isSome=true):=fun ⟨n,v⟩ hy=>by
  rcases S.par n (List.of_mem_zip hy).1 with q | q
  ·exact .inl q
  ·exact .inr ⟨q,PySem.W.cellsFrom_some _ _ _ (.inl q)⟩
 refine codeAny_call_function hr.depth (KX _ _ lk) rfl S.co S.gen rfl (PySem.W.codeRec_of KX hcd) (hb _ _ _ _ ?_)
 refine wpAny_newFunctionEnv_cells S.kind hkind fun env he s1 x=>?_
 subst he
 refine⟨lim.keeps x.toInCall.keep,codeAny_func ?_⟩
 obtain⟨t,ht,hq⟩:=hbody A outer s H vs Q E (hr.deeper _) hsp
 have I:Inv (zY CX P w K mg base N qual scope f cdv A outer s H E) [] (start N vs) H s1:=GY S hr.hd e0 hl r x
 refine wpAny_mono (ht [] s1 (start N vs) H _ I hq) (fun fl s' hs=>?_) fun e s' hs=>hs
 have fin:∀ {σ':St} {H':Hp} {v:V} {u:Value},Inv (zY CX P w K mg base N qual scope f cdv A outer s H E) [] σ' H' s'→RelV v u→Q v H'→CE outer P w H s Q u s' :=
  fun {σ' H' v u} J rv q=>⟨v,H',J.os,J.bare,J.base,J.hok,rv,q⟩
 cases fl with
 | ret u =>
  obtain⟨v,σ',H',J,rv,q⟩:=hs
  exact fin J rv q
 | next =>
  obtain⟨σ',H',J,q⟩:=hs
  exact fin (v:=V.non) (u:=Value.none) J rfl q
 | brk =>
  obtain⟨_,_,_,q⟩:=hs
  exact False.elim q
 | cont =>
  obtain⟨_,_,_,q⟩:=hs
  exact False.elim q
section
variable {X:Cx} {x:Str} {p pos:Pos} {e:Expr} {es:List Expr} {t:TA} {id T:String} {r:List V→Hp→VK→Prop}
def tCB (r:List V→Hp→VK→Prop) (t:TA):TE:=fun σ H Q=>t σ H fun vs H1=>r vs H1 Q
theorem ki (hc:vn X (.builtin id) r) (hg:Gl X x) (hm:X.mg x=none) (hv:bootBuiltins x=some (.builtin id)) (ha:PA X (e::es) t) (hn:x≠"__name__":=by decide) (hdb:(x == ("__debug__":Str))=false:=by decide)
  (he:starEach (e::es) X.env=(false,eval e X.env)::starEach es X.env:=by rfl) (hpl:(backTo pos (starEach es X.env)).any (·.1)=false:=by rfl):PE X (.Call (.Name x p) (e::es) [] pos) (tCB r t):=by
 intro pins s σ H Q I h
 refine wpAny_Call_Name_kw (xP I hg hm hv ?_ hn hdb)
 exact PyProof.Rows.callWith_builtin1 (thn (ha pos pins s σ H _ I h) fun us s1 ⟨vs,H1,I1,r1,q1⟩=>hc pins s1 σ H1 vs us Q I1 r1 q1) he hpl
theorem vC (hc:vn X (.type T) r) (hg:Gl X x) (hm:X.mg x=none) (hv:bootBuiltins x=some (.type T)) (ha:PA X (e::es) t) (hn:x≠"__name__":=by decide) (hdb:(x == ("__debug__":Str))=false:=by decide)
  (he:starEach (e::es) X.env=(false,eval e X.env)::starEach es X.env:=by rfl) (hpl:(backTo pos (starEach es X.env)).any (·.1)=false:=by rfl):PE X (.Call (.Name x p) (e::es) [] pos) (tCB r t):=by
 intro pins s σ H Q I h
 refine wpAny_Call_Name_kw (xP I hg hm hv ?_ hn hdb)
 exact PyProof.Rows.callWith_type1 (thn (ha pos pins s σ H _ I h) fun us s1 ⟨vs,H1,I1,r1,q1⟩=>hc pins s1 σ H1 vs us Q I1 r1 q1) he hpl
end
end L2
namespace HT
open PySem PyProof.Rows
section
variable {prog:Program} {w:World} {A:Around} {E:Value→Shared→Prop} {s:Shared}
theorem cat_tup {t b:Addr} {vs ws:List Value} {Q:Value→Shared→Prop} (ht:IsTup s.heap t vs.toArray) (hb:IsTup s.heap b ws.toArray) (hv:vs≠[])
  (h1:ws=[]→Q (.ref t) s) (h2:ws≠[]→Q (.ref s.heap.objs.size) { s with heap:=s.heap.push { cls:=.type "tuple",data:=.seq (vs++ws).toArray } })
  (hsz:vs.length+ws.length≤sizeLine):wpAny (model prog w) A (binaryOp .Add (.ref t) (.ref b)) Q E s:=by
 obtain⟨⟨cls,dd,data,sl⟩,ho,hc,n,hd⟩:=id ht
 obtain⟨⟨cls2,dd2,data2,sl2⟩,ho2,hc2,n2,hd2⟩:=id hb
 simp only at hc hd hc2 hd2
 subst hc hd hc2 hd2
 have e:vs.toArray++ws.toArray=(vs++ws).toArray:=by simp
 by_cases hw:ws=[]
 ·exact concat_meets ⟨_,ho,rfl⟩ ⟨_,ho2,rfl⟩ noFill_tuple_add seq_tuple_add PySem.F.slot_tuple_add PySem.F.entry_tuple_add (PySem.F.args_tuple_add_2 _ _)
   (tuple_addW1 t b vs.toArray ws.toArray n n2 dd dd2 sl sl2 (by simpa using hv) (by simp [hw])) ⟨ho,ho2,h1 hw⟩
 ·refine concat_meets ⟨_,ho,rfl⟩ ⟨_,ho2,rfl⟩ noFill_tuple_add seq_tuple_add PySem.F.slot_tuple_add PySem.F.entry_tuple_add (PySem.F.args_tuple_add_2 _ _)
   (tuple_addW2 t b vs.toArray ws.toArray n n2 dd dd2 sl sl2 (by simpa using hv) (by simpa using hw) (by rw[List.size_toArray,List.size_toArray]; exact hsz)) ⟨ho,ho2,?_⟩
  rw[e]
  exact h2 hw
noncomputable def sIx (n d:Nat):Option Int→Nat
 | none=>d
 | some v=>if v<0 then (v+(n:Int)).toNat else min v.toNat n
theorem sIx_none (n d:Nat):sIx n d none=d:=rfl
theorem sIx_nat (n d k:Nat):sIx n d (some (k:Int))=min k n:=by
 show (if (k:Int)<0 then ((k:Int)+(n:Int)).toNat else min (k:Int).toNat n)=min k n
 rw[if_neg (by omega),Int.toNat_natCast]
theorem J9 (n d:Nat) (hd:d≤n) (o:Option Int):sIx n d o≤n:=by
 cases o with
 | none=>exact hd
 | some v =>
  show (if v<0 then (v+(n:Int)).toNat else min v.toNat n)≤n
  by_cases hv:v<0
  ·rw[if_pos hv]; omega
  ·rw[if_neg hv]; exact Nat.min_le_right _ _
theorem Eg (v:Int) (n d:Nat):(if v<0 then max (v+(n:Int)) 0 else min v (n:Int))=((sIx n d (some v):Nat):Int):=by
 show (if v<0 then max (v+(n:Int)) 0 else min v (n:Int))=(((if v<0 then (v+(n:Int)).toNat else min v.toNat n):Nat):Int)
 by_cases hv:v<0
 ·simp only [if_pos hv]; omega
 ·simp only [if_neg hv]; omega
theorem Fp (lo hi:Option Int) (n:Nat):Builtin.Slice.sliceAdjust lo hi 1 (n:Int)=(((sIx n 0 lo:Nat):Int),((sIx n n hi:Nat):Int)):=by
 have h1:¬ ((1:Int)<0):=by omega
 unfold Builtin.Slice.sliceAdjust
 simp only [h1,if_false]
 refine Prod.ext ?_ ?_
 ·cases lo with
  | none=>rfl
  | some v=>exact Eg v n 0
 ·cases hi with
  | none=>rfl
  | some v=>exact Eg v n n
theorem EI (i j:Nat):Builtin.Slice.slicePlaces (i:Int) (j:Int) 1=j-i:=by
 unfold Builtin.Slice.slicePlaces
 have h1:(1:Int) > 0:=by omega
 simp only [h1,if_true,Int.ediv_one]
 split <;> omega
theorem Af {v:Value} {o:Option Int} {Q:Option Int→Shared→Prop} (p:IsPart v o) (h:Q o s):wpAny (model prog w) A (Builtin.Slice.slicePartIndex v) Q E s:=by
 cases p with
 | none=>exact slicePart_none h
 | int i t=>exact slicePart_int h
theorem xJ {sl:Addr} {vl vu:Value} {lo hi:Option Int} {n:Nat} {Q:Int×Int×Nat→Shared→Prop} (hs:s.heap.IsSliceOf sl vl vu .none) (pl:IsPart vl lo) (pu:IsPart vu hi)
  (h:Q (((sIx n 0 lo:Nat):Int),1,sIx n n hi-sIx n 0 lo) s):wpAny (model prog w) A (Builtin.Slice.sliceApplied (.ref sl) (pure (n:Int))) Q E s:=by
 obtain⟨os,hos,hcs,hds⟩:=id hs
 unfold Builtin.Slice.sliceApplied Builtin.Slice.sliceFields
 refine wpAny_bind (wpAny_bind (wpAny_field hos hds (x:=vl) rfl (wpAny_bind (wpAny_field hos hds (x:=vu) rfl (wpAny_bind (wpAny_field hos hds (x:=.none) rfl (wpAny_pure ?_)))))))
 refine wpAny_bind (slicePart_none ?_)
 show wpAny _ _ (if ((1:Int) == 0)=true then _ else _) _ _ s
 rw[if_neg (by decide)]
 refine wpAny_bind (Af pl (wpAny_bind (Af pu (wpAny_bind (wpAny_pure ?_)))))
 show wpAny _ _ (match Builtin.Slice.sliceAdjust lo hi 1 (n:Int) with | (lo,hi)=>pure (lo,(1:Int),Builtin.Slice.slicePlaces lo hi 1)) _ _ s
 rw[Fp lo hi n]
 show wpAny _ _ (pure (((sIx n 0 lo:Nat):Int),(1:Int),Builtin.Slice.slicePlaces ((sIx n 0 lo:Nat):Int) ((sIx n n hi:Nat):Int) 1)) _ _ s
 rw[EI]
 exact wpAny_pure h
theorem HB (xs:Array Value) (i k:Nat):((List.range k).filterMap fun (m:Nat)=>xs[((i:Int)+(m:Int) * 1).toNat]?).toArray=((xs.toList.drop i).take k).toArray:=by
 have e:(fun (m:Nat)=>xs[((i:Int)+(m:Int) * 1).toNat]?)=fun m=>xs[i+m]?:=by
  funext m
  have:((i:Int)+(m:Int) * 1).toNat=i+m:=by omega
  rw[this]
 rw[e]
 have:=pick_run xs i k
 rw[List.filterMap_map] at this
 have e2:((fun x=>xs[x]?) ∘ fun x=>i+x)=fun m=>xs[i+m]?:=rfl
 rw[e2] at this
 rw[this]
theorem getItem_tuple_cut {t sl:Addr} {items:Array Value} {vl vu:Value} {lo hi:Option Int} {Q:Value→Shared→Prop} (ht:IsTup s.heap t items) (hs:s.heap.IsSliceOf sl vl vu .none) (pl:IsPart vl lo) (pu:IsPart vu hi)
  (hw:¬ (sIx items.size 0 lo=0∧sIx items.size items.size hi=items.size))
  (h:Q (.ref s.heap.objs.size) { s with heap:=s.heap.push { cls:=.type "tuple",data:=.seq ((items.toList.drop (sIx items.size 0 lo)).take (sIx items.size items.size hi-sIx items.size 0 lo)).toArray } })
  (hsz:items.size≤sizeLine):wpAny (model prog w) A (getItem (.ref t) (.ref sl)) Q E s:=by
 have htake:sizeOk (.seq ((items.toList.drop (sIx items.size 0 lo)).take (sIx items.size items.size hi-sIx items.size 0 lo)).toArray):=by
  show ((items.toList.drop (sIx items.size 0 lo)).take (sIx items.size items.size hi-sIx items.size 0 lo)).toArray.size≤sizeLine
  rw[List.size_toArray,List.length_take,List.length_drop,Array.length_toList]
  omega
 have hj:sIx items.size items.size hi≤items.size:=J9 _ _ (Nat.le_refl _) hi
 obtain⟨os,hos,hcs,hds⟩:=id hs
 have hTs:s.TypeIs (.ref sl) "slice":=⟨os,hos,hcs⟩
 unfold getItem
 try with_reducible refine wpAny_holding ?_
 first | refine wpAny_bind (wpAny_pure ?_) | skip
 refine wpAny_bind (wpAny_sequenceKey ht.typeIs (by decide) ?_)
 refine wpAny_bind (wpAny_callSpecial?_slot (name:=Str.ofString "__getitem__") ht.typeIs PyProof.Rows.slot_tuple_getitem
  (wpAny_call_entry PyProof.Rows.slot_tuple_getitem ht.typeIs entry_tuple_getitem ?_ (args_tuple_getitem _ _)))
 show wpAny _ _ (Builtin.Tuple.tupleItemsOf (.ref t) >>= _) _ _ s
 refine wpAny_bind (tupleItemsOf_ ht ?_)
 refine wpAny_bind (wpAny_typeOf hTs ?_)
 rw[if_pos (by decide)]
 refine wpAny_bind (xJ hs pl pu ?_)
 have hno:¬ ((((sIx items.size 0 lo:Nat):Int) == 0 && (1:Int) == 1 && (sIx items.size items.size hi-sIx items.size 0 lo) == items.size)=true):=by
  intro q
  rw[Bool.and_eq_true,Bool.and_eq_true] at q
  have q1:((sIx items.size 0 lo:Nat):Int)=0:=eq_of_beq q.1.1
  have q2:sIx items.size items.size hi-sIx items.size 0 lo=items.size:=eq_of_beq q.2
  exact hw ⟨by omega,by omega⟩
 show wpAny _ _ (if (((sIx items.size 0 lo:Nat):Int) == 0 && (1:Int) == 1 && (sIx items.size items.size hi-sIx items.size 0 lo) == items.size)=true then _ else _) _ _ s
 rw[if_neg hno,HB]
 first
  | exact wpAny_bind (m:=Builtin.Tuple.tupleExact _) (wpAny_newObj_type (wpAny_pure ⟨_,rfl,wpAny_pure h⟩) htake)
  | exact wpAny_bind (m:=Builtin.Tuple.tupleExact _) (wpAny_newObj_type (wpAny_bind (wpAny_pure (wpAny_pure ⟨_,rfl,wpAny_pure h⟩))) htake)
  | exact wpAny_bind (wpAny_bind (m:=Builtin.Tuple.tupleExact _) (wpAny_newObj_type (wpAny_pure (wpAny_pure ⟨_,rfl,wpAny_pure h⟩)) htake))
  | exact wpAny_bind (wpAny_bind (m:=Builtin.Tuple.tupleExact _) (wpAny_newObj_type (wpAny_pure ⟨_,rfl,wpAny_pure h⟩) htake))
end
end HT
namespace L2
open PySem PySem.Spec PyProof.Rows
abbrev TO:=St→Hp→(Option Int→Hp→Prop)→Prop
def PO (X:Cx) (e:Option Expr) (t:TO):Prop :=
 ∀ (pins:List (Addr×Obj)) (s:Shared) (σ:St) (H:Hp) (Q:Option Int→Hp→Prop),Inv X pins σ H s→t σ H Q →
  wpAny (model X.prog X.w) X.A (evalPart e X.env) (fun u s'=>∃ o H',Inv X pins σ H' s'∧IsPart u o∧Q o H') X.xe s
def Eo:TO:=fun _ H Q=>Q none H
def IT (t:TE):TO:=fun σ H Q=>t σ H fun x H1=>∃ i,x=.int i∧Q (some i) H1
section
variable {X:Cx} {e:Expr} {te:TE} {lo hi:Option Expr} {tl th:TO} {pos p2:Pos}
theorem xH:PO X none Eo:=by
 intro pins s σ H Q I h
 rw[evalPart_none]
 exact wpAny_pure ⟨none,H,I,.none,h⟩
theorem xC (h:PE X e te):PO X (some e) (IT te):=by
 intro pins s σ H Q I hw
 rw[evalPart_some]
 refine thn (h pins s σ H _ I hw) fun u s1 ⟨x,H1,I1,r1,q1⟩=>?_
 obtain⟨i,rfl,q⟩:=q1
 obtain⟨t,rfl⟩:=r1
 exact⟨some i,H1,I1,.int i t,q⟩
def SlR (X:Cx) (r:V→Option Int→Option Int→Hp→VK→Prop):Prop :=
 ∀ (pins:List (Addr×Obj)) (s:Shared) (σ:St) (H:Hp) (x:V) (v vl vu:Value) (lo hi:Option Int) (sl:Addr) (Q:VK),Inv X pins σ H s→RelV x v→s.heap.IsSliceOf sl vl vu .none→IsPart vl lo→IsPart vu hi→r x lo hi H Q →
  ∃ T id,typeLookup (.type T) "__getitem__"=pure (some (.builtin id))∧s.TypeIs v T∧wpAny (model X.prog X.w) X.A (getItem v (.ref sl)) (EP X pins σ Q) X.xe s
def tSl (r:V→Option Int→Option Int→Hp→VK→Prop) (te:TE) (tl th:TO):TE:=fun σ H Q=>te σ H fun x H1=>tl σ H1 fun l H2=>th σ H2 fun u H3=>r x l u H3 Q
theorem wM {r:V→Option Int→Option Int→Hp→VK→Prop} (hr:SlR X r) (he:PE X e te) (hl:PO X lo tl) (hu:PO X hi th):PE X (.Subscript e (.Slice lo hi none p2) pos) (tSl r te tl th):=by
 intro pins s σ H Q I h
 refine Subscript_ (thn (he pins s σ H _ I h) fun v s1 ⟨x,H1,I1,r1,q1⟩=>?_)
 refine wpAny_Slice (thn (hl pins s1 σ H1 _ I1 q1) fun vl s2 ⟨l,H2,I2,pl,q2⟩=>thn (hu pins s2 σ H2 _ I2 q2) fun vu s3 ⟨u,H3,I3,pu,q3⟩=>?_)
 rw[evalPart_none]
 refine wpAny_pure ?_
 have I4:Inv X pins σ H3 { s3 with heap:=s3.heap.push { cls:=.type "slice",data:=.fields #[vl,vu,.none] } }:=I3.kept (t':=s3.toks) fun b ob q=>Heap.get?_push_of_some _ q
 obtain⟨T,id,hT,ht,hg⟩:=hr pins { s3 with heap:=s3.heap.push { cls:=.type "slice",data:=.fields #[vl,vu,.none] } } σ H3 x v vl vu l u s3.heap.objs.size Q I4 r1 (Heap.IsSliceOf.new ..) pl pu q3
 show wpAny (model X.prog X.w) X.A (subscriptTail e (.Slice lo hi none p2) v (.ref s3.heap.objs.size)) (EP X pins σ Q) X.xe { s3 with heap:=s3.heap.push { cls:=.type "slice",data:=.fields #[vl,vu,.none] } }
 exact tail_any (ops:=[.ref s3.heap.objs.size,v]) ht hT hg (by with_unfolding_all rfl)
noncomputable def vo (xs:List V) (lo hi:Option Int):List V:=(xs.drop (HT.sIx xs.length 0 lo)).take (HT.sIx xs.length xs.length hi-HT.sIx xs.length 0 lo)
theorem zG (xs:List V) (lo hi:Option Int):(vo xs lo hi).length≤xs.length:=by
 unfold vo
 rw[List.length_take,List.length_drop]
 omega
def K7 (K:PySem.W.Frag):V→Option Int→Option Int→Hp→VK→Prop:=fun x lo hi H Q=>∃ a xs,x=.ref a∧SqT K H a xs ∧
 ¬ (HT.sIx xs.length 0 lo=0∧HT.sIx xs.length xs.length hi=xs.length)∧∀ p,H p=none→Q (.ref p) (upd H p (.tup (vo xs lo hi)))
theorem Kr:SlR X (K7 X.K):=by
 intro pins s σ H x v vl vu lo hi sl Q I rx hs pl pu h
 obtain⟨a,xs,rfl,hx,hw,q⟩:=h
 cases rx
 obtain⟨its,r,ht,hz⟩:=I.tuple hx
 have hlen:its.toArray.size=xs.length:=by rw[List.size_toArray]; exact r.length.symm
 refine⟨"tuple",_,PyProof.Rows.slot_tuple_getitem.lookup,ht.typeIs,?_⟩
 refine HT.getItem_tuple_cut ht hs pl pu (by rw[hlen]; exact hw) ?_ (by rw[hlen]; exact hz)
 rw[hlen]
 refine⟨.ref s.heap.objs.size,_,I.laid (t':=s.toks) (o:=.tup (vo xs lo hi)) (fun b ob q=>Heap.get?_push_of_some _ q) (Nat.le_refl _) ?_,rfl,q _ (I.hok.fresh (Nat.le_refl _))⟩
 exact⟨Nat.le_trans (zG xs lo hi) hz,_,(r.drop (HT.sIx xs.length 0 lo)).take (HT.sIx xs.length xs.length hi-HT.sIx xs.length 0 lo),IsTup.new _ _,_,Heap.get?_push_size _ rfl,rfl⟩
def KY (K:PySem.W.Frag):R2:=fun x y H Q=>∃ a b xs ys,x=.ref a∧y=.ref b∧SqT K H a xs∧SqT K H b ys∧xs≠[]∧xs.length+ys.length≤sizeLine ∧
 (ys=[]→Q (.ref a) H)∧(ys≠[]→∀ p,H p=none→Q (.ref p) (upd H p (.tup (xs++ys))))
theorem Vals.nil_iff {xs:List V} {us:List Value} (r:Vals xs us):us=[]↔xs=[]:=by
 cases r with
 | nil=>simp
 | cons _ _=>simp
theorem Ej:OpR X (binaryOp .Add) (KY X.K):=by
 intro pins s σ H x y v u Q I rx ry h
 obtain⟨a,b,xs,ys,rfl,rfl,ha,hb,hx,hz,q1,q2⟩:=h
 cases rx
 cases ry
 obtain⟨its,r1,p1,_⟩:=I.tuple ha
 obtain⟨its2,r2,p2,_⟩:=I.tuple hb
 refine HT.cat_tup p1 p2 (fun z=>hx (r1.nil_iff.mp z)) (fun z=>⟨.ref a,H,I,rfl,q1 (r2.nil_iff.mp z)⟩) (fun z=>?_) (by rw[← r1.length,← r2.length]; exact hz)
 refine⟨.ref s.heap.objs.size,_,I.laid (t':=s.toks) (o:=.tup (xs++ys)) (fun b ob q=>Heap.get?_push_of_some _ q) (Nat.le_refl _) ?_,rfl,q2 (fun w=>z (r2.nil_iff.mpr w)) _ (I.hok.fresh (Nat.le_refl _))⟩
 exact⟨by rw[List.length_append]; exact hz,_,r1.append r2,IsTup.new _ _,_,Heap.get?_push_size _ rfl,rfl⟩
end
noncomputable def ixN (n:Nat) (i:Int):Option Nat:=if 0≤i then (if i<n then some i.toNat else none) else if -(n:Int)≤i then some (i+n).toNat else none
noncomputable def atI {α:Type} (xs:List α) (i:Int):Option α:=(ixN xs.length i).bind fun j=>xs[j]?
theorem Eu {n:Nat} {i:Int} {j:Nat} (h:ixN n i=some j):seqIndex? i n=some j∧j<n∧-(n:Int)≤i∧i<n:=by
 unfold ixN at h
 by_cases h0:0≤i
 ·rw[if_pos h0] at h
  by_cases h1:i<n
  ·rw[if_pos h1] at h
   have e:i.toNat=j:=Option.some.inj h
   exact⟨by rw[seqIndex_of h0 h1,e],by omega,by omega,h1⟩
  ·rw[if_neg h1] at h; cases h
 ·rw[if_neg h0] at h
  by_cases h1:-(n:Int)≤i
  ·rw[if_pos h1] at h
   have e:(i+n).toNat=j:=Option.some.inj h
   exact⟨by rw[seqIndex_neg (by exact Oz39 h0) h1,e],by omega,h1,by omega⟩
  ·rw[if_neg h1] at h; cases h
theorem AH {α:Type} {xs:List α} {i:Int} {v:α} (h:atI xs i=some v):∃ j,seqIndex? i xs.length=some j∧xs[j]?=some v∧j<xs.length∧-(xs.length:Int)≤i∧i<xs.length:=by
 unfold atI at h
 cases e:ixN xs.length i with
 | none=>rw[e] at h; cases h
 | some j =>
  rw[e] at h
  obtain⟨h1,h2,h3,h4⟩:=Eu e
  exact⟨j,h1,h,h2,h3,h4⟩
theorem um {α:Type} {xs:List α} {j:Nat} {v:α} (h:xs[j]?=some v):atI xs (j:Int)=some v:=by
 have hj:j<xs.length:=(List.getElem?_eq_some_iff.mp h).1
 have e:ixN xs.length (j:Int)=some j:=by
  unfold ixN
  rw[if_pos (by exact Oz30),if_pos (by exact Oz38 hj)]; simp
 unfold atI; rw[e]; exact h
def Es (b:Expr):Prop:=∀ o i,subscripted b false o i=operate [o,i] (getItem o i)
def IxR (X:Cx) (r:R2):Prop :=
 ∀ (value slice:Expr) (pins:List (Addr×Obj)) (s:Shared) (σ:St) (H:Hp) (x y:V) (v u:Value) (Q:VK),Inv X pins σ H s→RelV x v→RelV y u→r x y H Q →
  subscripted slice false v u=operate [v,u] (getItem v u)→wpAny (model X.prog X.w) X.A (subscriptTail value slice v u) (EP X pins σ Q) X.xe s
def MtR (X:Cx) (id:String) (r:V→List V→Hp→VK→Prop):Prop :=
 ∀ (pins:List (Addr×Obj)) (s:Shared) (σ:St) (H:Hp) (x:V) (xs:List V) (v:Value) (us:List Value) (Q:VK),Inv X pins σ H s→RelV x v→Vals xs us→r x xs H Q →
  wpAny (model X.prog X.w) X.A (call (.builtin id) (v::us)) (EP X pins σ Q) X.xe s
section
variable {X:Cx} {a b:Expr} {ta tb:TE} {pos:Pos}
theorem IxR.or {r r':R2} (h:IxR X r) (h':IxR X r'):IxR X (fun x y H Q=>r x y H Q∨r' x y H Q):=by
 intro value slice pins s σ H x y v u Q I rx ry q hs
 rcases q with q | q
 ·exact h value slice pins s σ H x y v u Q I rx ry q hs
 ·exact h' value slice pins s σ H x y v u Q I rx ry q hs
theorem kZ {r:R2} (hr:IxR X r) (ha:PE X a ta) (hb:PE X b tb) (hs:Es b):PE X (.Subscript a b pos) (tOp r ta tb):=by
 intro pins s σ H Q I h
 exact Subscript_ (Iv ha hb I h fun v u s2 x y H2 I2 rx ry q=>hr a b pins s2 σ H2 x y v u Q I2 rx ry q (hs _ _))
def FE (K:PySem.W.Frag):R2:=fun x y H Q=>∃ p xs i v,x=.ref p∧y=.int i∧SqL K H p xs∧atI xs i=some v∧Q v H
def FJ (K:PySem.W.Frag):R2:=fun x y H Q=>∃ p xs i v,x=.ref p∧y=.int i∧SqT K H p xs∧atI xs i=some v∧Q v H
def Iw:R2:=fun x y H Q=>∃ z i c,x=.str z∧y=.int i∧z.length≤sizeLine∧atI z.cps.toList i=some c∧Q (.str ⟨#[c]⟩) H
theorem ix_list:IxR X (FE X.K):=by
 intro value slice pins s σ H x y v u Q I rx ry h hs
 obtain⟨p,xs,i,z,rfl,rfl,hq,he,q⟩:=h
 cases rx
 obtain⟨t,rfl⟩:=ry
 obtain⟨its,r,pl,hz⟩:=I.list hq
 obtain⟨j,h1,h2,h3,h4,h5⟩:=AH he
 obtain⟨w,ew,rw'⟩:=r.get h2
 have hl:=r.length
 have hn:=xK
 have fin:EP X pins σ Q w s:=⟨z,H,I,rw',q⟩
 by_cases h0:0≤i
 ·have hj:i.toNat=j:=by
   rw[seqIndex_of h0 h5] at h1
   exact Option.some.inj h1
  exact item_listR pl.isList h0 (by exact Oz34 hz h5 hn) (by rw[hj]; simpa using ew) fin hs
 ·have hj:(i+(its.toArray.size:Int)).toNat=j:=by
   rw[seqIndex_neg (by exact Oz39 h0) h4] at h1
   rw[List.size_toArray,← hl]
   exact Option.some.inj h1
  exact subscriptTail_builtinR (x:=w) pl.isList.typeIs slot_list_getitem.lookup
   (wpAny_getItem_list_neg (Q:=fun r s'=>r=w∧EP X pins σ Q r s') pl.isList (by exact Oz39 h0) (by rw[List.size_toArray] <;> omega) (by exact Oz36 hz h4 hn) (by rw[hj]; simpa using ew) ⟨rfl,fin⟩) hs
theorem ix_tup:IxR X (FJ X.K):=by
 intro value slice pins s σ H x y v u Q I rx ry h hs
 obtain⟨p,xs,i,z,rfl,rfl,hq,he,q⟩:=h
 cases rx
 obtain⟨t,rfl⟩:=ry
 obtain⟨its,r,pl,hz⟩:=I.tuple hq
 obtain⟨j,h1,h2,h3,h4,h5⟩:=AH he
 obtain⟨w,ew,rw'⟩:=r.get h2
 have hl:=r.length
 have hn:=xK
 have fin:EP X pins σ Q w s:=⟨z,H,I,rw',q⟩
 exact subscriptTail_builtinR (x:=w) pl.typeIs slot_tuple_getitem.lookup
  (getItem_tuple (j:=j) (Q:=fun r s'=>r=w∧EP X pins σ Q r s') pl (by exact Oz36 hz h4 hn) (by exact Oz34 hz h5 hn) (by rw[List.size_toArray,← hl]; exact h1) (by simpa using ew) ⟨rfl,fin⟩) hs
theorem Gr:IxR X Iw:=by
 intro value slice pins s σ H x y v u Q I rx ry h hs
 obtain⟨z,i,c,rfl,rfl,hz,he,q⟩:=h
 obtain⟨t,rfl⟩:=rx
 obtain⟨t',rfl⟩:=ry
 obtain⟨j,h1,h2,h3,h4,h5⟩:=AH he
 have hl:z.cps.toList.length=z.length:=by simp [Str.length]
 rw[hl] at h1 h4 h5
 have hn:=xK
 exact tail_any (typeIs_str s z t) slot_str_getitem.lookup (getItem_str (c:=c) (by
  have e1:decide (i < -(2 ^ 63:Int))=false:=decide_eq_false (by omega)
  have e2:decide (i ≥ 2 ^ 63)=false:=decide_eq_false (by omega)
  rw[e1,e2,Bool.or_false]) (by rw[h1]; simpa using h2) ⟨.str ⟨#[c]⟩,H,I.tok _,⟨_,rfl⟩,q⟩) hs
def rIx (K:PySem.W.Frag):R2:=fun x y H Q=>FE K x y H Q∨FJ K x y H Q∨Iw x y H Q
theorem Kh:IxR X (rIx X.K):=ix_list.or (ix_tup.or Gr)
theorem ET (its:List Value) (n j:Nat) (u:Value):Obj.mapSeq (·.setIfInBounds j u) { cls:=.type "list",data:=.seq its.toArray n }={ cls:=.type "list",data:=.seq (its.set j u).toArray n }:=by
 simp [Obj.mapSeq]
theorem Inv.lst {pins:List (Addr×Obj)} {σ:St} {H:Hp} {s:Shared} {p:Addr} {xs:List V} (I:Inv X pins σ H s) (h:H p=some (.lst xs)) :
  ∃ (its:List Value) (n:Nat),Vals xs its∧s.heap.get? p=some { cls:=.type "list",data:=.seq its.toArray n }∧xs.length≤sizeLine:=by
 obtain⟨z,its,n,r,e⟩:=I.hok p _ h
 exact⟨its,n,r,e,z⟩
theorem Inv.lstUpd {pins:List (Addr×Obj)} {σ:St} {H:Hp} {s:Shared} {p:Addr} {xs ys:List V} {its its':List Value} {n n':Nat} {f:Obj→Obj} (I:Inv X pins σ H s) (h:H p=some (.lst xs))
  (ho:s.heap.get? p=some { cls:=.type "list",data:=.seq its.toArray n }) (hf:f { cls:=.type "list",data:=.seq its.toArray n }={ cls:=.type "list",data:=.seq its'.toArray n' }) (r:Vals ys its') (hz:ys.length≤sizeLine) (t:Nat) :
  Inv X pins σ (upd H p (.lst ys)) { s with heap:=s.heap.update p f,toks:=t }:=by
 have e:(s.heap.update p f).get? p=some { cls:=.type "list",data:=.seq its'.toArray n' }:=by
  rw[Heap.get?_update_self f ho (by rw[hf] <;> rfl),hf]
 refine I.write (x:=p) (e:=p) (by rw[h]; trivial) (.inl rfl) (fun b u hb q=>(Heap.get?_update_other _ _ (Ne.symm hb)).trans q) ⟨_,e⟩ ?_
 exact⟨hz,its',n',r,e⟩
def IW:V→V→V→Hp→(Hp→Prop)→Prop:=fun o i v H Q=>∃ p xs k j,o=.ref p∧i=.int k∧H p=some (.lst xs)∧ixN xs.length k=some j∧Q (upd H p (.lst (xs.set j v)))
theorem set_list:KC X IW:=by
 intro pins s σ H o i v ov iv u Q I ro ri rv h
 obtain⟨p,xs,k,j,rfl,rfl,hp,hj,q⟩:=h
 cases ro
 obtain⟨t,rfl⟩:=ri
 obtain⟨its,n,r,ho,hz⟩:=I.lst hp
 obtain⟨h1,h2,h3,h4⟩:=Eu hj
 have hl:=r.length
 have hn:=xK
 have I':Inv X pins σ (upd H p (.lst (xs.set j v))) { s with heap:=s.heap.update p (Obj.mapSeq (·.setIfInBounds j u)) } :=
  I.lstUpd hp ho (ET its n j u) (r.set rv j) (by rw[List.length_set]; exact hz) s.toks
 by_cases h0:0≤k
 ·have hk:k.toNat=j:=by
   rw[seqIndex_of h0 h4] at h1
   exact Option.some.inj h1
  exact PySem.W.ki_setAt ho h0 (by exact Oz34 hz h4 hn) (by rw[List.size_toArray,← hl]; exact h4) (by rw[hk]; exact⟨_,I',q⟩)
 ·have hk:(k+(its.toArray.size:Int)).toNat=j:=by
   rw[seqIndex_neg (by exact Oz39 h0) h3] at h1
   rw[List.size_toArray,← hl]
   exact Option.some.inj h1
  exact PySem.W.ki_setBack ho (by exact Oz39 h0) (by rw[List.size_toArray,← hl]; exact h3) (by exact Oz36 hz h3 hn) (by rw[hk]; exact⟨_,I',q⟩)
theorem Cj (lo hi:Option Int) (n:Nat):(sliceBounds lo hi none n).1=((HT.sIx n 0 lo:Nat):Int)∧(sliceBounds lo hi none n).2.1=((HT.sIx n n hi:Nat):Int)∧(sliceBounds lo hi none n).2.2=1:=by
 refine⟨?_,?_,rfl⟩
 ·cases lo with
  | none=>simp [sliceBounds,HT.sIx]
  | some i =>
   simp only [sliceBounds,HT.sIx,Option.getD_none,show (1:Int) > 0 by decide,if_true]
   by_cases h:i<0
   ·simp only [h,if_true] <;> exact Oz27 h
   ·simp only [h,if_false] <;> omega
 ·cases hi with
  | none=>simp [sliceBounds,HT.sIx]
  | some i =>
   simp only [sliceBounds,HT.sIx,Option.getD_none,show (1:Int) > 0 by decide,if_true]
   by_cases h:i<0
   ·simp only [h,if_true] <;> exact Oz27 h
   ·simp only [h,if_false] <;> omega
theorem BG (its:List Value) (lo hi:Option Int):slicePick its.toArray lo hi none=((its.drop (HT.sIx its.length 0 lo)).take (HT.sIx its.length its.length hi-HT.sIx its.length 0 lo)).toArray:=by
 obtain⟨h1,h2,h3⟩:=Cj lo hi its.toArray.size
 unfold slicePick
 rw[h1,h2,h3]
 simp only [sliceRange_one,pick_run,List.size_toArray] <;> rfl
def J7 (K:PySem.W.Frag):V→Option Int→Option Int→Hp→VK→Prop:=fun x lo hi H Q=>∃ a xs,x=.ref a∧SqL K H a xs∧∀ p,H p=none→Q (.ref p) (upd H p (.lst (vo xs lo hi)))
theorem AO:SlR X (J7 X.K):=by
 intro pins s σ H x v vl vu lo hi sl Q I rx hs pl pu h
 obtain⟨a,xs,rfl,hx,q⟩:=h
 cases rx
 obtain⟨its,r,ht,hz⟩:=I.list hx
 have hlen:=r.length
 refine⟨"list",_,slot_list_getitem.lookup,ht.isList.typeIs,?_⟩
 refine wpAny_getItem_list_slice ht.isList hs pl pu .none (by simp) ?_ (by rw[List.size_toArray] <;> exact Oz12 hz hlen)
 rw[BG,← hlen]
 refine⟨.ref s.heap.objs.size,_,I.laid (t':=s.toks) (o:=.lst (vo xs lo hi)) (fun b ob q=>Heap.get?_push_of_some _ q) (Nat.le_refl _) ?_,rfl,q _ (I.hok.fresh (Nat.le_refl _))⟩
 exact⟨Nat.le_trans (zG xs lo hi) hz,_,0,(r.drop (HT.sIx xs.length 0 lo)).take (HT.sIx xs.length xs.length hi-HT.sIx xs.length 0 lo),Heap.get?_push_size _ rfl⟩
noncomputable def xR:V→Bool
 | .non=>true
 | .bl _=>true
 | .int _=>true
 | .str _=>true
 | _=>false
noncomputable def eqV:V→V→Bool
 | .non,.non=>true
 | .bl a,.bl b=>a == b
 | .bl a,.int b=>(if a then 1 else 0) == b
 | .int a,.bl b=>a == (if b then 1 else 0)
 | .int a,.int b=>a == b
 | .str a,.str b=>a == b
 | _,_=>false
theorem Ke {A:Around} {s:Shared} {y x:V} {u v:Value} (ry:RelV y u) (rx:RelV x v) (fy:xR y=true) (fx:xR x=true):SeqAt.EqAt A s u v (eqV y x):=by
 cases y with
 | non =>
  cases ry
  cases x with
  | non=>cases rx; exact SeqAt.EqAt.same _
  | bl b=>cases rx; exact SeqAt.EqAt.none_bool b
  | int b=>obtain⟨t,rfl⟩:=rx; exact SeqAt.EqAt.none_int b t
  | str b=>obtain⟨t,rfl⟩:=rx; exact SeqAt.EqAt.none_str b t
  | _=>exact absurd (show false=true from fx) Bool.false_ne_true
 | bl a =>
  cases ry
  cases x with
  | non=>cases rx; exact SeqAt.EqAt.bool_none a
  | bl b=>cases rx; exact SeqAt.EqAt.bool_bool a b
  | int b=>obtain⟨t,rfl⟩:=rx; exact SeqAt.EqAt.bool_int a b t
  | str b=>obtain⟨t,rfl⟩:=rx; exact SeqAt.EqAt.bool_str a b t
  | _=>exact absurd (show false=true from fx) Bool.false_ne_true
 | int a =>
  obtain⟨t',rfl⟩:=ry
  cases x with
  | non=>cases rx; exact SeqAt.EqAt.int_none a t'
  | bl b=>cases rx; exact SeqAt.EqAt.int_bool a t' b
  | int b=>obtain⟨t,rfl⟩:=rx; exact SeqAt.EqAt.int_int a t' b t
  | str b=>obtain⟨t,rfl⟩:=rx; exact SeqAt.EqAt.int_str a t' b t
  | _=>exact absurd (show false=true from fx) Bool.false_ne_true
 | str a =>
  obtain⟨t',rfl⟩:=ry
  cases x with
  | non=>cases rx; exact SeqAt.EqAt.str_none a t'
  | bl b=>cases rx; exact SeqAt.EqAt.str_bool a t' b
  | int b=>obtain⟨t,rfl⟩:=rx; exact SeqAt.EqAt.str_int a t' b t
  | str b=>obtain⟨t,rfl⟩:=rx; exact SeqAt.EqAt.str_str a t' b t
  | _=>exact absurd (show false=true from fx) Bool.false_ne_true
 | _=>exact absurd (show false=true from fy) Bool.false_ne_true
noncomputable def eqU (x:V) (u:Value):Bool:=match u with
 | .none=>eqV .non x
 | .bool b=>eqV (.bl b) x
 | .int i _=>eqV (.int i) x
 | .str z _=>eqV (.str z) x
 | _=>false
theorem GI {x y:V} {u:Value} (r:RelV y u) (f:xR y=true):eqU x u=eqV y x:=by
 cases y with
 | non=>cases r; rfl
 | bl b=>cases r; rfl
 | int i=>obtain⟨t,rfl⟩:=r; rfl
 | str z=>obtain⟨t,rfl⟩:=r; rfl
 | _=>exact absurd (show false=true from f) Bool.false_ne_true
theorem AI {x:V}:∀ {xs:List V} {us:List Value},Vals xs us→xs.all xR=true→us.any (eqU x)=xs.any fun y=>eqV y x
 | _,_,.nil,_=>rfl
 | y::xs,u::us,.cons r t,f=>by
  rw[List.all_cons,Bool.and_eq_true] at f
  rw[List.any_cons,List.any_cons,GI r f.1,AI t f.2]
theorem zT {A:Around} {s:Shared} {x:V} {v:Value} (rx:RelV x v) (fx:xR x=true):∀ {xs:List V} {us:List Value},Vals xs us→xs.all xR=true→∀ u∈us,SeqAt.EqAt A s u v (eqU x u)
 | _,_,.nil,_=>fun u hu=>by cases hu
 | y::xs,u::us,.cons r t,f=>fun u' hu=>by
  rw[List.all_cons,Bool.and_eq_true] at f
  rcases List.mem_cons.mp hu with rfl | hu
  ·rw[GI r f.1]; exact Ke r rx f.1 fx
  ·exact zT rx fx t f.2 u' hu
noncomputable def inV (x:V) (xs:List V):Bool:=xs.any fun y=>eqV y x
def rIn (K:PySem.W.Frag) (neg:Bool):R2:=fun x y H Q=>∃ p xs,y=.ref p∧(SqL K H p xs∨SqT K H p xs)∧xR x=true∧xs.all xR=true∧Q (.bl (if neg then !inV x xs else inV x xs)) H
theorem yO:OpR X (compareOp .In) (rIn X.K false):=by
 intro pins s σ H x y v u Q I rx ry h
 obtain⟨p,xs,rfl,hq,fx,fs,q⟩:=h
 cases ry
 rcases hq with hq | hq
 ·obtain⟨its,r,pl,hz⟩:=I.list hq
  refine SeqAt.in_listAt (eqU x) pl.isList (fun w hw=>zT rx fx r fs w (by simpa using hw)) ⟨.bl _,H,I,rfl,?_⟩
  rw[show its.toArray.any (eqU x)=its.any (eqU x) by simp,AI r fs]
  exact q
 ·obtain⟨its,r,pl,hz⟩:=I.tuple hq
  refine SeqAt.in_tupleAt (eqU x) pl (fun w hw=>zT rx fx r fs w (by simpa using hw)) ⟨.bl _,H,I,rfl,?_⟩
  rw[show its.toArray.any (eqU x)=its.any (eqU x) by simp,AI r fs]
  exact q
theorem m9:vn X (.builtin "len") (fun xs H Q=>∃ p ys,xs=[.ref p]∧(SqL X.K H p ys∨SqT X.K H p ys)∧Q (.int ys.length) H):=by
 intro pins s σ H xs us Q I r h
 obtain⟨p,ys,rfl,hq,q⟩:=h
 obtain⟨u,rfl,rx⟩:=vals1 r
 cases rx
 have hn:=xK
 rcases hq with hq | hq
 ·obtain⟨its,r',pl,hz⟩:=I.list hq
  have hlen:=r'.length
  exact Calls.call_len_list pl.isList (by simp only [List.size_toArray] <;> exact Oz95 hn hz hlen) ⟨.int ys.length,H,I.tok _,⟨s.toks+1,by rw[List.size_toArray,hlen]⟩,q⟩
 ·obtain⟨its,r',pl,hz⟩:=I.tuple hq
  have hlen:=r'.length
  exact len_tuple pl (by simp only [List.size_toArray] <;> exact Oz95 hn hz hlen) ⟨.int ys.length,H,I.tok _,⟨s.toks+1,by rw[List.size_toArray,hlen]⟩,q⟩
theorem Cs:vn X (.builtin "len") (fun xs H Q=>∃ z,xs=[.str z]∧z.length≤sizeLine∧Q (.int z.length) H):=by
 intro pins s σ H xs us Q I r h
 obtain⟨z,rfl,hz,q⟩:=h
 obtain⟨u,rfl,t,rfl⟩:=vals1 r
 have hn:=xK
 exact len_str (by omega) ⟨.int z.length,H,I.tok _,⟨_,rfl⟩,q⟩
theorem za:vn X (.type "list") (fun xs H Q=>∃ p ys,xs=[.ref p]∧(SqL X.K H p ys∨SqT X.K H p ys)∧∀ l,H l=none→Q (.ref l) (upd H l (.lst ys))):=by
 intro pins s σ H xs us Q I r h
 obtain⟨p,ys,rfl,hq,q⟩:=h
 obtain⟨u,rfl,rx⟩:=vals1 r
 cases rx
 have fin:∀ (its:List Value),Vals ys its→ys.length≤sizeLine→∀ (h':Heap) (c':Nat),(∀ b o',s.heap.get? b=some o'→h'.get? b=some o') →
   h'.get? s.heap.objs.size=some { cls:=.type "list",dict:=none,data:=.seq its.toArray c',slots:=#[] }→EP X pins σ Q (.ref s.heap.objs.size) { s with heap:=h' }:=fun its r' hz h' c' kp e =>
  ⟨.ref s.heap.objs.size,_,I.laid (t':=s.toks) kp (Nat.le_refl _) (show ObjOk X.prog X.w _ h' _ (.lst ys) from ⟨hz,its,c',r',e⟩),rfl,q _ (I.hok.fresh (Nat.le_refl _))⟩
 rcases hq with hq | hq
 ·obtain⟨its,r',pl,hz⟩:=I.list hq
  have hlen:=r'.length
  obtain⟨o,ho,hc,n,hd⟩:=pl.isList
  exact call_list_seq p (.inl rfl) ho hc hd (fun h' c' kp e=>fin its r' hz h' c' kp e) (by simp only [List.size_toArray] <;> exact Oz12 hz hlen)
 ·obtain⟨its,r',pl,hz⟩:=I.tuple hq
  have hlen:=r'.length
  obtain⟨o,ho,hc,n,hd⟩:=pl
  exact call_list_seq p (.inr rfl) ho hc hd (fun h' c' kp e=>fin its r' hz h' c' kp e) (by simp only [List.size_toArray] <;> exact Oz12 hz hlen)
theorem BE:vn X (.type "tuple") (fun xs H Q=>∃ p ys,xs=[.ref p]∧((SqL X.K H p ys∧∀ l,H l=none→Q (.ref l) (upd H l (.tup ys)))∨(SqT X.K H p ys∧Q (.ref p) H))):=by
 intro pins s σ H xs us Q I r h
 obtain⟨p,ys,rfl,h⟩:=h
 obtain⟨u,rfl,rx⟩:=vals1 r
 cases rx
 rcases h with ⟨hq,q⟩ | ⟨hq,q⟩
 ·obtain⟨its,r',pl,hz⟩:=I.list hq
  have hlen:=r'.length
  refine call_tuple_list pl.isList (fun h' kp=>?_) (by simp only [List.size_toArray] <;> exact Oz12 hz hlen)
  have I1:Inv X pins σ H { s with heap:=h' }:=I.kept (t':=s.toks) kp
  have I2:Inv X pins σ (upd H h'.objs.size (.tup ys)) { s with heap:=h'.push { cls:=.type "tuple",data:=.seq its.toArray } } :=
   I1.laid (t':=s.toks) (fun b o e=>Heap.get?_push_of_some _ e) (Nat.le_refl _) (show ObjOk X.prog X.w _ _ _ (.tup ys) from ⟨hz,its,r',IsTup.new _ _,_,Heap.get?_push_size _ rfl,rfl⟩)
  exact⟨.ref h'.objs.size,_,I2,rfl,q _ (I1.hok.fresh (Nat.le_refl _))⟩
 ·obtain⟨its,r',pl,hz⟩:=I.tuple hq
  exact call_tuple_same pl ⟨.ref p,H,I,rfl,q⟩
def tyV (K:PySem.W.Frag) (T:String) (x:V) (H:Hp):Prop:=match x with
 | .str _=>T = "str"
 | .int _=>T = "int"
 | .ref p=>(T = "list"∧∃ xs,SqL K H p xs)∨(T = "tuple"∧∃ o,K.lookup p=some o∧o.cls=.type "tuple"∧o.dict=none) ∨
   (T = "dict"∧((∃ kvs,H p=some (.dK kvs))∨∃ kvs,H p=some (.dT kvs)))∨(T = "set"∧∃ S n,H p=some (.set S n))
 | _=>False
theorem GJ {pins:List (Addr×Obj)} {σ:St} {H:Hp} {s:Shared} {T:String} {x:V} {v:Value} (I:Inv X pins σ H s) (r:RelV x v) (ty:tyV X.K T x H) :
  s.TypeIs v T∧∀ a,v=.ref a→∃ ob,s.heap.get? a=some ob∧ob.dict=none:=by
 cases x with
 | str z =>
  obtain⟨t,rfl⟩:=r
  cases (show T = "str" from ty)
  exact⟨typeIs_str s z t,fun _ e=>nomatch e⟩
 | int i =>
  obtain⟨t,rfl⟩:=r
  cases (show T = "int" from ty)
  exact⟨typeIs_int s i t,fun _ e=>nomatch e⟩
 | ref p =>
  cases r
  rcases ty with ⟨rfl,xs,hq⟩ | ⟨rfl,o,hk,hc,hd⟩ | ⟨rfl,hk⟩ | ⟨rfl,S,n,hk⟩
  ·obtain⟨its,_,pl,_⟩:=I.list hq
   refine⟨pl.isList.typeIs,fun a e=>?_⟩
   cases e
   obtain⟨o,n,e,c,hd,_⟩:=pl
   exact⟨o,e,hd⟩
  ·refine⟨⟨o,I.kIn p o hk,hc⟩,fun a e=>?_⟩
   cases e
   exact⟨o,I.kIn _ o hk,hd⟩
  ·have z:∃ o,s.heap.get? p=some o∧o.ExactDict:=by
    rcases hk with ⟨kvs,hk⟩ | ⟨kvs,hk⟩
    ·obtain⟨_,_,_,_,o,_,_,e,ex,_⟩:=I.hok p _ hk
     exact⟨o,e,ex⟩
    ·obtain⟨_,_,_,_,o,_,_,e,ex,_⟩:=I.hok p _ hk
     exact⟨o,e,ex⟩
   obtain⟨o,e,ex⟩:=z
   refine⟨⟨o,e,ex.1⟩,fun a e2=>?_⟩
   cases e2
   exact⟨o,e,ex.2.1⟩
  ·obtain⟨o,_,_,_,e,ex,_⟩:=I.hok p _ hk
   refine⟨⟨o,e,ex.1⟩,fun a e2=>?_⟩
   cases e2
   exact⟨o,e,ex.2.1⟩
 | _=>exact False.elim ty
def HU (K:PySem.W.Frag) (T:String) (r:V→List V→Hp→VK→Prop) (to:TE):TE:=fun σ H Q=>to σ H fun x H1=>tyV K T x H1∧r x [] H1 Q
def tBM (K:PySem.W.Frag) (T:String) (r:V→List V→Hp→VK→Prop) (to:TE) (t:TA):TE:=fun σ H Q=>to σ H fun x H1=>tyV K T x H1∧t σ H1 fun xs H2=>r x xs H2 Q
variable {o e:Expr} {es:List Expr} {to:TE} {t:TA} {name:Str} {apos cpos:Pos} {T id:String} {r:V→List V→Hp→VK→Prop}
theorem JW (pa:PlainAttrs T) (slot:Slot T name id) (hty:typeOf (.builtin id)=pure (.type "method_descriptor")) (hm:MtR X id r) (ho:PE X o to)
  (hbase:attributeBase o name X.env (eval o X.env)=eval o X.env:=by rfl) (hline:(apos.endLine == cpos.line)=true:=by rfl):PE X (.Call (.Attribute o name apos) [] [] cpos) (HU X.K T r to):=by
 intro pins s σ H Q I h
 refine wpAny_Call_method0_late hbase hline (thn (ho pins s σ H _ I h) fun v s1 ⟨x,H1,I1,r1,ty,q1⟩=>?_)
 obtain⟨h1,h2⟩:=GJ I1 r1 ty
 exact⟨T,id,pa,slot,hty,h1,h2,Calls.callWith_builtin rfl (PySem.evalArgs_none (hm pins s1 σ H1 x [] v [] Q I1 r1 .nil q1))⟩
theorem wD (pa:PlainAttrs T) (slot:Slot T name id) (hty:typeOf (.builtin id)=pure (.type "method_descriptor")) (hm:MtR X id r) (ho:PE X o to) (ha:PA X (e::es) t)
  (hbase:attributeBase o name X.env (eval o X.env)=eval o X.env:=by rfl)
  (hfew:((backTo cpos (starEach (e::es) X.env)).all (fun x=>!x.1) && (backToKw cpos (keywordEach [] X.env)).all (fun x=>x.1.isSome)
   && decide ((e::es).length+([]:List Keyword).length+(if ([]:List Keyword).isEmpty then 0 else 1)<30))=true:=by rfl)
  (hline:(apos.endLine == cpos.line)=true:=by rfl) (hs:starEach (e::es) X.env=(false,eval e X.env)::starEach es X.env:=by rfl) (hplain:(backTo cpos (starEach es X.env)).any (·.1)=false:=by rfl) :
  PE X (.Call (.Attribute o name apos) (e::es) [] cpos) (tBM X.K T r to t):=by
 intro pins s σ H Q I h
 refine wpAny_Call_method_late hbase hfew hline rfl (thn (ho pins s σ H _ I h) fun v s1 ⟨x,H1,I1,r1,ty,q1⟩=>?_)
 obtain⟨h1,h2⟩:=GJ I1 r1 ty
 refine⟨T,id,pa,slot,hty,h1,h2,?_⟩
 have hA:=ha cpos pins s1 σ H1 _ I1 q1
 rw[hs] at hA ⊢
 refine Calls.callWith_builtin (by show (false || (backTo cpos (starEach es X.env)).any (·.1))=false; rw[hplain] <;> rfl) (Calls.evalArgs_plain ?_)
 exact thn hA fun us s2 ⟨vs,H2,I2,r2,q2⟩=>hm pins s2 σ H2 x vs v us Q I2 r1 r2 q2
end
def MtM (X:Cx) (id:String) (r:V→List V→Hp→VK→Prop):Prop :=
 ∀ (pins:List (Addr×Obj)) (s:Shared) (σ:St) (H:Hp) (x:V) (xs:List V) (v:Value) (us:List Value) (Q:VK),Inv X pins σ H s→RelV x v→Vals xs us→r x xs H Q →
  wpAny (model X.prog X.w) X.A (call (.builtin id) (v::us)) (EP X pins σ Q) X.xe s
theorem Vals.one:∀ {x:V} {us:List Value},Vals [x] us→∃ u,us=[u]∧RelV x u
 | _,_,.cons r .nil=>⟨_,rfl,r⟩
theorem Vals.zero:∀ {us:List Value},Vals [] us→us=[]
 | _,.nil=>rfl
theorem Vals.reverse {xs:List V} {us:List Value} (h:Vals xs us):Vals xs.reverse us.reverse:=by
 induction h with
 | nil=>exact .nil
 | cons r t ih=>rw[List.reverse_cons,List.reverse_cons]; exact Vals.append ih (.cons r .nil)
section
variable {X:Cx} {pins:List (Addr×Obj)} {σ:St} {H:Hp} {s:Shared} {l b:Addr} {xs ys zs:List V}
theorem Inv.lset {its its':List Value} {n:Nat} {f:Array Value→Array Value} {t':Nat} (I:Inv X pins σ H s) (hH:H l=some (.lst xs))
  (e:s.heap.get? l=some { cls:=.type "list",data:=.seq its.toArray n }) (hf:f its.toArray=its'.toArray) (hv:Vals ys its') (hz:ys.length≤sizeLine) :
  Inv X pins σ (upd H l (.lst ys)) { s with heap:=s.heap.update l (Obj.mapSeq f),toks:=t' }:=by
 have q:=PySem.IsL.update e f
 rw[hf] at q
 refine I.write (x:=l) (e:=l) (by rw[hH]; exact trivial) (.inl rfl) (fun b' u hb hu=>(Heap.get?_update_other s.heap (Obj.mapSeq f) (Ne.symm hb)).trans hu) ⟨_,q⟩ ?_
 exact⟨hz,its',_,hv,q⟩
theorem Inv.lnew {its:List Value} {t':Nat} (I:Inv X pins σ H s) (hv:Vals ys its) (hz:ys.length≤sizeLine) :
  Inv X pins σ (upd H s.heap.objs.size (.lst ys)) { s with heap:=s.heap.push { cls:=.type "list",data:=.seq its.toArray },toks:=t' } :=
 I.laid (fun _ _ q=>Heap.get?_push_of_some _ q) (Nat.le_refl _) ⟨hz,its,0,hv,Heap.get?_push_size _ rfl⟩
theorem Inv.fresh (I:Inv X pins σ H s):H s.heap.objs.size=none:=I.hok.fresh (Nat.le_refl _)
theorem Inv.lstM (I:Inv X pins σ H s) (hH:H l=some (.lst xs)):xs.length≤sizeLine∧∃ (its:List Value) (n:Nat),Vals xs its∧xs.length=its.length∧s.heap.get? l=some { cls:=.type "list",data:=.seq its.toArray n }:=by
 obtain⟨z,its,n,r,e⟩:=I.hok l _ hH
 exact⟨z,its,n,r,r.length,e⟩
theorem Ij {n:Nat} (h:n≤sizeLine):Builtin.List.listTooLong n=false:=by
 unfold Builtin.List.listTooLong
 exact decide_eq_false (by omega)
end
section
variable {X:Cx}
def D8:V→List V→Hp→VK→Prop:=fun x vs H Q=>∃ l xs y,x=.ref l∧vs=[y]∧H l=some (.lst xs)∧xs.length<sizeLine∧Q .non (upd H l (.lst (xs++[y])))
theorem we:MtM X "list.append" D8:=by
 intro pins s σ H x vs v us Q I rx rv h
 obtain⟨l,xs,y,rfl,rfl,hH,hz,q⟩:=h
 cases rx
 obtain⟨u,rfl,ru⟩:=rv.one
 obtain⟨z,its,n,r,hl,e⟩:=I.lstM hH
 refine call_meets F.slot_list_append ⟨_,e,rfl⟩ F.entry_list_append (F.args_list_append_2 _ _) (PySem.list_append l its.toArray n u (by rw[List.size_toArray]; omega)) ⟨e,?_⟩
 refine⟨.non,_,I.lset (its':=its++[u]) hH e (by simp) (r.append (.cons ru .nil)) ?_,rfl,q⟩
 rw[List.length_append,List.length_singleton]
 exact Oz69 hz
def Jv:V→List V→Hp→VK→Prop:=fun x vs H Q=>∃ l b xs zs,x=.ref l∧vs=[.ref b]∧H l=some (.lst xs)∧H b=some (.lst zs)∧xs.length+zs.length≤sizeLine∧Q .non (upd H l (.lst (xs++zs)))
theorem Gh:MtM X "list.extend" Jv:=by
 intro pins s σ H x vs v us Q I rx rv h
 obtain⟨l,b,xs,zs,rfl,rfl,hH,hB,hz,q⟩:=h
 cases rx
 obtain⟨u,rfl,ru⟩:=rv.one
 cases ru
 obtain⟨z,its,n,r,hl,e⟩:=I.lstM hH
 obtain⟨z2,its2,n2,r2,hl2,e2⟩:=I.lstM hB
 have hsz:its.toArray.size+its2.toArray.size≤sizeLine:=by rw[List.size_toArray,List.size_toArray]; exact Oz81 hz hl hl2
 have hlong:¬ (!its.toArray.isEmpty && Builtin.List.listTooLong (its.toArray.size+its2.toArray.size))=true:=by
  rw[Ij hsz,Bool.and_false]
  exact Bool.false_ne_true
 refine call_meets F.slot_list_extend ⟨_,e,rfl⟩ F.entry_list_extend (F.args_list_extend_2 _ _)
  (AutoSeq1.list_extend_list_list_0 l its.toArray n b its2.toArray n2 hlong (by rw[List.size_toArray]; exact Oz12 z hl) (by omega)) ⟨e,e2,?_⟩
 refine⟨.non,_,I.lset (its':=its++its2) hH e (by simp) (r.append r2) ?_,rfl,q⟩
 rw[List.length_append]
 exact Oz66 hz
def Lc:V→List V→Hp→VK→Prop:=fun x vs H Q=>∃ l xs y,x=.ref l∧vs=[]∧H l=some (.lst xs)∧xs[xs.length-1]?=some y∧Q y (upd H l (.lst xs.dropLast))
def Cu:V→List V→Hp→VK→Prop:=fun x vs H Q=>∃ l xs,x=.ref l∧vs=[]∧H l=some (.lst xs)∧Q .non (upd H l (.lst xs.reverse))
theorem F0:MtM X "list.reverse" Cu:=by
 intro pins s σ H x vs v us Q I rx rv h
 obtain⟨l,xs,rfl,rfl,hH,q⟩:=h
 cases rx
 have hus:=rv.zero
 subst hus
 obtain⟨z,its,n,r,hl,e⟩:=I.lstM hH
 refine call_meets F.slot_list_reverse ⟨_,e,rfl⟩ F.entry_list_reverse (F.args_list_reverse_1 _) (AutoSeq1.list_reverse_list_0 l its.toArray n (by rw[List.size_toArray]; exact Oz12 z hl)) ⟨e,?_⟩
 refine⟨.non,_,I.lset (its':=its.reverse) hH e (by simp) r.reverse ?_,rfl,q⟩
 rw[List.length_reverse]
 exact Oz23 z
def JL:R2:=fun x y H Q=>∃ l b xs zs,x=.ref l∧y=.ref b∧H l=some (.lst xs)∧H b=some (.lst zs)∧xs.length+zs.length≤sizeLine∧∀ p,H p=none→Q (.ref p) (upd H p (.lst (xs++zs)))
theorem G9:OpR X (binaryOp .Add) JL:=by
 intro pins s σ H x y v u Q I rx ry h
 obtain⟨l,b,xs,zs,rfl,rfl,hH,hB,hz,q⟩:=h
 cases rx
 cases ry
 obtain⟨z,its,n,r,hl,e⟩:=I.lstM hH
 obtain⟨z2,its2,n2,r2,hl2,e2⟩:=I.lstM hB
 refine PySem.P.add_list e e2 ?_ (by rw[List.size_toArray,List.size_toArray]; exact Oz81 hz hl hl2)
 have ea:its.toArray++its2.toArray=(its++its2).toArray:=by simp
 rw[ea]
 exact⟨.ref _,_,I.lnew (t':=s.toks) (r.append r2) (by rw[List.length_append]; exact Oz66 hz),rfl,q _ I.fresh⟩
end
end L2
namespace Att
open PySem PySem.W PySem.Calls PyProof.Rows
theorem Ah {P:Params} {h:Heap}:∀ (ns:List Int) (vs:List Value),WellAll P h vs (ns.map WData.int)→IntsAre vs ns:=by
 intro ns
 induction ns with
 | nil =>
  intro vs w
  rw[List.map_nil] at w
  cases w
  exact .nil
 | cons n ns ih =>
  intro vs w
  rw[List.map_cons] at w
  cases w with
  | cons a b =>
   cases a
   exact .cons _ _ (ih _ b)
theorem Ge {l:OpenLaw} {n:Nat} (hn:l.most=some n) {P:Params} {h:Heap} {args:List WData} {vals:List Value}
  (hpre:l.row.toRowW.claim.pre args=true) (hwl:WellAll P h vals args) :
  ∃ a vs ns,vals=[Value.ref a]∧args=[WData.list (ns.map WData.int)]∧h.get? a=some { cls:=.type "list",data:=.seq vs.toArray }∧IntsAre vs ns∧ns.length≤n:=by
 have hsh:WShape.hasAll [] args [.list .int]=true:=(pre_splitW hpre).1
 have hc:l.pre.holds [] { args:=args }=true:=(pre_splitW hpre).2
 obtain⟨d,r,rfl,h1,h2⟩:=hasAllW_cons hsh
 obtain rfl:=hasAllW_nil h2
 obtain⟨xs,rfl,h3⟩:=hasW_list h1
 obtain⟨ns,rfl⟩:=items_int h3
 have hlen:ns.length≤n:=by
  unfold OpenLaw.pre at hc
  have h4:(WTm.not (.lt (.lit (.int (n:Int))) (.len (.arg 0)))).holds [] { args:=[.list (ns.map .int)] }=true:=by
   have h4:=(holds_andW hc).1
   rw[hn] at h4
   exact h4
  have h5:=condW_of h4 (w_not (w_lt w_lit (w_len_list (w_arg rfl))))
  rw[List.length_map] at h5
  refine Nat.le_of_not_lt fun q=>?_
  have q':(n:Int)<((ns.length:Nat):Int):=by exact Oz38 q
  first
   | (rw[decide_eq_true q'] at h5; exact absurd h5 (by decide))
   | (simp at h5; omega)
 cases hwl with
 | cons w1 w2 =>
  cases w2
  cases w1 with
  | list ho hall=>exact⟨_,_,ns,rfl,rfl,ho,Ah ns _ hall,hlen⟩
theorem Gp (l:OpenLaw) (args:List WData):l.row.toRowW.claim.post args (.bool true) args=true :=
 postW_of (r:=l.row.toRowW) (X:=(true == true))
  (show WShape.has [] (.bool true) .bool=true by first | rfl | decide | simp [WShape.has,WShape.arms,WShape.armsAll])
  (show (WTm.eq .res (.lit (.bool true))).value [] { args:=args,res:=some (.bool true),after:=args }=some (.bool (true == true)) from w_eq_bool (w_res rfl) w_lit) rfl
theorem attach_call {l:OpenLaw} {n:Nat} {q:Program} {loose:List Str} {XP:(Str→Option Value)→Heap→Prop} {YP:World→Heap→Prop} {d:DefRec}
  (hn:l.most=some n) (hdf:d.params.defaults=[])
  (call:∀ (w:World) (s₀ s₁:Shared) (mg mb:Str→Option Value) (fa:Addr) (o:Obj) (pm cd doc:Value) (a:Addr) (vs:List Value) (ns:List Int),
   Ground q loose [] XP w s₀ mg mb s₁.heap→YP w s₁.heap →
   s₁.heap.get? fa=some o→o.data=.func (docDef d.name d.params d.body d.scope pm cd doc)→s₁.heap.CodeRec cd d.name→mg d.name=some (.ref fa) →
   s₁.heap.get? a=some { cls:=.type "list",data:=.seq vs.toArray }→IntsAre vs ns→ns.length≤n→s₁.gens = #[] →
   codeAny (model l.prog w) callerA (.call (.ref fa) ⟨[.ref a],[]⟩) (fun r s'=>r=.ok (.ret (.bool true))∧OldK s₁.heap s'.heap∧s'.os=s₁.os∧AllBare s'.gens) s₁) :
  WalkO q loose XP YP l.row.toRowW d [] (fun f vs=>PySem.call f vs):=by
 intro w s₀ s₁ mg mb G Y fa o pm cd doc dV kV ho hd hcd hD hmg hg args vals as hpre hlay hrd hwl hlo
 obtain rfl:dV=.none:=Dflts.none hD hdf
 obtain rfl:kV=.none:=Dflts.noKw hD
 obtain⟨a,vs,ns,rfl,rfl,hobj,hints,hlen⟩:=Ge hn hpre hwl
 refine enter_call (codeAny_mono (call w s₀ s₁ mg mb fa o pm cd doc a vs ns G Y ho (fd_plain hd) hcd hmg hobj hints hlen hg) fun r s' hq=>?_)
 obtain⟨rfl,h2,h3,h4⟩:=hq
 exact⟨.inl ⟨.bool true,.bool true,[],rfl,fun _=>rfl,.bool true,Gp l _,fun _=>⟨List.Pairwise.nil,fun _ hm=>(nomatch hm)⟩⟩,h2,h3,h4⟩
end Att
namespace L2
open PySem PySem.Spec PyProof.Rows
theorem yW:∀ {vs:List Value} {ns:List Int},IntsAre vs ns→Vals (ns.map V.int) vs
 | _,_,.nil=>.nil
 | _,_,.cons n t h=>.cons ⟨t,rfl⟩ (yW h)
def HL (H:Hp):Prop:=∀ b,H b=none∨∃ o xs,H b=some (.frz o (.lst xs))
theorem HE {P:Program} {w:World} {K:PySem.W.Frag} {mg mb:Str→Option Value} {CX:CXT} {k:Nat} {fa a:Addr} {fd:FuncData} {x:Str} {sp:Sp} {s₁:Shared} {vs:List Value} {ns:List Int}
  (KX:K.In s₁.heap) (hns:s₁.heap.Ns mainGlobals mg) (hb:s₁.heap.Ns builtinsNs mb) (hbb:∀ x:Str,x≠"__name__"→mb x=bootBuiltins x) (hlim:s₁.heap.NoLimit) (hg:s₁.gens = #[])
  (ha:s₁.heap.get? a=some { cls:=.type "list",data:=.seq vs.toArray }) (hi:IntsAre vs ns) (hl:ns.length≤sizeLine) (hr:Room k callerA)
  (F:∀ base:Heap,K.In base→base.Ns mainGlobals mg→FnOk P w K mg base CX k fa fd [x] sp) (hbind:∀ (s:Shared) (u:Value),BindsTo s fd ⟨[u],[]⟩ [(x,u)])
  (hsp:∀ H:Hp,HL H→SqL K H a (ns.map V.int)→sp [.ref a] H (fun v _=>v=.bl true) fun _ _ _=>False)
  (hCX:∀ H e s',CX [] H s₁ (fun _ _ _=>False) e s'→False) :
  codeAny (model P w) callerA (.call (.ref fa) ⟨[.ref a],[]⟩) (fun r s'=>r=.ok (.ret (.bool true))∧OldK s₁.heap s'.heap∧s'.os=s₁.os∧AllBare s'.gens) s₁:=by
 have rv:=yW hi
 have lenV:=hi.length
 -- from an abstract heap in which nothing but the script may be tracked
 have core:∀ H:Hp,HL H→SqL K H a (ns.map V.int)→HOk P w H s₁.heap→(∀ b,H b≠none→b=a)→(H a≠none→K.lookup a=none) →
   codeAny (model P w) callerA (.call (.ref fa) ⟨[.ref a],[]⟩) (fun r s'=>r=.ok (.ret (.bool true))∧OldK s₁.heap s'.heap∧s'.os=s₁.os∧AllBare s'.gens) s₁:=by
  intro H hO hS hok hA hK
  have base_of:∀ {b:Addr} {o:Obj},s₁.heap.get? b=some o→H b=none→(yr s₁.heap H).get? b=some o:=fun e n=>Io e n
  have noA:∀ {b:Addr} {o:Obj} {es:Array DictEntry} {ep:Nat},s₁.heap.get? b=some o→o.data=.dict es ep→H b=none:=fun {b o es ep} e d=>by
   cases q:H b with
   | none=>rfl
   | some u =>
    have e':b=a:=hA b (by rw[q]; simp)
    subst e'
    rw[ha] at e; cases e
    have d':Data.seq vs.toArray _=Data.dict es ep:=d
    cases d'
  have nsK:∀ {b:Addr} {m:Str→Option Value},s₁.heap.Ns b m→(yr s₁.heap H).Ns b m:=fun {b m} ⟨o,es,ep,e,d,r⟩=>⟨o,es,ep,base_of e (noA e d),d,r⟩
  have hKb:K.In (yr s₁.heap H):=fun b o e=>base_of (KX b o e) (by
   cases q:H b with
   | none=>rfl
   | some u =>
    have e':b=a:=hA b (by rw[q]; simp)
    subst e'
    rw[hK (by rw[q]; simp)] at e; cases e)
  have hM:Mod K mg (yr s₁.heap H):=⟨hKb,nsK hns,⟨mb,nsK hb,hbb⟩,let ⟨mc,h1,h2⟩:=hlim; ⟨mc,nsK h1,h2⟩⟩
  have e0:Env0 P w K mg (yr s₁.heap H) callerA [] s₁ H:=⟨rfl,hM,fun b o e=>Jd e,Nat.le_of_eq (GB _ _),trivial,fun b hb=>absurd (show b∈([]:List Addr) from hb) (by simp),hok,.of_eq hg⟩
  refine codeAny_mono ((F _ hKb (nsK hns)).run callerA [] s₁ H ⟨[.ref a],[]⟩ [.ref a] [.ref a] _ _ hr e0 (hbind s₁ (.ref a)) (.cons rfl .nil) (hsp H hO hS)) fun r s' h=>?_
  cases r with
  | error e=>exact (hCX H e s' h).elim
  | ok fl =>
   cases fl with
   | next=>exact False.elim h
   | brk=>exact False.elim h
   | cont=>exact False.elim h
   | ret u =>
    obtain⟨v,H',os,bare,un,hok',r',q⟩:=h
    have q':v=.bl true:=q
    subst q'
    obtain rfl:u=Value.bool true:=r'
    refine⟨rfl,OldK.of_keep fun b o e=>?_,os,bare⟩
    cases q:H b with
    | none=>exact un.keep b o e q (by intro z; exact absurd (show b∈([]:List Addr) from z) (by simp)) (by simp)
    | some u =>
     rcases hO b with z | ⟨ob,xs,z⟩
     ·rw[q] at z; cases z
     ·have z2:=un.frzs b ob _ z
      obtain⟨e1,_⟩:=hok b _ z
      obtain⟨e2,_⟩:=hok' b _ z2
      rw[e] at e1; cases e1
      exact e2
 cases hk:K.lookup a with
 | some o =>
  -- the script is one of the module's own objects
  have e:=KX a o hk
  rw[ha] at e
  cases e
  refine core (fun _=>none) (fun _=>.inl rfl) (.inr ⟨_,vs.toArray,_,hk,rfl,rfl,rfl,by rw[List.size_toArray,lenV]; exact hl,by simpa using rv⟩) (fun b u z=>by have z':(none:Option HO)=some u:=z; cases z') (fun b z=>absurd rfl z) fun z=>absurd rfl z
 | none =>
  refine core (fun b=>if b=a then some (.frz { cls:=.type "list",data:=.seq vs.toArray } (.lst (ns.map V.int))) else none) (fun b=>?_) (.inl (.inr ⟨{ cls:=.type "list",data:=.seq vs.toArray },if_pos rfl⟩)) (fun b u z=>?_) (fun b z=>?_) fun _=>hk
  ·by_cases hb:b=a
   ·exact .inr ⟨_,_,if_pos hb⟩
   ·exact .inl (if_neg hb)
  ·by_cases hb:b=a
   ·have z':=(if_pos hb).symm.trans z
    cases z'
    subst hb
    exact⟨ha,by rw[List.length_map]; exact hl,vs,_,rv,ha⟩
   ·have z':=(if_neg hb).symm.trans z
    cases z'
  ·by_cases hb:b=a
   ·exact hb
   ·exact absurd (if_neg hb) z
theorem walk_of {l:PySem.W.OpenLaw} {n k:Nat} {q:Program} {loose:List Str} {XP:(Str→Option Value)→Heap→Prop} {YP:World→Heap→Prop} {d:DefRec} {K:Params→PySem.W.Frag} {CX:World→CXT} {sp:World→Sp} {x:Str}
  (hn:l.most=some n) (hn2:n≤sizeLine) (hdf:d.params.defaults=[]) (hr:Room k callerA)
  (hY:∀ (w:World) (h:Heap),YP w h→(K w.params).In h)
  (F:∀ (w:World) (mg:Str→Option Value) (fa:Addr) (h:Heap),(K w.params).In h→h.Ns mainGlobals mg→mg d.name=some (.ref fa) →
   ∃ fd:FuncData,(∀ (s:Shared) (u:Value),BindsTo s fd ⟨[u],[]⟩ [(x,u)]) ∧
    ∀ base:Heap,(K w.params).In base→base.Ns mainGlobals mg→FnOk l.prog w (K w.params) mg base (CX w) k fa fd [x] (sp w))
  (hsp:∀ (w:World) (H:Hp) (a:Addr) (ns:List Int),ns.length≤n→HL H→SqL (K w.params) H a (ns.map V.int)→sp w [.ref a] H (fun v _=>v=.bl true) fun _ _ _=>False)
  (hCX:∀ (w:World) (H:Hp) (s:Shared) (e:Value) (s':Shared),CX w [] H s (fun _ _ _=>False) e s'→False) :
  PySem.W.WalkO q loose XP YP l.row.toRowW d [] (fun f vs=>PySem.call f vs):=by
 refine Att.attach_call hn hdf fun w s₀ s₁ mg mb fa o pm cd doc a vs ns G Y ho hd hcd hmg hobj hints hlen hg=>?_
 have KX:=hY w _ Y
 obtain⟨fd,hb,hF⟩:=F w mg fa _ KX G.T.g hmg
 exact HE KX G.T.g G.T.b G.T.builtins G.T.nolimit hg hobj hints (Nat.le_trans hlen hn2) hr hF hb (fun H hO hS=>hsp w H a ns hlen hO hS) fun H e s'=>hCX w H s₁ e s'
noncomputable def defArgs (s:Stmt):Arguments:=match s with
 | .FunctionDef _ a _ _ _ _ _ _ _ _=>a
 | _=>{ posonlyargs:=[],args:=[],vararg:=none,kwonlyargs:=[],kw_defaults:=[],kwarg:=none,defaults:=[] }
noncomputable def defBody (s:Stmt):List Stmt:=match s with
 | .FunctionDef _ _ b _ _ _ _ _ _ _=>b
 | _=>[]
noncomputable def defScope (s:Stmt):Scope:=match s with
 | .FunctionDef _ _ _ _ _ _ sc _ _ _=>sc
 | _=>{ kind:=.function,names:=[],isGenerator:=false,isCoroutine:=false }
abbrev CX0:CXT:=fun _ _ _ _ _ _=>False
abbrev E0:XK:=fun _ _ _=>False
theorem FY {X:Cx}:yb CX0 X E0:=fun _ _ _ _ _ _ _ h=>h.elim
structure Fun (K:PySem.W.Frag) (x qual:Str) (st:Stmt) (f:Addr) (fd:FuncData):Prop where
 ex:∃ (oc:Value) (od:Option Addr) (kV doc pm:Value) (an:Option Addr) (cdv ct:Value) (osl:Array (Option Value)),
  fd=PySem.W.fnOf x qual (defArgs st) (defBody st) (defScope st) .none kV doc pm an cdv ct∧K.lookup f=some ⟨oc,od,.func fd,osl⟩∧PySem.W.codeIn K cdv qual=true
 kp:PySem.W.keepIn K (.ref f)=true
section
variable {P:Program} {w:World} {K:PySem.W.Frag} {mg:Str→Option Value} {base:Heap}
theorem Fun.ok {x qual:Str} {st:Stmt} {f:Addr} {fd:FuncData} {N ps:List Str} {k:Nat} {sp:Sp} (F:Fun K x qual st f fd) (S:FnScope N ps (defScope st)) (len:∀ vs H Q E,sp vs H Q E→vs.length=ps.length)
  (hbody:∀ (cdv:Value) (A:Around) (outer:List Env) (s:Shared) (H:Hp) (vs:List V) (Q:VK) (E:XK),Room k (A.deeper (envOfC qual (defScope st) s.heap.objs.size f cdv))→sp vs H Q E →
   ∃ t,PSs (zY CX0 P w K mg base N qual (defScope st) f cdv A outer s H E).nox (defBody st) t∧t { nx:=fun _ H'=>Q .non H',rt:=Q } (start N vs) H):FnOk P w K mg base CX0 (k+1) f fd ps sp:=by
 obtain⟨oc,od,kV,doc,pm,an,cdv,ct,osl,rfl,lk,hcd⟩:=F.ex
 refine K0 lk hcd S len fun A outer s H vs Q E hr hsp=>?_
 obtain⟨t,h,q⟩:=hbody cdv A outer s H vs Q E hr hsp
 exact⟨t,h.nox,q⟩
theorem Fun.binds {x qual:Str} {st:Stmt} {f:Addr} {fd:FuncData} {ps:List Str} (F:Fun K x qual st f fd)
  (h:∀ (kV doc pm:Value) (an:Option Addr) (cdv ct:Value) (us:List Value),us.length=ps.length→bindArgs (PySem.W.fnOf x qual (defArgs st) (defBody st) (defScope st) .none kV doc pm an cdv ct) ⟨us,[]⟩=pure (ps.zip us)):Binds K fd ps []:=by
 obtain⟨oc,od,kV,doc,pm,an,cdv,ct,osl,rfl,lk,hcd⟩:=F.ex
 exact .all (h kV doc pm an cdv ct)
theorem mV {x qual:Str} {st:Stmt} {f:Addr} {oc:Value} {od an:Option Addr} {osl:Array (Option Value)} {kV doc pm cdv ct:Value} (l:K.lookup f=some ⟨oc,od,.func (PySem.W.fnOf x qual (defArgs st) (defBody st) (defScope st) .none kV doc pm an cdv ct),osl⟩)
  (c:PySem.W.codeIn K cdv qual=true) (k:PySem.W.keepIn K (.ref f)=true):Fun K x qual st f (PySem.W.fnOf x qual (defArgs st) (defBody st) (defScope st) .none kV doc pm an cdv ct):=⟨⟨oc,od,kV,doc,pm,an,cdv,ct,osl,rfl,l,c⟩,k⟩
end
theorem zl {A:Around} {k:Nat} (hr:Room k A):A.units+1<cLine:=Nat.lt_of_le_of_lt (Nat.add_le_add_left (by decide:1≤64) _) hr.units
section
variable {X:Cx}
theorem pv (i:Nat) {x:Str} {pos:Pos} (hN:X.N[i]?=some x:=by rfl) (hv:Vis X.env.scope x:=by first | exact Or.inl rfl | exact Or.inr (Or.inl rfl) | exact Or.inr (Or.inr rfl)) (hd:(x == ("__debug__":Str))=false:=by decide)
  (hcd:(x == ("__classdict__":Str))=false:=by decide):PE X (.Name x pos) (CB i):=eF hN hv hd hcd
end
def Same (H H':Hp):Prop:=∀ b o,H b=some o→H' b=some o
theorem Same.refl (H:Hp):Same H H:=fun _ _ h=>h
theorem Same.trans {H H1 H2:Hp} (a:Same H H1) (b:Same H1 H2):Same H H2:=fun c o h=>b c o (a c o h)
theorem Same.free {H H':Hp} (e:Same H H') {l:Addr} (h:H' l=Option.none):H l=Option.none:=by
 cases q:H l with
 | none=>rfl
 | some o =>
  rw[e l o q] at h
  cases h
theorem Same.seq {K:PySem.W.Frag} {H H':Hp} {a:Addr} {xs:List V} (e:Same H H') (h:SqL K H a xs):SqL K H' a xs:=by
 rcases h with (h | ⟨o,h⟩) | h
 ·exact .inl (.inl (e _ _ h))
 ·exact .inl (.inr ⟨o,e _ _ h⟩)
 ·exact .inr h
structure Cal (P:Program) (w:World) (K:PySem.W.Frag) (mg:Str→Option Value) (base:Heap) (CX:CXT) (x:Str) (k:Nat) (ps:List Str) (sp:Sp):Prop where
 ex:∃ f fd,FnOk P w K mg base CX k f fd ps sp∧Binds K fd ps []∧PySem.W.keepIn K (.ref f)=true∧mg x=some (.ref f)
section
variable {X:Cx} {CX:CXT} {x:Str} {j k:Nat} {ps:List Str} {sp:Sp} {E:XK} {p pos:Pos} {e:Expr} {es:List Expr} {t:TA}
theorem Iu (C:Cal X.prog X.w X.K X.mg X.base CX x j ps sp) (hr:Room k X.A) (hg:Gl X x) (hx:yb CX X E) (ha:PA X (e::es) t) (hj:j≤k:=by decide) (hdb:(x == ("__debug__":Str))=false:=by decide)
  (he:starEach (e::es) X.env=(false,eval e X.env)::starEach es X.env:=by rfl) (hpl:(backTo pos (starEach es X.env)).any (·.1)=false:=by rfl) :
  PE X (.Call (.Name x p) (e::es) [] pos) (Aq sp [] E t):=by
 obtain⟨f,fd,F,b,kp,m⟩:=C.ex
 exact Js F (hr.mono hj) hg m kp b .nil hx ha hdb he hpl
theorem gY (C:Cal X.prog X.w X.K X.mg X.base CX0 x j ps sp) (hr:Room k X.A) (hg:Gl X x) (ha:PA X (e::es) t) (hj:j≤k:=by decide) (hdb:(x == ("__debug__":Str))=false:=by decide)
  (he:starEach (e::es) X.env=(false,eval e X.env)::starEach es X.env:=by rfl) (hpl:(backTo pos (starEach es X.env)).any (·.1)=false:=by rfl) :
  PE X (.Call (.Name x p) (e::es) [] pos) (Aq sp [] E0 t):=Iu C hr hg FY ha hj hdb he hpl
end
inductive Kn where
 | non | bl | int | str | lst | tup | dct
noncomputable def tyK (T:String):Option Kn :=
 if T = "int" then some .int else if T = "bool" then some .bl else if T = "str" then some .str else if T = "list" then some .lst else if T = "tuple" then some .tup else none
theorem JF:tyK "int"=some .int:=rfl
theorem HK:tyK "bool"=some .bl:=rfl
theorem JE:tyK "str"=some .str:=rfl
theorem HJ:tyK "list"=some .lst:=rfl
theorem GF:tyK "tuple"=some .tup:=rfl
noncomputable def qq:Kn→Kn→Bool
 | .int,.int=>true
 | .bl,.int=>true
 | .bl,.bl=>true
 | .str,.str=>true
 | .lst,.lst=>true
 | .tup,.tup=>true
 | _,_=>false
def KI (a:Addr):HO:=.ext fun h=>∃ o,h.get? a=some o∧o.cls=.type "dict"
def Kd (K:PySem.W.Frag) (H:Hp):V→Kn→Prop
 | .non,k=>k=.non
 | .bl _,k=>k=.bl
 | .int _,k=>k=.int
 | .str _,k=>k=.str
 | .ref a,k=>(k=.lst∧∃ xs,SqL K H a xs)∨(k=.tup∧∃ xs,SqT K H a xs)∨(k=.dct∧H a=some (KI a))
 | _,_=>False
def Kx (K:PySem.W.Frag):List V→Hp→VK→Prop:=fun xs H Q=>∃ x T kt k,xs=[x,.ty T]∧tyK T=some kt∧Kd K H x k∧Q (.bl (qq k kt)) H
theorem HS {T:String} {kt:Kn} (h:tyK T=some kt):(T = "int"∧kt=.int)∨(T = "bool"∧kt=.bl)∨(T = "str"∧kt=.str)∨(T = "list"∧kt=.lst)∨(T = "tuple"∧kt=.tup):=by
 unfold tyK at h
 split at h
 ·next e=>exact .inl ⟨e,(Option.some.inj h).symm⟩
 split at h
 ·next e=>exact .inr (.inl ⟨e,(Option.some.inj h).symm⟩)
 split at h
 ·next e=>exact .inr (.inr (.inl ⟨e,(Option.some.inj h).symm⟩))
 split at h
 ·next e=>exact .inr (.inr (.inr (.inl ⟨e,(Option.some.inj h).symm⟩)))
 split at h
 ·next e=>exact .inr (.inr (.inr (.inr ⟨e,(Option.some.inj h).symm⟩)))
 ·cases h
section
variable {X:Cx}
theorem uF:vn X (.builtin "isinstance") (Kx X.K):=by
 intro pins s σ H xs us Q I r h
 obtain⟨x,T,kt,k,rfl,ht,hk,q⟩:=h
 obtain⟨u,w',rfl,rx,rt⟩:=vals2 r
 obtain rfl:w'=Value.type T:=rt
 have f1:EP X pins σ Q (.bool (qq k kt)) s:=⟨.bl _,H,I,rfl,q⟩
 have f2:EP X pins σ Q (.bool (qq k kt)) { s with toks:=s.toks+1 }:=⟨.bl _,H,I.tok _,rfl,q⟩
 have hT:=HS ht
 clear ht q
 cases x with
 | non =>
  obtain rfl:u=Value.none:=rx
  obtain rfl:k=.non:=hk
  rcases hT with ⟨rfl,rfl⟩ | ⟨rfl,rfl⟩ | ⟨rfl,rfl⟩ | ⟨rfl,rfl⟩ | ⟨rfl,rfl⟩
  ·exact IsiPair.NoneType_int f2
  ·exact IsiPair.NoneType_bool f2
  ·exact IsiPair.NoneType_str f2
  ·exact IsiPair.NoneType_list f2
  ·exact IsiPair.NoneType_tuple f2
 | bl b =>
  obtain rfl:u=Value.bool b:=rx
  obtain rfl:k=.bl:=hk
  rcases hT with ⟨rfl,rfl⟩ | ⟨rfl,rfl⟩ | ⟨rfl,rfl⟩ | ⟨rfl,rfl⟩ | ⟨rfl,rfl⟩
  ·first | exact IsiPair.bool_int f1 | exact IsiPair.bool_int f2
  ·exact IsiPair.bool_bool f1
  ·exact IsiPair.bool_str f2
  ·exact IsiPair.bool_list f2
  ·exact IsiPair.bool_tuple f2
 | int i =>
  obtain⟨t,rfl⟩:=rx
  obtain rfl:k=.int:=hk
  rcases hT with ⟨rfl,rfl⟩ | ⟨rfl,rfl⟩ | ⟨rfl,rfl⟩ | ⟨rfl,rfl⟩ | ⟨rfl,rfl⟩
  ·exact IsiPair.int_int f1
  ·exact IsiPair.int_bool f2
  ·exact IsiPair.int_str f2
  ·exact IsiPair.int_list f2
  ·exact IsiPair.int_tuple f2
 | str z =>
  obtain⟨t,rfl⟩:=rx
  obtain rfl:k=.str:=hk
  rcases hT with ⟨rfl,rfl⟩ | ⟨rfl,rfl⟩ | ⟨rfl,rfl⟩ | ⟨rfl,rfl⟩ | ⟨rfl,rfl⟩
  ·exact IsiPair.str_int f2
  ·exact IsiPair.str_bool f2
  ·exact IsiPair.str_str f1
  ·exact IsiPair.str_list f2
  ·exact IsiPair.str_tuple f2
 | ref a =>
  obtain rfl:u=Value.ref a:=rx
  rcases hk with ⟨rfl,xs,hq⟩ | ⟨rfl,xs,hq⟩ | ⟨rfl,hq⟩
  ·obtain⟨its,_,⟨o,n,e,c,_,_⟩,_⟩:=I.list hq
   rcases hT with ⟨rfl,rfl⟩ | ⟨rfl,rfl⟩ | ⟨rfl,rfl⟩ | ⟨rfl,rfl⟩ | ⟨rfl,rfl⟩
   ·exact IsiPair.list_int e c f2
   ·exact IsiPair.list_bool e c f2
   ·exact IsiPair.list_str e c f2
   ·exact IsiPair.list_list e c f1
   ·exact IsiPair.list_tuple e c f2
  ·obtain⟨its,_,⟨o,e,c,_⟩,_⟩:=I.tuple hq
   rcases hT with ⟨rfl,rfl⟩ | ⟨rfl,rfl⟩ | ⟨rfl,rfl⟩ | ⟨rfl,rfl⟩ | ⟨rfl,rfl⟩
   ·exact IsiPair.tuple_int e c f2
   ·exact IsiPair.tuple_bool e c f2
   ·exact IsiPair.tuple_str e c f2
   ·exact IsiPair.tuple_list e c f2
   ·exact IsiPair.tuple_tuple e c f1
  ·obtain⟨⟨o,e,c⟩,_⟩:=I.hok a _ hq
   rcases hT with ⟨rfl,rfl⟩ | ⟨rfl,rfl⟩ | ⟨rfl,rfl⟩ | ⟨rfl,rfl⟩ | ⟨rfl,rfl⟩
   ·exact IsiPair.dict_int e c f2
   ·exact IsiPair.dict_bool e c f2
   ·exact IsiPair.dict_str e c f2
   ·exact IsiPair.dict_list e c f2
   ·exact IsiPair.dict_tuple e c f2
 | _=>exact False.elim hk
end
def EH (J:It) (g:TG) (tb:TS) (D:Ends) (σ:St) (H:Hp):Prop:=∃ W:Nat→Nat→St→Hp→Prop,(∃ m,W 0 m σ H)∧∀ i m σ H,W i m σ H →
 (J.stop i H∧D.nx σ H)∨(J.go i H∧∃ N:St→Hp→Prop,(∀ σ' H',N σ' H'→∃ m',m'<m∧W (i+1) m' σ' H')∧∀ x H',J.yld i H x H'→g x σ H' fun σ2 H2=>tb { D with nx:=N,ct:=N,bk:=D.nx } σ2 H2)
theorem JA {wi:TI} {g:TG} {tb:TS} {D:Ends} {σ:St} {H:Hp}:JY wi g tb D σ H=wi σ H fun J H1=>EH J g tb D σ H1:=rfl
section
variable {K:PySem.W.Frag} {a:Addr} {xs:List V} {g:TG} {tb:TS} {D:Ends} {σ:St} {H:Hp} {lo:Int} {n:Nat}
theorem wX (xs:List V) (Pv:Nat→St→Hp→Prop) (h0:Pv 0 σ H) (hl:∀ i σ H,i≤xs.length→Pv i σ H→SqL K H a xs)
  (hs:∀ i x σ H,xs[i]?=some x→Pv i σ H→g x σ H fun σ2 H2=>tb { D with nx:=Pv (i+1),ct:=Pv (i+1),bk:=D.nx } σ2 H2) (hd:∀ σ H,Pv xs.length σ H→D.nx σ H):EH (Itl K a) g tb D σ H:=Ii Pv h0 hl hs hd
theorem wA (Pv:Nat→St→Hp→Prop) (h0:Pv 0 σ H)
  (hs:∀ i σ H,i<n→Pv i σ H→g (.int (lo+i)) σ H fun σ2 H2=>tb { D with nx:=Pv (i+1),ct:=Pv (i+1),bk:=D.nx } σ2 H2) (hd:∀ σ H,Pv n σ H→D.nx σ H):EH (Itr lo n) g tb D σ H:=Hi Pv h0 hs hd
end
theorem DZ {xs:List Int} {m:Int} (h0:0≤m) (h1:m<xs.length):∃ z,z∈xs∧(xs.map V.int)[m.toNat]?=some (.int z):=by
 have h:m.toNat<xs.length:=by omega
 exact⟨xs[m.toNat],List.getElem_mem h,by rw[List.getElem?_map,List.getElem?_eq_getElem h]; rfl⟩
structure Bits (n:Nat) (i:Int):Prop where
 lt:i.natAbs<2 ^ n
theorem Bits.mono {m n:Nat} {i:Int} (h:Bits m i) (le:m≤n):Bits n i:=⟨Nat.lt_of_lt_of_le h.lt (Nat.pow_le_pow_right (by decide) le)⟩
theorem Bits.of {n:Nat} {i b:Int} (lo:-b≤i) (hi:i≤b) (hb:b<((2 ^ n:Nat):Int)):Bits n i:=⟨by omega⟩
theorem Bits.bits {n:Nat} {i:Int} (h:Bits n i):Builtin.Int.intBits i≤n:=by
 unfold Builtin.Int.intBits
 split
 ·exact Nat.zero_le _
 ·have q:=h.lt
  rcases Nat.eq_zero_or_pos i.natAbs with h0 | hp
  ·rw[h0] at q ⊢
   have:(0:Nat).log2=0:=by decide
   rename_i hz
   exact absurd (by simp; omega) hz
  ·have:=(Nat.log2_lt (Nat.ne_of_gt hp)).mpr q
   exact Oz69 this
def CMulB (i j:Int):Prop:=Bits 100000 i∧Bits 100000 j
theorem CMulB.ok {i j:Int} (h:CMulB i j):IntMulOk i j:=IntMulOk.of_bits (Nat.le_trans h.1.bits (by decide)) (Nat.le_trans h.2.bits (by decide))
def CDivB (_ j:Int):Prop:=0<j∧Bits 8999 j
theorem CDivB.ok {i j:Int} (h:CDivB i j):Builtin.divisionGoesByPylong i j=false:=by
 refine PyProof.noPylong_of_log2 ?_
 have q:=h.2.lt
 have:=(Nat.log2_lt (n:=j.natAbs) (k:=8999) (by have:=h.1; omega)).mpr q
 omega
section
variable {X:Cx}
theorem yf:OpR X (binaryOp .Mult) (rI CMulB fun i j=>.int (i * j)):=opI fun _ _ _ _ _ _ _ hc q=>mul_int q hc.ok
theorem rC:OpR X (binaryOp .FloorDiv) (rI CDivB fun i j=>.int (i / j)):=opI fun i j _ _ _ _ _ hc q=>by
 have h1:(0:Int)<j:=hc.1
 exact floordiv_int (by exact Oz105 h1) (by rw[Int.fdiv_eq_ediv_of_nonneg i (by exact Oz102 h1)]; exact q) (.inl hc.ok)
def IU (t:TA) (ti:TE):TE:=fun σ H Q=>t σ H fun xs H1=>xs.length≤sizeLine∧ti σ H1 fun y H2=>∃ i v,y=.int i∧0≤i∧xs[i.toNat]?=some v∧Q v H2
end
section
variable {X:Cx} {es:List Expr} {b:Expr} {t:TA} {ti:TE} {pos p2:Pos}
theorem xD (h:PA X es t) (hb:PE X b ti) (hs:Es b):PE X (.Subscript (.List es p2) b pos) (IU t ti):=by
 intro pins s σ H Q I hq
 refine Subscript_ (wpAny_List_spliced (thn (h p2 pins s σ H _ I hq) fun us s1 ⟨xs,H1,I1,r,z,q⟩=>⟨by rw[← r.length]; exact z,?_⟩))
 have hf:H1 s1.heap.objs.size=none:=I1.hok.fresh (Nat.le_refl _)
 have I2:Inv X (pins++[(s1.heap.objs.size,{ cls:=.type "list",data:=.seq us.toArray })]) σ H1 { s1 with heap:=s1.heap.push { cls:=.type "list",data:=.seq us.toArray } }:=by
  have J:Inv X pins σ H1 { s1 with heap:=s1.heap.push { cls:=.type "list",data:=.seq us.toArray } }:=I1.kept (t':=s1.toks) fun b u e=>Heap.get?_push_of_some _ e
  refine J.pins_of fun p hp=>?_
  rcases List.mem_append.mp hp with hp | hp
  ·exact J.pin p (List.mem_append_right _ hp)
  ·have e:=List.mem_singleton.mp hp
   subst e
   exact⟨Heap.get?_push_size _ rfl,hf,Nat.ne_of_gt I1.lt,I1.nofs (Nat.le_refl _),fun v z=>by cases z⟩
 refine thn (hb _ _ σ H1 _ I2 q) fun u s2 ⟨y,H2,I3,ry,i,v,e,h0,ha,q2⟩=>?_
 subst e
 obtain⟨t',rfl⟩:=ry
 obtain⟨hp,_⟩:=I3.pin (s1.heap.objs.size,{ cls:=.type "list",data:=.seq us.toArray }) (List.mem_append_right _ (List.mem_append_right _ (List.mem_singleton.mpr rfl)))
 obtain⟨w,ew,rw'⟩:=r.get ha
 have I4:Inv X pins σ H2 s2:=I3.pins_of fun p hp=>I3.pin p (List.mem_append_right _ (List.mem_append_left _ hp))
 have hl:=r.length
 have hn:=xK
 have hi:i.toNat<us.length:=(List.getElem?_eq_some_iff.mp ew).1
 have fin:EP X pins σ Q w s2:=⟨v,H2,I4,rw',q2⟩
 exact item_listR (l:=s1.heap.objs.size) ⟨_,hp,rfl,_,rfl⟩ h0 (by omega) (by simpa using ew) fin (hs _ _)
end
theorem EB:qq .non .bl=false:=rfl
theorem Dj:qq .non .int=false:=rfl
theorem Dl:qq .non .str=false:=rfl
theorem DV:qq .non .lst=false:=rfl
theorem De:qq .non .tup=false:=rfl
theorem GP:qq .bl .bl=true:=rfl
theorem FP:qq .bl .int=true:=rfl
theorem Fw:qq .bl .str=false:=rfl
theorem Fx:qq .bl .lst=false:=rfl
theorem Ft:qq .bl .tup=false:=rfl
theorem EV:qq .int .bl=false:=rfl
theorem Dk:qq .int .int=true:=rfl
theorem Du:qq .int .str=false:=rfl
theorem DR:qq .int .lst=false:=rfl
theorem C8:qq .int .tup=false:=rfl
theorem FN:qq .str .bl=false:=rfl
theorem Dd:qq .str .int=false:=rfl
theorem Df:qq .str .str=true:=rfl
theorem DB:qq .str .lst=false:=rfl
theorem DP:qq .str .tup=false:=rfl
theorem Fy:qq .lst .bl=false:=rfl
theorem Di:qq .lst .int=false:=rfl
theorem DI:qq .lst .str=false:=rfl
theorem DQ:qq .lst .lst=true:=rfl
theorem Dp:qq .lst .tup=false:=rfl
theorem FF:qq .tup .bl=false:=rfl
theorem Dt:qq .tup .int=false:=rfl
theorem Dy:qq .tup .str=false:=rfl
theorem Dw:qq .tup .lst=false:=rfl
theorem Dm:qq .tup .tup=true:=rfl
theorem Fi:qq .dct .bl=false:=rfl
theorem DW:qq .dct .int=false:=rfl
theorem DG:qq .dct .str=false:=rfl
theorem Do:qq .dct .lst=false:=rfl
theorem C9:qq .dct .tup=false:=rfl
theorem JJ {K:PySem.W.Frag} {H:Hp} {k:Kn}:Kd K H .non k=(k=.non):=rfl
theorem KW {K:PySem.W.Frag} {H:Hp} {k:Kn} {b:Bool}:Kd K H (.bl b) k=(k=.bl):=rfl
theorem JV {K:PySem.W.Frag} {H:Hp} {k:Kn} {i:Int}:Kd K H (.int i) k=(k=.int):=rfl
theorem JQ {K:PySem.W.Frag} {H:Hp} {k:Kn} {z:Str}:Kd K H (.str z) k=(k=.str):=rfl
theorem Kd.tup {K:PySem.W.Frag} {H:Hp} {a:Addr} {xs:List V} (h:SqT K H a xs):Kd K H (.ref a) .tup:=.inr (.inl ⟨rfl,xs,h⟩)
theorem Kd.lst {K:PySem.W.Frag} {H:Hp} {a:Addr} {xs:List V} (h:SqL K H a xs):Kd K H (.ref a) .lst:=.inl ⟨rfl,xs,h⟩
theorem EA:vW .non .non=true:=rfl
theorem Fd {x2:Int}:vW .non (.int x2)=true:=rfl
theorem FD {x1:Int}:vW (.int x1) .non=true:=rfl
theorem G3 {x2:Bool}:vW .non (.bl x2)=true:=rfl
theorem GK {x1:Bool}:vW (.bl x1) .non=true:=rfl
theorem FW {x2:Str}:vW .non (.str x2)=true:=rfl
theorem EE {x1:Str}:vW (.str x1) .non=true:=rfl
theorem ER {x1:Int} {x2:Int}:vW (.int x1) (.int x2)=true:=rfl
theorem Ik {x1:Bool} {x2:Bool}:vW (.bl x1) (.bl x2)=true:=rfl
theorem EY {x1:Str} {x2:Str}:vW (.str x1) (.str x2)=true:=rfl
theorem Ez {x1:Int} {x2:Str}:vW (.int x1) (.str x2)=true:=rfl
theorem EK {x1:Str} {x2:Int}:vW (.str x1) (.int x2)=true:=rfl
theorem Gn {x1:Bool} {x2:Str}:vW (.bl x1) (.str x2)=true:=rfl
theorem G1 {x1:Str} {x2:Bool}:vW (.str x1) (.bl x2)=true:=rfl
theorem cxK {CX:CXT} {P:Program} {w:World} {K:PySem.W.Frag} {mg:Str→Option Value} {base:Heap} {N:List Str} {qual:Str} {scope:Scope} {f:Addr} {cd:Value} {A:Around} {outer:List Env} {s:Shared} {H:Hp} {E:XK} :
  (zY CX P w K mg base N qual scope f cd A outer s H E).K=K:=rfl
theorem qZ:bootBuiltins "len"=some (.builtin "len"):=by decide +kernel
theorem FI:bootBuiltins "max"=some (.builtin "max"):=by decide +kernel
theorem qU:bootBuiltins "isinstance"=some (.builtin "isinstance"):=by decide +kernel
theorem IR:bootBuiltins "int"=some (.type "int"):=by decide +kernel
theorem GG:bootBuiltins "bool"=some (.type "bool"):=by decide +kernel
theorem Fk:bootBuiltins "str"=some (.type "str"):=by decide +kernel
theorem x9:bootBuiltins "list"=some (.type "list"):=by decide +kernel
theorem wL:bootBuiltins "tuple"=some (.type "tuple"):=by decide +kernel
theorem zu:bootBuiltins "all"=some (.builtin "all"):=by decide +kernel
theorem KU:bootBuiltins "any"=some (.builtin "any"):=by decide +kernel
theorem KQ:bootBuiltins "set"=some (.type "set"):=by decide +kernel
theorem CZ:bootBuiltins "sorted"=some (.builtin "sorted"):=by decide +kernel
structure Mg (mg:Str→Option Value):Prop where
 m_len:mg "len"=none
 m_range:mg "range"=none
 m_abs:mg "abs"=none
 m_max:mg "max"=none
 m_min:mg "min"=none
 m_isinstance:mg "isinstance"=none
 m_int:mg "int"=none
 m_bool:mg "bool"=none
 m_str:mg "str"=none
 m_list:mg "list"=none
 m_tuple:mg "tuple"=none
 m_sum:mg "sum"=none
 m_all:mg "all"=none
 m_enumerate:mg "enumerate"=none
 m_zip:mg "zip"=none
 m_ValueError:mg "ValueError"=none
 m_any:mg "any"=none
 m_set:mg "set"=none
 m_sorted:mg "sorted"=none
end L2
set_option maxHeartbeats 1000000
namespace L2
open PySem PySem.Spec PyProof.Rows
section
variable {prog:Program} {w:World} {A:Around} {R:Result→Shared→Prop} {s:Shared}
theorem DA {elt target iter:Expr} {ifs:List Expr} {scope:Scope} {pos:Pos} {it acc:Value} {env:Env} (I:Nat→Shared→Prop)
  (turn:∀ n s,I n s→wpAny (model prog w) A (pyNext it) (fun r s₁=>match r with
   | none=>R (.ok .next) s₁
   | some v=>wpAny (model prog w) A (letOwnedTupleGo target it v) (fun _ s₁'=>wpAny (model prog w) A (assign target env v) (fun _ s₂ =>
     wpAny (model prog w) A (forIn ifs true fun c r=>if r=true then do let ok ← isTrue c env (eval c env); pure (ForInStep.yield ok) else pure (ForInStep.yield r)) (fun ok s₃ =>
      if ok=true then wpAny (model prog w) A (eval elt env) (fun x s₄ =>
       wpAny (model prog w) A (call (.builtin "list.append") [acc,x]) (fun _ s₅=>∃ m,m<n∧I m s₅) (fun _ _=>False) s₄) (fun _ _=>False) s₃
      else ∃ m,m<n∧I m s₃) (fun _ _=>False) s₂) (fun _ _=>False) s₁') (fun _ _=>False) s₁) (fun _ _=>False) s)
  (n:Nat) (h:I n s) :
  codeAny (model prog w) A (.compLoop (.ListComp elt [⟨target,iter,ifs,0⟩] scope pos) 0 it acc env) R s:=by
 refine codeAny_loop rfl I (fun n s hI=>?_) n h
 show wpAny _ A ((compTurn (.ListComp elt [⟨target,iter,ifs,0⟩] scope pos) 0 it acc env).onRaise (fun x=>do noteFrame x env; theTreesLotGoes x)) _ _ s
 refine wpAny_noted ?_
 rw[compTurn_list]
 refine wpAny_bind (wpAny_standAt (wpAny_bind (wpAny_mono (turn n s hI) (fun r s₁ h₁=>?_) fun _ _ h'=>h'.elim)))
 cases r with
 | none=>exact wpAny_pure h₁
 | some v =>
  refine wpAny_bind (wpAny_mono h₁ (fun _ s₁' h₁'=>wpAny_bind (wpAny_mono h₁' (fun _ s₂ h₂=>wpAny_bind (wpAny_mono h₂ (fun ok s₃ h₃=>?_) fun _ _ h'=>h'.elim)) fun _ _ h'=>h'.elim)) fun _ _ h'=>h'.elim)
  cases ok with
  | false=>exact wpAny_pure ⟨rfl,h₃⟩
  | true =>
   exact wpAny_bind (wpAny_bind (wpAny_mono h₃ (fun x s₄ h₄=>wpAny_bind (wpAny_mono h₄ (fun _ s₅ h₅=>wpAny_pure (wpAny_pure ⟨rfl,h₅⟩)) fun _ _ h'=>h'.elim)) fun _ _ h'=>h'.elim))
end
noncomputable def blk (X:Cx) (scope:Scope) (cl:List (Str×Addr)) (N':List Str) (s₀:Shared) (H₀:Hp) (C:Addr) (pn:List (Addr×Obj)) (ex:List Addr):Cx where
 prog:=X.prog
 w:=X.w
 K:=X.K
 mg:=X.mg
 base:=X.base
 A:=X.A
 N:=N'
 s₀:=s₀
 H₀:=H₀
 env:=compEnvC scope cl C X.env
 outer:=X.stack
 stack:=X.stack
 ex:=ex
 fn:=fun _=>false
 calm:=X.calm
 pn:=pn
 xe:=fun _ _=>False
def AM (X:Cx) (ifs:List Expr) (t:TT):Prop :=
 ∀ (pins:List (Addr×Obj)) (s:Shared) (σ:St) (H:Hp) (Q:Bool→Hp→Prop),Inv X pins σ H s→t σ H Q →
  wpAny (model X.prog X.w) X.A (forIn ifs true fun c r=>if r=true then do let ok ← isTrue c X.env (eval c X.env); pure (ForInStep.yield ok) else pure (ForInStep.yield r)) (TP X pins σ Q) X.xe s
def HA:TT:=fun _ H Q=>Q true H
theorem uU {X:Cx}:AM X [] HA:=fun _ _ _ H _ I h=>wpAny_tests_nil ⟨H,I,h⟩
theorem wk {X:Cx} {c:Expr} {t:TT} (h:PT X c t):AM X [c] t:=fun pins s σ H Q I q=>wpAny_tests_one (h pins s σ H Q I q)
noncomputable def slots (ix:List Nat) (σ:St):St:=ix.map fun j=>(σ[j]?).getD none
def BN (D:Addr) (J:It) (g:TG) (tt:TT) (te:TE) (Q:VK) (W:Nat→Nat→St→Hp→Prop):Prop :=
 ∀ i m τ H2,W i m τ H2→(J.stop i H2∧Q (.ref D) H2)∨(J.go i H2∧∀ x H3,J.yld i H2 x H3→g x τ H3 fun τ' H3'=>tt τ' H3' fun b H4 =>
  if b=true then te τ' H4 fun v H5=>∃ ys,H5 D=some (.lst ys)∧ys.length<sizeLine∧∃ m',m'<m∧W (i+1) m' τ' (upd H5 D (.lst (ys++[v]))) else ∃ m',m'<m∧W (i+1) m' τ' H4)
def EO (ix:List Nat) (nl:Nat) (wi:TI) (g:TG) (tt:TT) (te:TE):TE:=fun σ H Q=>wi σ H fun J H1=>∀ D,H1 D=none →
 ∃ W:Nat→Nat→St→Hp→Prop,(∃ m,W 0 m (slots ix σ++List.replicate nl none) (upd H1 D (.lst [])))∧BN D J g tt te Q W
structure CompOk (X:Cx) (scope:Scope) (cl:List (Str×Addr)) (N':List Str) (ix:List Nat) (nl:Nat):Prop where
 clos:closureFor scope X.env=pure cl
 sub:∀ y c,cl.lookup y=some c→X.env.cells.lookup y=some c
 has:∀ p∈(relabel scope X.env).names,(p.2=.cell∨p.2=.free)→(cl.lookup p.1).isSome=true
 cell:∀ y∈scope.names,y.2≠.cell
 kind:scope.kind=.function
 names:∀ y∈scope.names,y.2=.local→scope.names.lookup y.1=some .local
 len:N'.length=ix.length+nl
 out:∀ (i j:Nat) (y:Str),ix[i]?=some j→N'[i]?=some y→X.N[j]?=some y∧(X.env.kindOf y=some .cell∨X.env.kindOf y=some .free)∧((relabel scope X.env).names.lookup y=some .cell∨(relabel scope X.env).names.lookup y=some .free)
theorem fm0 {α:Type} {P:α→Prop}:∀ p∈([]:List α),P p:=fun _ h=>nomatch h
theorem fm1 {α:Type} {P:α→Prop} {a:α} {l:List α} (h:P a) (r:∀ p∈l,P p):∀ p∈a::l,P p:=List.forall_mem_cons.mpr ⟨h,r⟩
def OutsOk (X:Cx) (scope:Scope):List Nat→List Str→Prop
 | [],_=>True
 | j::r,y::t=>(X.N[j]?=some y∧(X.env.kindOf y=some .cell∨X.env.kindOf y=some .free)∧((relabel scope X.env).names.lookup y=some .cell∨(relabel scope X.env).names.lookup y=some .free))∧OutsOk X scope r t
 | _::_,[]=>False
theorem OutsOk.at {X:Cx} {scope:Scope}:∀ {ix:List Nat} {N:List Str},OutsOk X scope ix N→∀ (i j:Nat) (y:Str),ix[i]?=some j→N[i]?=some y→X.N[j]?=some y∧(X.env.kindOf y=some .cell∨X.env.kindOf y=some .free)∧((relabel scope X.env).names.lookup y=some .cell∨(relabel scope X.env).names.lookup y=some .free)
 | [],_,_,i,j,y,h1,_=>by simp at h1
 | _::_,[],h,_,_,_,_,_=>h.elim
 | _::_,_::_,h,0,j,y,h1,h2=>by
  simp at h1 h2
  subst h1 h2
  exact h.1
 | _::_,_::_,h,i+1,j,y,h1,h2=>OutsOk.at h.2 i j y (by simpa using h1) (by simpa using h2)
theorem CompOk.make {X:Cx} {scope:Scope} {cl:List (Str×Addr)} {N':List Str} {ix:List Nat} {nl:Nat} (clos:closureFor scope X.env=pure cl) (sub:∀ p∈cl,X.env.cells.lookup p.1=some p.2)
  (has:((relabel scope X.env).names.all fun p=>!(p.2 == .cell || p.2 == .free) || (cl.lookup p.1).isSome)=true) (cell:∀ y∈scope.names,y.2≠.cell) (kind:scope.kind=.function)
  (names:∀ y∈scope.names,y.2=.local→scope.names.lookup y.1=some .local) (len:N'.length=ix.length+nl) (out:OutsOk X scope ix N'):CompOk X scope cl N' ix nl :=
 ⟨clos,fun y c h=>sub (y,c) (PySem.mem_of_lookup h),fun p hp hc=>by
  have q:=List.all_eq_true.mp has p hp
  rcases hc with e | e <;> (rw[e] at q; simpa using q),cell,kind,names,len,out.at⟩
section
variable {X:Cx} {pins:List (Addr×Obj)} {σ:St} {H:Hp} {s:Shared}
theorem Gm {scope:Scope} {cl:List (Str×Addr)} {N':List Str} {ix:List Nat} {nl:Nat} {C:Addr} {fp:List Addr} (O:CompOk X scope cl N' ix nl) (I:Inv X pins σ H s) (hC:s.heap.objs.size≤C) (f:∀ b∈fp,FpOk X pins H b) (lt:∀ b∈fp,b<s.heap.objs.size) :
  (blk X scope cl N' s H C (X.pn++pins) fp).Ok where
 mod:=I.ok.mod
 kind:=O.kind
 glob:=I.ok.glob
 blt:=I.ok.blt
 above:=hC
 inj:=fun x y c h1 h2=>I.ok.inj x y c (O.sub x c h1) (O.sub y c h2)
 has:=fun x hx=>by
  have hx':(relabel scope X.env).names.lookup x=some .cell∨(relabel scope X.env).names.lookup x=some .free:=hx
  rcases hx' with h | h
  ·exact Option.isSome_iff_exists.mp (O.has _ (PySem.mem_of_lookup h) (.inl rfl))
  ·exact Option.isSome_iff_exists.mp (O.has _ (PySem.mem_of_lookup h) (.inr rfl))
 cab:=fun x c h=>nomatch (show false=true from h)
 hd:=I.ok.hd
 frames:=I.ok.frames
 stk:=.inl rfl
 exf:=fun b hb=>⟨Nat.ne_of_lt (Nat.lt_of_lt_of_le (lt b hb) hC),fun x c h=>(f b hb).2.2.2.2.1 x c (O.sub x c h)⟩
 bs:=I.bs
 bsz:=Nat.le_trans I.ok.bsz I.sz
 noex:=fun b o e hb=>by
  rcases (f b hb).2.2.2.1 with z | z
  ·exact I.ok.noex b o e z
  ·exact absurd (Nat.lt_of_lt_of_le (Heap.lt_size e) (Nat.le_trans I.ok.bsz z)) (Nat.lt_irrefl _)
 exfs:=fun b hb z=>by
  rcases List.mem_cons.mp (I.stkSub b z) with e | e
  ·exact (f b hb).2.1 e
  ·exact (f b hb).2.2.1 e
 funs:=I.stack
 frf:=I.stkFree
theorem IY {scope:Scope} {cl:List (Str×Addr)} {N':List Str} {ix:List Nat} {nl:Nat} {C:Addr} {fp:List Addr} {h':Heap} {t':Nat} (O:CompOk X scope cl N' ix nl) (I:Inv X pins σ H s) (hC:s.heap.objs.size≤C) (f:∀ b∈fp,FpOk X pins H b) (lt:∀ b∈fp,b<s.heap.objs.size)
  (hn:h'.Ns C fun _=>none) (k:∀ b o,s.heap.get? b=some o→h'.get? b=some o) :
  Inv (blk X scope cl N' s H C (X.pn++pins) fp) [] (slots ix σ++List.replicate nl none) H { s with heap:=h',toks:=t' }:=by
 refine⟨Gm O I hC f lt,rfl,I.bare,Un.kept k,⟨_,hn,fun i x v e1 e2 e3=>?_⟩,fun x c e=>?_,I.hok.fresh hC,fun x c e=>I.freeC x c (O.sub x c e),fun p hp=>?_,I.hok.kept k,?_⟩
 ·have e1:N'[i]?=some x:=e1
  have hi:i<ix.length:=by
   by_cases hi:i<ix.length
   ·exact hi
   ·rw[List.getElem?_append_right (by simpa [slots] using hi)] at e2
    rw[List.getElem?_replicate] at e2
    split at e2 <;> cases e2
  have e2':(σ[ix[i]]?).getD none=some v:=by
   rw[List.getElem?_append_left (by simpa [slots] using hi)] at e2
   simpa [slots,hi] using e2
  have e4:σ[ix[i]]?=some (some v):=by
   cases q:σ[ix[i]]? with
   | none=>rw[q] at e2'; cases e2'
   | some z=>rw[q] at e2'; exact congrArg some e2'
  obtain⟨o1,o2,o3⟩:=O.out i ix[i] x (by simp [hi]) e1
  obtain⟨m,hm,hl⟩:=I.loc
  have vis:Vis X.env.scope x:=by
   rcases o2 with z | z
   ·exact .inr (.inl z)
   ·exact .inr (.inr z)
  obtain⟨u,r,l⟩:=hl _ x v o1 e4 vis
  rcases l with ⟨z,_⟩ | ⟨_,c,hc,o,ho,hd⟩
  ·rcases o2 with y | y <;> (rw[y] at z; cases z)
  ·obtain⟨c',hc'⟩:=(Gm O I hC f lt).has x o3
   have z:=O.sub x c' hc'
   rw[hc] at z
   cases z
   exact⟨u,r,.inr ⟨o3,c,hc',o,k _ _ ho,hd⟩⟩
 ·obtain⟨v,q⟩:=I.cell x c (O.sub x c e)
  exact⟨v,by obtain⟨o,ho,hd⟩:=q; exact⟨o,k _ _ ho,hd⟩⟩
 ·have hp':p∈X.pn++pins:=by
   have z:p∈(X.pn++pins)++[]:=hp
   rwa [List.append_nil] at z
  obtain⟨a1,a2,a3,a4,a5⟩:=I.pin p hp'
  refine⟨k _ _ a1,a2,Nat.ne_of_lt (Nat.lt_of_lt_of_le (Heap.lt_size a1) hC),fun z=>?_,a5⟩
  rcases List.mem_cons.mp (I.stkSub p.1 z) with e | e
  ·exact a3 e
  ·exact a4 e
 ·show (slots ix σ++List.replicate nl none).length=N'.length
  rw[List.length_append,List.length_replicate,O.len]
  simp [slots]
theorem Hw {scope:Scope} {cl:List (Str×Addr)} {N':List Str} {C:Addr} {fp:List Addr} {s':Shared} {τ:St} {H':Hp} (I:Inv X pins σ H s) (f:∀ b∈fp,FpOk X pins H b)
  (J:Inv (blk X scope cl N' s H C (X.pn++pins) fp) [] τ H' s'):Inv X pins σ H' s' :=
 I.call' J.os J.base J.hok J.bare fun b hb=>⟨(f b hb).2.2.2.1,(f b hb).2.1,(f b hb).2.2.2.2.1,(f b hb).2.2.2.2.2⟩
theorem Inv.letgo {C:Addr} {s':Shared} {h':Heap} (J:Inv X pins σ H s') (hsz:X.s₀.heap.objs.size≤C) (hL:C≠X.env.locals) (hc:∀ x c,X.env.cells.lookup x=some c→c≠C) (hp:∀ p∈X.pn++pins,p.1≠C) (hH:H C=none)
  (sb:Heap.SameBut C s'.heap h'):Inv X pins σ H { s' with heap:=h' } :=
 J.turned (t':=s'.toks) (it:=C) (fun b o hb e=>sb.extBut b o hb e) hH hL (.inr hsz) hc hp
theorem HM {elt iter tg:Expr} {ifs:List Expr} {scope:Scope} {pos:Pos} {cl:List (Str×Addr)} {N':List Str} {C D it:Addr} {fp:List Addr} {tn:Nat→Heap→Prop} {J:It} {g:TG} {tt:TT} {te:TE} {s₄:Shared} {W:Nat→Nat→St→Hp→Prop} {Q:VK}
  {τ:St} {H₀:Hp} {s₃:Shared} {pn:List (Addr×Obj)} {m0:Nat} {R:Result→Shared→Prop} (hc:X.calm=true) (T:Turn X.prog X.w X.K tg J fp it tn)
  (f:∀ H',(∀ b∈fp,H' b=none)→∀ b∈fp,FpOk (blk X scope cl N' s₃ H₀ C pn fp) [] H' b)
  (hg:PG (blk X scope cl N' s₃ H₀ C pn fp) tg g) (ht:AM (blk X scope cl N' s₃ H₀ C pn fp) ifs tt) (he:PE (blk X scope cl N' s₃ H₀ C pn fp) elt te)
  (I4:Inv (blk X scope cl N' s₃ H₀ C pn fp) [] τ H s₄) (st:tn 0 s₄.heap) (fr:∀ b∈fp,H b=none) (w0:W 0 m0 τ H) (hW:BN D J g tt te Q W)
  (fin:∀ τ' H' s',Inv (blk X scope cl N' s₃ H₀ C pn fp) [] τ' H' s'→Q (.ref D) H'→R (.ok .next) s') :
  codeAny (model X.prog X.w) X.A (.compLoop (.ListComp elt [⟨tg,iter,ifs,0⟩] scope pos) 0 (.ref it) (.ref D) (compEnvC scope cl C X.env)) R s₄:=by
 refine DA (fun n s'=>∃ i τ' H',Inv (blk X scope cl N' s₃ H₀ C pn fp) [] τ' H' s'∧tn i s'.heap∧(∀ b∈fp,H' b=none)∧W i n τ' H') ?_ m0 ⟨0,τ,H,I4,st,fr,w0⟩
 rintro n s5 ⟨i,τ5,H5,I5,st5,fr5,w5⟩
 rcases hW i n τ5 H5 w5 with ⟨stop,q⟩ | ⟨go,step⟩
 ·refine thn (T.done (blk X scope cl N' s₃ H₀ C pn fp) rfl rfl rfl hc i [] s5 τ5 H5 (fun _ _=>False) I5 (f H5 fr5) st5 stop) fun r s6 ⟨hr,I6⟩=>?_
  subst hr
  exact fin τ5 H5 s6 I6 q
 ·refine thn (T.item (blk X scope cl N' s₃ H₀ C pn fp) rfl rfl rfl hc i [] s5 τ5 H5 (fun _ _=>False) I5 (f H5 fr5) st5 go) fun r s6 ⟨u,hr,h6⟩=>?_
  subst hr
  refine thn h6 fun _ s7 ⟨x,H7,I7,r7,y7,st7,fr7⟩=>?_
  have I7':=I7.pinned (f H7 fr7) (T.obj _ _ st7)
  have keep:∀ {τ8:St} {H8:Hp} {s8:Shared},Inv (blk X scope cl N' s₃ H₀ C pn fp) ([]++yY fp s7.heap) τ8 H8 s8→Inv (blk X scope cl N' s₃ H₀ C pn fp) [] τ8 H8 s8∧tn (i+1) s8.heap∧∀ b∈fp,H8 b=none:=fun {τ8 H8 s8} I8=>by
   refine⟨I8.unpinned,T.keep _ _ _ st7 fun b hb o e=>(I8.pin (b,o) (List.mem_append_right _ (List.mem_append_right _ (xy hb e)))).1,fun b hb=>?_⟩
   obtain⟨o,e,d⟩:=T.obj _ _ st7 b hb
   exact (I8.pin (b,o) (List.mem_append_right _ (List.mem_append_right _ (xy hb e)))).2.1
  refine thn (hg _ s7 τ5 H7 x u _ I7' r7 (step x H7 y7)) fun _ s8 ⟨τ8,H8,I8,q8⟩=>?_
  refine thn (ht _ s8 τ8 H8 _ I8 q8) fun b s9 ⟨H9,I9,q9⟩=>?_
  cases b with
  | false =>
   obtain⟨m',hm,w'⟩:=q9
   obtain⟨k1,k2,k3⟩:=keep I9
   exact⟨m',hm,i+1,τ8,H9,k1,k2,k3,w'⟩
  | true =>
   refine thn (he _ s9 τ8 H9 _ I9 q9) fun y s10 ⟨v,H10,I10,r10,ys,hD,hl,m',hm,w'⟩=>?_
   refine thn (we _ s10 τ8 H10 (.ref D) [v] (.ref D) [y] (fun _ H11=>W (i+1) m' τ8 H11) I10 rfl (.cons r10 .nil) ⟨D,ys,v,rfl,rfl,hD,hl,w'⟩) fun z s11 ⟨_,H11,I11,_,w11⟩=>?_
   obtain⟨k1,k2,k3⟩:=keep I11
   exact⟨m',hm,i+1,τ8,H11,k1,k2,k3,w11⟩
end
section
variable {X:Cx} {elt iter tg:Expr} {ifs:List Expr} {scope:Scope} {pos:Pos} {cl:List (Str×Addr)} {N':List Str} {ix:List Nat} {nl:Nat} {wi:TI} {g:TG} {tt:TT} {te:TE}
structure Left (X:Cx) (pins:List (Addr×Obj)) (σ:St) (C:Addr) (H:Hp) (s:Shared):Prop where
 inv:Inv X pins σ H s
 ns:∃ m,s.heap.Ns C m
 sz:X.s₀.heap.objs.size≤C
 loc:C≠X.env.locals
 cel:∀ x c,X.env.cells.lookup x=some c→c≠C
 pin:∀ p∈X.pn++pins,p.1≠C
 non:H C=none
theorem C4 {pins:List (Addr×Obj)} {σ:St} {H1:Hp} {s2:Shared} {Q:VK} {it:Addr} {fp:List Addr} {tn:Nat→Heap→Prop} {J:It} {RR:Value→Addr→Result→Shared→Prop} {E:Value→Shared→Prop}
  (hc:X.calm=true) (O:CompOk X scope cl N' ix nl) (hg:∀ s₀ H₀ C pn ex,PG (blk X scope cl N' s₀ H₀ C pn ex) tg g) (ht:∀ s₀ H₀ C pn ex,AM (blk X scope cl N' s₀ H₀ C pn ex) ifs tt)
  (he:∀ s₀ H₀ C pn ex,PE (blk X scope cl N' s₀ H₀ C pn ex) elt te) (I1:Inv X pins σ H1 s2) (T:Turn X.prog X.w X.K tg J fp it tn) (st:tn 0 s2.heap) (f1:∀ b∈fp,FpOk X pins H1 b)
  (q:∀ D,H1 D=none→∃ W:Nat→Nat→St→Hp→Prop,(∃ m,W 0 m (slots ix σ++List.replicate nl none) (upd H1 D (.lst [])))∧BN D J g tt te Q W)
  (fin:∀ D C H' s',Left X pins σ C H' s'→Q (.ref D) H'→RR (.ref D) C (.ok .next) s') :
  wpAny (model X.prog X.w) X.A (newList []) (fun acc s₃=>wpAny (model X.prog X.w) X.A (newFunctionEnv scope X.env.globals cl [] X.env.qual none .none (some X.env)) (fun cenv s₄ =>
   codeAny (model X.prog X.w) X.A (.compStart (.ListComp elt [⟨tg,iter,ifs,0⟩] scope pos) 0 (.ref it) acc { cenv with scope:=relabel scope X.env }) (RR acc cenv.locals) s₄) E s₃) E s2:=by
 refine wpAny_newObj_type (wpAny_newFunctionEnv O.cell (by intro y hy; simp at hy) (fun h₁ hns₁ hsb₁=>?_) O.kind)
 have hf:H1 s2.heap.objs.size=none:=I1.hok.fresh (Nat.le_refl _)
 obtain⟨W,⟨m0,w0⟩,hW⟩:=q s2.heap.objs.size hf
 have lt:∀ b∈fp,b<s2.heap.objs.size:=fun b hb=>by
  obtain⟨o,e,_⟩:=T.obj _ _ st b hb
  exact Heap.lt_size e
 have I3:Inv X pins σ (upd H1 s2.heap.objs.size (.lst [])) { s2 with heap:=s2.heap.push { cls:=.type "list",data:=.seq ([]:List Value).toArray } } :=
  I1.laid (t':=s2.toks) (fun b u e=>Heap.get?_push_of_some _ e) (Nat.le_refl _) ⟨Nat.zero_le _,[],0,.nil,Heap.get?_push_size _ rfl⟩
 have f3:∀ b∈fp,FpOk X pins (upd H1 s2.heap.objs.size (.lst [])) b:=fun b hb=>⟨by rw[gS (Nat.ne_of_lt (lt b hb))]; exact (f1 b hb).1,(f1 b hb).2⟩
 have sz:(s2.heap.push { cls:=.type "list",data:=.seq ([]:List Value).toArray }).objs.size=s2.heap.objs.size+1:=Heap.size_push ..
 have lt3:∀ b∈fp,b<(s2.heap.push { cls:=.type "list",data:=.seq ([]:List Value).toArray }).objs.size:=fun b hb=>by rw[sz]; exact Nat.lt_succ_of_lt (lt b hb)
 have k3:∀ b o,(s2.heap.push { cls:=.type "list",data:=.seq ([]:List Value).toArray }).get? b=some o→h₁.get? b=some o:=fun b o e=>hsb₁.extBut b o (Nat.ne_of_lt (Heap.lt_size e)) (Heap.get?_push_of_some _ e)
 have I4:=IY (t':=s2.toks+([]:List (Str×Value)).length) O I3 (Nat.le_refl _) f3 lt3 hns₁ k3
 have st4:tn 0 h₁:=T.keep _ _ _ st fun b hb o e=>k3 b o (Heap.get?_push_of_some _ e)
 have fB:∀ H',(∀ b∈fp,H' b=none)→∀ b∈fp,FpOk (blk X scope cl N' { s2 with heap:=s2.heap.push { cls:=.type "list",data:=.seq ([]:List Value).toArray } } (upd H1 s2.heap.objs.size (.lst [])) (s2.heap.push { cls:=.type "list",data:=.seq ([]:List Value).toArray }).objs.size (X.pn++pins) fp) [] H' b:=fun H' hn b hb=>by
  refine⟨hn b hb,Nat.ne_of_lt (lt3 b hb),?_,.inl hb,fun x c h=>(f1 b hb).2.2.2.2.1 x c (O.sub x c h),fun p hp=>?_⟩
  ·intro z
   rcases List.mem_cons.mp (I3.stkSub b z) with e | e
   ·exact (f1 b hb).2.1 e
   ·exact (f1 b hb).2.2.1 e
  ·have hp':p∈X.pn++pins:=by
    have z:p∈(X.pn++pins)++[]:=hp
    rwa [List.append_nil] at z
   exact (f1 b hb).2.2.2.2.2 p hp'
 have loop:=HM (pos:=pos) (iter:=iter) (R:=RR (.ref s2.heap.objs.size) (s2.heap.push { cls:=.type "list",data:=.seq ([]:List Value).toArray }).objs.size) hc T fB (hg _ _ _ _ _) (ht _ _ _ _ _) (he _ _ _ _ _) I4 st4 (fun b hb=>(f3 b hb).1) w0 hW (fun τ' H' s' J' qf=>by
  obtain⟨m,hm,_⟩:=J'.loc
  refine fin _ _ H' s' ⟨Hw I3 f3 J',⟨m,hm⟩,I3.sz,Nat.ne_of_gt I3.lt,fun x c e z=>?_,fun p hp z=>?_,J'.free⟩ qf
  ·obtain⟨v,o,ho,_⟩:=I3.cell x c e
   exact absurd (Heap.lt_size ho) (by rw[z]; exact Nat.lt_irrefl _)
  ·exact absurd (Heap.lt_size (I3.pin p hp).1) (by rw[z]; exact Nat.lt_irrefl _))
 exact codeAny_compStart_list loop (T.self _ 0 _ _ _ st4 loop)
theorem rZ (hc:X.calm=true) (O:CompOk X scope cl N' ix nl) (hi:PI X tg iter wi) (hg:∀ s₀ H₀ C pn ex,PG (blk X scope cl N' s₀ H₀ C pn ex) tg g) (ht:∀ s₀ H₀ C pn ex,AM (blk X scope cl N' s₀ H₀ C pn ex) ifs tt)
  (he:∀ s₀ H₀ C pn ex,PE (blk X scope cl N' s₀ H₀ C pn ex) elt te) (hs:∀ x,foldedSetIterable iter X.env x=pure x:=by intro _; rfl) :
  PE X (.ListComp elt [⟨tg,iter,ifs,0⟩] scope pos) (EO ix nl wi g tt te):=by
 intro pins s σ H Q I h
 rw[eval_ListComp]
 refine wpAny_comprehension_free (use:=none) rfl hs O.clos O.kind O.names (thn (hi pins s σ H _ I h) fun xv s1 h1=>thn h1 fun itv s2 h2=>?_)
 obtain⟨it,fp,tn,J,H1,rfl,I1,T,st,f1,q⟩:=h2
 refine C4 (RR:=fun acc C=>compPost (model X.prog X.w) X.A X.xe none (EP X pins σ Q) acc C) hc O hg ht he I1 T st f1 q (fun D C H' s' L qf=>?_)
 obtain⟨m,hm⟩:=L.ns
 exact⟨m,hm,fun h' sb=>⟨.ref D,H',L.inv.letgo L.sz L.loc L.cel L.pin L.non sb,rfl,qf⟩⟩
theorem yH {i:Nat} {y:Str} {py spos:Pos} (hN:X.N.Nodup) (hiy:X.N[i]?=some y) (hy:Loc X.env.scope y) (hc:X.calm=true) (O:CompOk X scope cl N' ix nl) (hi:PI X tg iter wi) (hg:∀ s₀ H₀ C pn ex,PG (blk X scope cl N' s₀ H₀ C pn ex) tg g)
  (ht:∀ s₀ H₀ C pn ex,AM (blk X scope cl N' s₀ H₀ C pn ex) ifs tt) (he:∀ s₀ H₀ C pn ex,PE (blk X scope cl N' s₀ H₀ C pn ex) elt te)
  (hsw:swapsWith (.ListComp elt [⟨tg,iter,ifs,0⟩] scope pos) (some (.Name y py)) spos.line X.env=pure true) (hs:∀ x,foldedSetIterable iter X.env x=pure x:=by intro _; rfl)
  (hf:X.fn y=true∨X.env.scope.names.lookup y=some .local:=by first | exact .inl rfl | exact .inr rfl | assumption) :
  PS X (.Assign [.Name y py] (.ListComp elt [⟨tg,iter,ifs,0⟩] scope pos) spos) (E8 (EO ix nl wi g tt te) (As i)):=by
 intro pins s σ H D0 I h
 rw[exec_Assign_Name_used _ _ _ _ hsw]
 refine wpAny_bind (wpAny_standAt (wpAny_bind ?_))
 show wpAny _ X.A (do let _ ← comprehension (.ListComp elt [⟨tg,iter,ifs,0⟩] scope pos) scope X.env _ (newList []) false (eval iter X.env) (some (assign (.Name y py) X.env))) _ _ s
 refine wpAny_bind (wpAny_mono (wpAny_comprehension_free (use:=some (assign (.Name y py) X.env)) (Q:=fun _ s'=>SP X pins D0 .next s') rfl hs O.clos O.kind O.names (thn (hi pins s σ H _ I h) fun xv s1 h1=>thn h1 fun itv s2 h2=>?_)) (fun _ s' hq=>wpAny_pure (wpAny_pure hq)) fun _ _ e=>e)
 obtain⟨it,fp,tn,J,H1,rfl,I1,T,st,f1,q⟩:=h2
 refine C4 (RR:=fun acc C=>compPost (model X.prog X.w) X.A X.xe (some (assign (.Name y py) X.env)) (fun _ s'=>SP X pins D0 .next s') acc C) hc O hg ht he I1 T st f1 q (fun D C H' s' L qf=>?_)
 obtain⟨m,hm⟩:=L.ns
 show wpAny _ X.A (assign (.Name y py) X.env (.ref D)) _ _ _
 refine wpAny_assign_Name (Bs L.inv hN hiy hy (v:=.ref D) rfl (fun s'' I'' z=>?_) hf)
 obtain⟨a,sb2,ha⟩:=z
 have ne:C≠a:=by
  rcases ha with e | e
  ·rw[e]; exact L.loc
  ·exact fun z=>L.cel _ a e z.symm
 refine⟨m,hm.at' fun o e=>sb2.extBut C o ne e,fun h' sb=>⟨_,H',I''.letgo L.sz L.loc L.cel L.pin L.non sb,qf⟩⟩
end
theorem JB {xs:List V} {its:List Value} (r:Vals xs its) {j:Nat} (h:j<its.length):∃ x,xs[j]?=some x∧RelV x its[j]:=by
 have hl:=r.length
 have hj:j<xs.length:=by exact Oz24 h hl
 obtain⟨u,e,rv⟩:=r.get (i:=j) (x:=xs[j]) (by simp [hj])
 have e2:its[j]?=some its[j]:=by simp [h]
 rw[e2] at e
 cases e
 exact⟨xs[j],by simp [hj],rv⟩
def wY (D:Addr) (g:TG) (tt:TT) (te:TE) (x:V) (τ:St) (H:Hp) (R:St→Hp→Prop):Prop:=g x τ H fun τ' H'=>tt τ' H' fun b H4 =>
 if b=true then te τ' H4 fun v H5=>∃ ys,H5 D=some (.lst ys)∧ys.length<sizeLine∧R τ' (upd H5 D (.lst (ys++[v]))) else R τ' H4
def wu (D:Addr) (J:It) (g:TG) (tt:TT) (te:TE) (Q:VK) (τ:St) (H:Hp):Prop:=∃ W:Nat→Nat→St→Hp→Prop,(∃ m,W 0 m τ H)∧BN D J g tt te Q W
theorem HN {ix:List Nat} {nl:Nat} {wi:TI} {g:TG} {tt:TT} {te:TE} {σ:St} {H:Hp} {Q:VK} :
  EO ix nl wi g tt te σ H Q=wi σ H fun J H1=>∀ D,H1 D=none→wu D J g tt te Q (slots ix σ++List.replicate nl none) (upd H1 D (.lst [])):=rfl
section
variable {K:PySem.W.Frag} {D a:Addr} {g:TG} {tt:TT} {te:TE} {Q:VK} {τ:St} {H:Hp}
theorem zF {lo:Int} {n:Nat} (Pv:Nat→St→Hp→Prop) (h0:Pv 0 τ H)
  (hs:∀ i τ H (R:St→Hp→Prop),i<n→Pv i τ H→(∀ τ' H',Pv (i+1) τ' H'→R τ' H')→wY D g tt te (.int (lo+i)) τ H R) (hd:∀ τ H,Pv n τ H→Q (.ref D) H):wu D (Itr lo n) g tt te Q τ H:=by
 refine⟨fun i m τ H=>m=n-i∧i≤n∧Pv i τ H,⟨n,by simp,Nat.zero_le _,h0⟩,?_⟩
 rintro i m τ H2 ⟨rfl,hi,p⟩
 by_cases hlt:i<n
 ·refine .inr ⟨hlt,fun x H' y=>?_⟩
  obtain⟨e,y⟩:=y
  subst e y
  exact hs i τ _ (fun τ' H'=>∃ m',m'<n-i∧m'=n-(i+1)∧i+1≤n∧Pv (i+1) τ' H') hlt p fun τ' H' p'=>⟨_,by exact Oz3 hlt,rfl,hlt,p'⟩
 ·have e:i=n:=by exact Oz8 hi hlt
  subst e
  exact .inl ⟨Nat.le_refl _,hd τ H2 p⟩
theorem se (xs:List V) (Pv:Nat→St→Hp→Prop) (h0:Pv 0 τ H) (hl:∀ i τ H,i≤xs.length→Pv i τ H→SqL K H a xs)
  (hs:∀ i x τ H (R:St→Hp→Prop),xs[i]?=some x→Pv i τ H→(∀ τ' H',Pv (i+1) τ' H'→R τ' H')→wY D g tt te x τ H R) (hd:∀ τ H,Pv xs.length τ H→Q (.ref D) H):wu D (Itl K a) g tt te Q τ H:=by
 refine⟨fun i m τ H=>m=xs.length-i∧i≤xs.length∧Pv i τ H,⟨xs.length,by simp,Nat.zero_le _,h0⟩,?_⟩
 rintro i m τ H2 ⟨rfl,hi,p⟩
 have q:=hl i τ H2 hi p
 by_cases hlt:i<xs.length
 ·have hx:xs[i]?=some xs[i]:=by simp [hlt]
  refine .inr ⟨⟨xs,_,q,hx⟩,fun x H' y=>?_⟩
  obtain⟨e,y⟩:=y
  subst e
  have e2:=y xs q
  rw[hx] at e2
  cases e2
  exact hs i _ τ _ (fun τ' H'=>∃ m',m'<xs.length-i∧m'=xs.length-(i+1)∧i+1≤xs.length∧Pv (i+1) τ' H') hx p fun τ' H' p'=>⟨_,by exact Oz3 hlt,rfl,hlt,p'⟩
 ·have e:i=xs.length:=by exact Oz8 hi hlt
  subst e
  exact .inl ⟨⟨xs,q,Nat.le_refl _⟩,hd τ H2 p⟩
theorem yX (xs:List V) (Pv:Nat→St→Hp→Prop) (h0:Pv 0 τ H) (hl:∀ i τ H,i≤xs.length→Pv i τ H→SqT K H a xs)
  (hs:∀ i x τ H (R:St→Hp→Prop),xs[i]?=some x→Pv i τ H→(∀ τ' H',Pv (i+1) τ' H'→R τ' H')→wY D g tt te x τ H R) (hd:∀ τ H,Pv xs.length τ H→Q (.ref D) H):wu D (Itt K a) g tt te Q τ H:=by
 refine⟨fun i m τ H=>m=xs.length-i∧i≤xs.length∧Pv i τ H,⟨xs.length,by simp,Nat.zero_le _,h0⟩,?_⟩
 rintro i m τ H2 ⟨rfl,hi,p⟩
 have q:=hl i τ H2 hi p
 by_cases hlt:i<xs.length
 ·have hx:xs[i]?=some xs[i]:=by simp [hlt]
  refine .inr ⟨⟨xs,_,q,hx⟩,fun x H' y=>?_⟩
  obtain⟨e,y⟩:=y
  subst e
  have e2:=y xs q
  rw[hx] at e2
  cases e2
  exact hs i _ τ _ (fun τ' H'=>∃ m',m'<xs.length-i∧m'=xs.length-(i+1)∧i+1≤xs.length∧Pv (i+1) τ' H') hx p fun τ' H' p'=>⟨_,by exact Oz3 hlt,rfl,hlt,p'⟩
 ·have e:i=xs.length:=by exact Oz8 hi hlt
  subst e
  exact .inl ⟨⟨xs,q,Nat.le_refl _⟩,hd τ H2 p⟩
end
section
variable {X:Cx} {K:PySem.W.Frag}
theorem HZ (h:X.K=K):IxR X (FE K):=by subst h; exact ix_list
theorem vq (h:X.K=K):IxR X (FJ K):=by subst h; exact ix_tup
end
section
variable {prog:Program} {w:World} {A:Around} {E:Value→Shared→Prop} {s:Shared}
theorem Ai {it l:Addr} {i:Nat} {items:Array Value} {x:Value} {Q:Value→Shared→Prop} (hit:s.heap.IsTupleIter it l i)
  (hl:s.heap.IsTuple l items) (hx:items[i]?=some x) (hQ:∀ h',h'.IsTupleIter it l (i+1)→Heap.SameBut it s.heap h'→Q x { s with heap:=h' }) :
  wpAny (model prog w) A (Builtin.SmallTypes.nextOf (.ref it)) Q E s:=by
 obtain⟨o,ho,hc,hd⟩:=id hit
 obtain⟨ol,hol,_,nl,hdl⟩:=hl
 unfold Builtin.SmallTypes.nextOf
 refine wpAny_bind (wpAny_callSpecial?_slot (name:=Str.ofString "__next__") hit.typeIs F.slot_tuple_iterator_next
  (wpAny_call_entry F.slot_tuple_iterator_next hit.typeIs F.entry_tuple_iterator_next ?_ (F.args_tuple_iterator_next_1 _)))
 show wpAny _ _ (field (.ref it) 0 >>= _) _ _ s
 refine wpAny_bind (wpAny_field ho hd (x:=.ref l) rfl ?_)
 show wpAny _ _ (if (Value.ref l == Value.none)=true then _ else _) _ _ s
 rw[if_neg (show ¬ ((Value.ref l == Value.none)=true) from Bool.false_ne_true)]
 show wpAny _ _ (field (.ref it) 1 >>= _) _ _ s
 refine wpAny_bind (wpAny_field ho hd (x:=.int i 0) rfl ?_)
 show wpAny _ _ (seqItems? (.ref l) >>= _) _ _ s
 refine wpAny_bind (wpAny_seqItems hol hdl ?_)
 simp only [Int.toNat_natCast,hx]
 refine wpAny_bind (wpAny_setField ho hd (by simp) (wpAny_pure ⟨x,rfl,wpAny_pure (hQ _ ?_ (Heap.SameBut.update ..))⟩))
 exact⟨_,Heap.get?_update_self _ ho (Obj.isFreed_of_fields (Obj.data_mapFields hd _)),(Obj.cls_mapFields ..).trans hc,by
  rw[Obj.data_mapFields hd]; simp [rawInt]⟩
theorem yi {it l:Addr} {i:Nat} {items:Array Value} {Q:Value→Shared→Prop} (hh:A.handled=none) (hit:s.heap.IsTupleIter it l i) (hl:s.heap.IsTuple l items) (hx:items[i]?=none)
  (hE:∀ h' e,Heap.ExtBut it s.heap h'→(∃ o,h'.get? e=some o∧o.cls=.type "StopIteration")→E (.ref e) { s with heap:=h' }) :
  wpAny (model prog w) A (Builtin.SmallTypes.nextOf (.ref it)) Q E s:=by
 obtain⟨o,ho,hc,hd⟩:=id hit
 obtain⟨ol,hol,_,nl,hdl⟩:=hl
 unfold Builtin.SmallTypes.nextOf
 refine wpAny_bind (wpAny_callSpecial?_slot (name:=Str.ofString "__next__") hit.typeIs F.slot_tuple_iterator_next
  (wpAny_call_entry F.slot_tuple_iterator_next hit.typeIs F.entry_tuple_iterator_next ?_ (F.args_tuple_iterator_next_1 _)))
 show wpAny _ _ (field (.ref it) 0 >>= _) _ _ s
 refine wpAny_bind (wpAny_field ho hd (x:=.ref l) rfl ?_)
 show wpAny _ _ (if (Value.ref l == Value.none)=true then _ else _) _ _ s
 rw[if_neg (show ¬ ((Value.ref l == Value.none)=true) from Bool.false_ne_true)]
 show wpAny _ _ (field (.ref it) 1 >>= _) _ _ s
 refine wpAny_bind (wpAny_field ho hd (x:=.int i 0) rfl ?_)
 show wpAny _ _ (seqItems? (.ref l) >>= _) _ _ s
 refine wpAny_bind (wpAny_seqItems hol hdl ?_)
 simp only [Int.toNat_natCast,hx]
 refine wpAny_bind (wpAny_rule (wpAny_bind (wpAny_setField ho hd (by simp) ?_)))
 show wpAny _ _ (newExc (.type "StopIteration") [] >>= _) _ _ _
 refine wpAny_bind ?_
 simp only [newExc,newTuple]
 refine wpAny_bind (wpAny_newObj_type ?_ (by size_fits))
 refine wpAny_bind (m:=firstArgMember _ _) (wpAny_of_eq (a:=Value.none) (by first | rfl | (simp only [firstArgMember]; rfl)) ?_)
 refine wpAny_newObj_type ?_ (by size_fits)
 simp only [raiseNew]
 refine wpAny_bind (wpAny_handled ?_)
 first | rw[show A.in1.handled=none from hh] | rw[hh]
 refine wpAny_bind (wpAny_pure (wpAny_throw ?_))
 exact hE _ _ (((Heap.SameBut.update ..).extBut.push _).push _) ⟨_,Heap.get?_push_size _ rfl,rfl⟩
end
theorem Draws.tuple {prog:Program} {w:World} {A:Around} (hh:A.handled=none) (it l:Addr) (hne:l≠it) (items:Array Value) :
  Draws prog w A it [it,l] items.size (fun i v=>items[i]?=some v) (fun i h=>h.IsTupleIter it l i∧h.IsTuple l items) where
 live:=fun _ _ st=>let ⟨o,ho,_⟩:=st.1; ⟨o,ho⟩
 frame:=fun _ _ _ st hk=>⟨st.1.at fun o e=>hk it (by simp) o e,st.2.at fun o e=>hk l (by simp) o e⟩
 item:=fun i s Q E hi st hQ=>by
  refine Ai st.1 st.2 (x:=items[i]) (by simp [hi]) fun h' hit' hs'=>?_
  exact hQ _ h' s.toks (by simp [hi]) ⟨hit',st.2.extBut hs'.extBut hne⟩ hs'
 done:=fun s Q E st hE=>yi hh st.1 st.2 (by simp) hE
open AutoSeq1 (wpAny_loadPart') in
theorem yE (l:Addr) (items:Array Value) (n:Nat) (dct:Option Addr) (sl:Array (Option Value)) :
  Meets (Builtin.«enumerate.__new__» ⟨[.type "enumerate",.ref l],[]⟩) (fun _ R s=>s.heap.get? l=some { cls:=.type "tuple",dict:=dct,data:=.seq items n,slots:=sl } ∧
   R (.ok (.ret (.ref (s.heap.push { cls:=.type "tuple_iterator",data:=.fields #[.ref l,.int 0 0] }).objs.size)))
    { s with heap:=(s.heap.push { cls:=.type "tuple_iterator",data:=.fields #[.ref l,.int 0 0] }).push { cls:=.type "enumerate",data:=.fields #[.none,.bool false,.ref s.heap.objs.size,rawInt 0,.none,.none] } }) :=
 .of_wp fun prog w A R s h=>by
  obtain⟨hp,g,d,tk,os⟩:=s; obtain⟨hl,h⟩:=h
  have hsub:=sub_enumerate
  have hL:Heap.IsTuple (Shared.heap ⟨hp,g,d,tk,os⟩) l items:=⟨_,hl,rfl,n,rfl⟩
  wp_walk using wpAny_loadPart' hl
  refine wpAny_stack_any fun st=>wpAny_pure ?_
  split
  ·rename_i c _ _ _ _ _
   cases (c == Value.type "enumerate")
   ·wp_walk using wpAny_loadPart' hl,wpAny_pyIter_tuple hL
    exact⟨_,rfl,h⟩
   ·wp_walk using wpAny_loadPart' hl,wpAny_pyIter_tuple hL
    exact⟨_,rfl,h⟩
  ·wp_walk using wpAny_loadPart' hl,wpAny_pyIter_tuple hL
   exact⟨_,rfl,h⟩
section
variable {prog:Program} {w:World} {A:Around} {E:Value→Shared→Prop} {s:Shared}
theorem zj {l:Addr} {items:Array Value} {Q:Value→Shared→Prop} (hL:s.heap.IsTuple l items)
  (h:∀ h',IsEnum h' (s.heap.objs.size+1) s.heap.objs.size 0 .none→h'.IsTupleIter s.heap.objs.size l 0→h'.objs.size=s.heap.objs.size+2 →
   (∀ b o,s.heap.get? b=some o→h'.get? b=some o)→Q (.ref (s.heap.objs.size+1)) { s with heap:=h' }) :
  wpAny (model prog w) A (call (.type "enumerate") [.ref l]) Q E s:=by
 obtain⟨⟨c,dct,dt,sl⟩,hl,hc,n,hd⟩:=hL
 replace hc:c=.type "tuple":=hc
 replace hd:dt=.seq items n:=hd
 subst hc hd
 refine callType_new F.called_enumerate (by decide) (F.typeCall_enumerate_1 _) (F.newCall_enumerate_1 _) (fun obj=>F.args_object_init_2 obj _) F.entry_enumerate_new
  (yE l items n dct sl) ⟨hl,?_⟩
 have hz:(s.heap.push { cls:=.type "tuple_iterator",data:=.fields #[.ref l,.int 0 0] }).objs.size=s.heap.objs.size+1:=Heap.size_push ..
 show _∧_
 rw[hz]
 have e1:=Heap.get?_push_size (s.heap.push { cls:=.type "tuple_iterator",data:=.fields #[.ref l,.int 0 0] }) (o:={ cls:=.type "enumerate",data:=.fields #[.none,.bool false,.ref s.heap.objs.size,rawInt 0,.none,.none] }) rfl
 rw[hz] at e1
 refine⟨⟨_,e1,rfl⟩,?_⟩
 exact h _ e1 ⟨_,Heap.get?_push_of_some _ (Heap.get?_push_size _ rfl),rfl,rfl⟩ (by rw[Heap.size_push,hz]) fun b o q=>Heap.get?_push_of_some _ (Heap.get?_push_of_some _ q)
end
theorem Inv.drew {X:Cx} {pins:List (Addr×Obj)} {σ:St} {H:Hp} {s:Shared} {ch:List Addr} {T:Addr} {xs:List V} {h':Heap} {tk:Nat} (I:Inv X pins σ H s) (hf:∀ b∈ch,FpOk X pins H b)
  (k:∀ b o,b ∉ ch→s.heap.get? b=some o→h'.get? b=some o) (hT:s.heap.objs.size≤T) (new:ObjOk X.prog X.w (upd H T (.tup xs)) h' T (.tup xs)):Inv X pins σ (upd H T (.tup xs)) { s with heap:=h',toks:=tk }:=by
 have hn:H T=none:=I.hok.fresh hT
 have nc:∀ b u,H b=some u→b ∉ ch:=fun b u e hb=>by
  have z:=(hf b hb).1
  rw[e] at z
  cases z
 refine I.call (g':=s.gens) (d':=s.drawn) (ch:=ch) ⟨fun b o q n _ hc=>k b o hc q,fun b o q n _ hc=>⟨o.slots,k b o hc q⟩,fun b o q n hc=>by
  rw[gS (Nat.ne_of_lt (Nat.lt_of_lt_of_le (Heap.lt_size q) hT))]; exact n,fun b o q hc=>⟨o,k b o hc q⟩,fun b ys q=>by rw[gS (kB q hn)]; exact q,
  fun b o u q=>by rw[gS (kB q hn)]; exact q,fun b ps q=>⟨#[],by rw[gS (kB q hn),q]; simp⟩⟩ (fun b u e=>?_) I.bare fun b hb=>⟨(hf b hb).2.2.2.1,(hf b hb).2.1,(hf b hb).2.2.2.2.1,(hf b hb).2.2.2.2.2⟩
 by_cases hb:b=T
 ·subst hb
  rw[fj] at e
  cases e
  exact new
 ·rw[gS hb] at e
  refine (I.hok b u e).stay (fun c v hc q=>k c v ?_ q) (fun c q=>by rw[gS (kB q hn)]; exact q) fun c ys q=>by rw[gS (kB q hn)]; exact q
  rcases hc with rfl | hc
  ·exact nc _ _ e
  ·exact nc _ _ hc
theorem Inv.turns {X:Cx} {pins:List (Addr×Obj)} {σ:St} {H:Hp} {s:Shared} {ch:List Addr} {h':Heap} {tk:Nat} (I:Inv X pins σ H s) (hf:∀ b∈ch,FpOk X pins H b)
  (k:∀ b o,b ∉ ch→s.heap.get? b=some o→h'.get? b=some o):Inv X pins σ H { s with heap:=h',toks:=tk }:=by
 have nc:∀ b u,H b=some u→b ∉ ch:=fun b u e hb=>by
  have z:=(hf b hb).1
  rw[e] at z
  cases z
 refine I.call (g':=s.gens) (d':=s.drawn) (ch:=ch) ⟨fun b o q n _ hc=>k b o hc q,fun b o q n _ hc=>⟨o.slots,k b o hc q⟩,fun b o q n hc=>n,fun b o q hc=>⟨o,k b o hc q⟩,fun b ys q=>q,
  fun b o u q=>q,fun b ps q=>⟨#[],by rw[q]; simp⟩⟩ (fun b u e=>?_) I.bare fun b hb=>⟨(hf b hb).2.2.2.1,(hf b hb).2.1,(hf b hb).2.2.2.2.1,(hf b hb).2.2.2.2.2⟩
 refine (I.hok b u e).stay (fun c v hc q=>k c v ?_ q) (fun c q=>q) fun c ys q=>q
 rcases hc with rfl | hc
 ·exact nc _ _ e
 ·exact nc _ _ hc
noncomputable def Ite (sq:Hp→List V→Prop):It:=⟨fun i H=>∃ xs x,sq H xs∧xs[i]?=some x,fun i H x H'=>∃ T v,H T=none∧x=.ref T∧H'=upd H T (.tup [.int i,v])∧∀ xs,sq H xs→xs[i]?=some v,fun i H=>∃ xs,sq H xs∧xs.length≤i⟩
theorem Ey {P:Program} {w:World} {H:Hp} {h:Heap} {T:Addr} {a b:V} {u v:Value} {n:Nat} (ra:RelV a u) (rb:RelV b v) (e:h.get? T=some { cls:=.type "tuple",data:=.seq #[u,v] n }):ObjOk P w H h T (.tup [a,b]) :=
 ⟨show 2≤sizeLine by decide,[u,v],.cons ra (.cons rb .nil),⟨_,e,rfl,_,rfl⟩,_,e,rfl⟩
theorem FO {P:Program} {w:World} {K:PySem.W.Frag} {elts:List Expr} {kk:Nat} {pos:Pos} (a e it:Addr) (hei:e≠it) :
  Turn P w K (.Tuple elts kk pos) (Ite fun H xs=>SqL K H a xs) [e,it] e (fun i h=>(∃ old,IsEnum h e it i old)∧h.IsListIter it a i) where
 mem:=by simp
 obj:=fun i h st b hb=>by
  obtain⟨⟨old,he⟩,o,ho,c,d⟩:=st
  rcases List.mem_cons.mp hb with rfl | hb
  ·exact⟨_,he,fun v z=>by cases z⟩
  ·have z:=List.mem_singleton.mp hb
   subst z
   exact⟨o,ho,fun v z=>by rw[d] at z; cases z⟩
 keep:=fun i h h' st k=>by
  obtain⟨⟨old,he⟩,hit⟩:=st
  exact⟨⟨old,k e (by simp) _ he⟩,hit.at fun o q=>k it (by simp) o q⟩
 item:=by
  intro X hP hw hK hc i pins s σ H E I hf st hg
  subst hP hw hK
  obtain⟨xs,x,hq,hx⟩:=hg
  obtain⟨⟨old,he⟩,hit⟩:=st
  obtain⟨its,rv,p,hz⟩:=I.list hq
  obtain⟨u,hu,ru⟩:=rv.get hx
  refine wpAny_pyNext_enum_item he hit p.isList (x:=u) (by simpa using hu) hei fun h' ho hit' hT hsz hk=>⟨_,rfl,?_⟩
  refine wpAny_letOwnedTupleGo_enum ho fun h2 he2 hs2=>?_
  have hel:e<s.heap.objs.size:=Heap.lt_size he
  have hTe:s.heap.objs.size≠e:=Nat.ne_of_gt hel
  have hil:it<s.heap.objs.size:=by obtain⟨_,y,_⟩:=hit; exact Heap.lt_size y
  have hT2:h2.get? s.heap.objs.size=some { cls:=.type "tuple",data:=.seq #[.int i s.toks,u] }:=(hs2.2 _ hTe).trans hT
  have hf':H s.heap.objs.size=none:=I.hok.fresh (Nat.le_refl _)
  refine⟨.ref s.heap.objs.size,upd H s.heap.objs.size (.tup [.int i,x]),?_,rfl,⟨_,x,hf',rfl,rfl,fun ys hy=>by rw[I.list_inj hy hq]; exact hx⟩,⟨⟨u,he2⟩,hit'.at fun o q=>(hs2.2 it hei.symm).trans q⟩,fun b hb=>?_⟩
  ·exact I.drew (ch:=[e,it]) (tk:=s.toks+1) hf (fun b o hb q=>(hs2.2 b fun z=>hb (by simp [z])).trans (hk b o (fun z=>hb (by simp [z])) (fun z=>hb (by simp [z])) q)) (Nat.le_refl _) (Ey ⟨_,rfl⟩ ru hT2)
  ·have z:b≠s.heap.objs.size:=by
    rcases List.mem_cons.mp hb with rfl | hb
    ·exact hTe.symm
    ·rw[List.mem_singleton.mp hb]; exact Nat.ne_of_lt hil
   rw[gS z]
   exact (hf b hb).1
 done:=by
  intro X hP hw hK hc i pins s σ H E I hf st hg
  subst hP hw hK
  obtain⟨xs,hq,hx⟩:=hg
  obtain⟨⟨old,he⟩,hit⟩:=st
  obtain⟨its,rv,p,hz⟩:=I.list hq
  have hl:=rv.length
  exact wpAny_pyNext_enum_end (I.ok.hd hc) he hit p.isList (by simp; exact Oz12 hx hl) fun h' eb=>⟨rfl,I.turns (ch:=[e,it]) (tk:=s.toks) hf fun b o hb q=>eb b o (fun z=>hb (by simp [z])) q⟩
 self:=fun A i s Q E st h=>by
  obtain⟨⟨old,he⟩,_⟩:=st
  exact wpAny_pyIter_enum he h
theorem ED {P:Program} {w:World} {K:PySem.W.Frag} {elts:List Expr} {kk:Nat} {pos:Pos} (a e it:Addr) (hei:e≠it) (hea:e≠a) (hai:a≠it) :
  Turn P w K (.Tuple elts kk pos) (Ite fun H xs=>SqT K H a xs) [e,it] e (fun i h=>(∃ old,IsEnum h e it i old)∧h.IsTupleIter it a i) where
 mem:=by simp
 obj:=fun i h st b hb=>by
  obtain⟨⟨old,he⟩,o,ho,c,d⟩:=st
  rcases List.mem_cons.mp hb with rfl | hb
  ·exact⟨_,he,fun v z=>by cases z⟩
  ·have z:=List.mem_singleton.mp hb
   subst z
   exact⟨o,ho,fun v z=>by rw[d] at z; cases z⟩
 keep:=fun i h h' st k=>by
  obtain⟨⟨old,he⟩,hit⟩:=st
  exact⟨⟨old,k e (by simp) _ he⟩,hit.at fun o q=>k it (by simp) o q⟩
 item:=by
  intro X hP hw hK hc i pins s σ H E I hf st hg
  subst hP hw hK
  obtain⟨xs,x,hq,hx⟩:=hg
  obtain⟨⟨old,he⟩,hit⟩:=st
  obtain⟨its,rv,p,hz⟩:=I.tuple hq
  obtain⟨u,hu,ru⟩:=rv.get hx
  have hu':its.toArray[i]?=some u:=by simpa using hu
  have D:=Draws.tuple (prog:=X.prog) (w:=X.w) (A:=X.A.in1) (show X.A.in1.handled=none from I.ok.hd hc) it a hai its.toArray
  refine wpAny_pyNext_enum_itemD D he ⟨hit,p⟩ (Array.getElem?_eq_some_iff.mp hu').1 hei (by simp [hei,hea]) fun x' h' tk hP ho hit' hT hsz hk=>⟨_,rfl,?_⟩
  rw[hu'] at hP
  cases hP
  refine wpAny_letOwnedTupleGo_enum ho fun h2 he2 hs2=>?_
  have hel:e<s.heap.objs.size:=Heap.lt_size he
  have hTe:s.heap.objs.size≠e:=Nat.ne_of_gt hel
  have hil:it<s.heap.objs.size:=by obtain⟨_,y,_⟩:=hit; exact Heap.lt_size y
  have hT2:h2.get? s.heap.objs.size=some { cls:=.type "tuple",data:=.seq #[.int i tk,u] }:=(hs2.2 _ hTe).trans hT
  have hf':H s.heap.objs.size=none:=I.hok.fresh (Nat.le_refl _)
  refine⟨.ref s.heap.objs.size,upd H s.heap.objs.size (.tup [.int i,x]),?_,rfl,⟨_,x,hf',rfl,rfl,fun ys hy=>by rw[I.tuple_inj hy hq]; exact hx⟩,⟨⟨u,he2⟩,hit'.1.at fun o q=>(hs2.2 it hei.symm).trans q⟩,fun b hb=>?_⟩
  ·exact I.drew (ch:=[e,it]) (tk:=tk+1) hf (fun b o hb q=>(hs2.2 b fun z=>hb (by simp [z])).trans (hk b o (fun z=>hb (by simp [z])) (fun z=>hb (by simp [z])) q)) (Nat.le_refl _) (Ey ⟨_,rfl⟩ ru hT2)
  ·have z:b≠s.heap.objs.size:=by
    rcases List.mem_cons.mp hb with rfl | hb
    ·exact hTe.symm
    ·rw[List.mem_singleton.mp hb]; exact Nat.ne_of_lt hil
   rw[gS z]
   exact (hf b hb).1
 done:=by
  intro X hP hw hK hc i pins s σ H E I hf st hg
  subst hP hw hK
  obtain⟨xs,hq,hx⟩:=hg
  obtain⟨⟨old,he⟩,hit⟩:=st
  obtain⟨its,rv,p,hz⟩:=I.tuple hq
  have hl:=rv.length
  have hT:s.TypeIs (.ref e) "enumerate":=⟨_,he,rfl⟩
  unfold pyNext
  refine wpAny_bind (wpAny_attempt (wpAny_callSpecial?_slot (name:=Str.ofString "__next__") hT F.slot_enumerate_next
   (wpAny_call_entry F.slot_enumerate_next hT F.entry_enumerate_next ?_ (F.args_enumerate_next_1 _))))
  show wpAny _ _ (field (.ref e) 2 >>= _) _ _ _
  refine wpAny_bind (wpAny_field he rfl (x:=.ref it) rfl ?_)
  refine wpAny_bind (yi (show X.A.in1.handled=none from I.ok.hd hc) hit p (by simp; exact Oz12 hx hl) fun h' x he' hx'=>?_)
  obtain⟨o,ho,hc'⟩:=hx'
  refine wpAny_bind (wpAny_isInstance (T:="StopIteration") (b:=true) ⟨o,ho,hc'⟩ isSubtype_stop ?_)
  exact wpAny_pure ⟨rfl,I.turns (ch:=[e,it]) (tk:=s.toks) hf fun b o hb q=>he' b o (fun z=>hb (by simp [z])) q⟩
 self:=fun A i s Q E st h=>by
  obtain⟨⟨old,he⟩,_⟩:=st
  exact wpAny_pyIter_enum he h
section
variable {X:Cx} {elts:List Expr} {kk:Nat} {tpos:Pos}
def Gs (K:PySem.W.Frag) (ta:TA):TI:=fun σ H R=>ta σ H fun vs H1=>∃ a,vs=[.ref a]∧(∃ xs,SqL K H1 a xs)∧R (Ite fun H xs=>SqL K H a xs) H1
def G0 (K:PySem.W.Frag) (ta:TA):TI:=fun σ H R=>ta σ H fun vs H1=>∃ a,vs=[.ref a]∧(∃ xs,SqT K H1 a xs)∧R (Ite fun H xs=>SqT K H a xs) H1
theorem yu {a:Expr} {ta:TA} {p pos:Pos} (hg:Gl X "enumerate") (hm:X.mg "enumerate"=none) (ha:PA X [a] ta) (hs:starEach [a] X.env=[(false,eval a X.env)]:=by rfl) :
  PI X (.Tuple elts kk tpos) (.Call (.Name "enumerate" p) [a] [] pos) (Gs X.K ta):=by
 intro pins s σ H R I h
 refine Call_ (xP I hg hm boot_enumerate (PyProof.Rows.callWith_type1 (thn (ha pos pins s σ H _ I h) fun us s1 ⟨vs,H1,I1,r1,q1⟩=>?_) hs rfl))
 obtain⟨l,e,⟨xs,hq⟩,q⟩:=q1
 subst e
 cases r1 with
 | cons r rr =>
  cases rr
  cases r
  obtain⟨its,rv,p,hz⟩:=I1.list hq
  refine call_enumerate_list p.isList fun h' hE hI hsz hk=>wpAny_pyIter_enum hE ?_
  refine⟨_,[s1.heap.objs.size+1,s1.heap.objs.size],_,_,H1,rfl,I1.kept (t':=s1.toks) hk,FO l _ _ (Nat.succ_ne_self _),⟨⟨_,hE⟩,hI⟩,fun b hb=>?_,q⟩
  rcases List.mem_cons.mp hb with rfl | hb
  ·exact I1.fpOk (Nat.le_succ _) (I1.hok.fresh (Nat.le_succ _))
  ·rw[List.mem_singleton.mp hb]
   exact I1.fpOk (Nat.le_refl _) (I1.hok.fresh (Nat.le_refl _))
theorem yD {a:Expr} {ta:TA} {p pos:Pos} (hg:Gl X "enumerate") (hm:X.mg "enumerate"=none) (ha:PA X [a] ta) (hs:starEach [a] X.env=[(false,eval a X.env)]:=by rfl) :
  PI X (.Tuple elts kk tpos) (.Call (.Name "enumerate" p) [a] [] pos) (G0 X.K ta):=by
 intro pins s σ H R I h
 refine Call_ (xP I hg hm boot_enumerate (PyProof.Rows.callWith_type1 (thn (ha pos pins s σ H _ I h) fun us s1 ⟨vs,H1,I1,r1,q1⟩=>?_) hs rfl))
 obtain⟨l,e,⟨xs,hq⟩,q⟩:=q1
 subst e
 cases r1 with
 | cons r rr =>
  cases rr
  cases r
  obtain⟨its,rv,p,hz⟩:=I1.tuple hq
  have hll:l<s1.heap.objs.size:=by obtain⟨o,ho,_⟩:=p; exact Heap.lt_size ho
  refine zj p fun h' hE hI hsz hk=>wpAny_pyIter_enum hE ?_
  refine⟨_,[s1.heap.objs.size+1,s1.heap.objs.size],_,_,H1,rfl,I1.kept (t':=s1.toks) hk,ED l _ _ (Nat.succ_ne_self _) (Nat.ne_of_gt (Nat.lt_succ_of_lt hll)) (Nat.ne_of_lt hll),⟨⟨_,hE⟩,hI⟩,fun b hb=>?_,q⟩
  rcases List.mem_cons.mp hb with rfl | hb
  ·exact I1.fpOk (Nat.le_succ _) (I1.hok.fresh (Nat.le_succ _))
  ·rw[List.mem_singleton.mp hb]
   exact I1.fpOk (Nat.le_refl _) (I1.hok.fresh (Nat.le_refl _))
end
end L2
namespace HT
open PySem PySem.Spec PyProof.Rows
section
variable {prog:Program} {w:World} {A:Around} {E:Value→Shared→Prop} {s:Shared}
theorem getItem_tuple_all {t sl:Addr} {items:Array Value} {vl vu:Value} {lo hi:Option Int} {Q:Value→Shared→Prop} (ht:IsTup s.heap t items) (hs:s.heap.IsSliceOf sl vl vu .none) (pl:IsPart vl lo) (pu:IsPart vu hi)
  (hw:sIx items.size 0 lo=0∧sIx items.size items.size hi=items.size) (h:Q (.ref t) s):wpAny (model prog w) A (getItem (.ref t) (.ref sl)) Q E s:=by
 obtain⟨os,hos,hcs,hds⟩:=id hs
 have hTs:s.TypeIs (.ref sl) "slice":=⟨os,hos,hcs⟩
 unfold getItem
 try with_reducible refine wpAny_holding ?_
 first | refine wpAny_bind (wpAny_pure ?_) | skip
 refine wpAny_bind (wpAny_sequenceKey ht.typeIs (by decide) ?_)
 refine wpAny_bind (wpAny_callSpecial?_slot (name:=Str.ofString "__getitem__") ht.typeIs PyProof.Rows.slot_tuple_getitem
  (wpAny_call_entry PyProof.Rows.slot_tuple_getitem ht.typeIs entry_tuple_getitem ?_ (args_tuple_getitem _ _)))
 show wpAny _ _ (Builtin.Tuple.tupleItemsOf (.ref t) >>= _) _ _ s
 refine wpAny_bind (tupleItemsOf_ ht ?_)
 refine wpAny_bind (wpAny_typeOf hTs ?_)
 rw[if_pos (by decide)]
 refine wpAny_bind (xJ hs pl pu ?_)
 have hno:((((sIx items.size 0 lo:Nat):Int) == 0 && (1:Int) == 1 && (sIx items.size items.size hi-sIx items.size 0 lo) == items.size)=true):=by
  rw[hw.1,hw.2]
  simp
 show wpAny _ _ (if (((sIx items.size 0 lo:Nat):Int) == 0 && (1:Int) == 1 && (sIx items.size items.size hi-sIx items.size 0 lo) == items.size)=true then _ else _) _ _ s
 rw[if_pos hno]
 show wpAny _ _ (Builtin.Tuple.tupleIsExact (.ref t) >>= _) _ _ s
 refine wpAny_bind (m:=Builtin.Tuple.tupleIsExact _) (show wpAny _ _ (typeOf (.ref t) >>= _) _ _ s from wpAny_bind (wpAny_typeOf ht.typeIs (wpAny_pure ?_)))
 rw[if_pos (by decide)]
 exact wpAny_bind (wpAny_rule (wpAny_pure ⟨_,rfl,wpAny_pure h⟩))
end
end HT
namespace L2
open PySem PySem.Spec PyProof.Rows
section
variable {X:Cx}
def KR (K:PySem.W.Frag):V→Option Int→Option Int→Hp→VK→Prop:=fun x lo hi H Q=>∃ a xs,x=.ref a∧SqT K H a xs∧(vo xs lo hi=xs→Q (.ref a) H)∧∀ p,H p=none→Q (.ref p) (upd H p (.tup (vo xs lo hi)))
theorem Ex:SlR X (KR X.K):=by
 intro pins s σ H x v vl vu lo hi sl Q I rx hs pl pu h
 obtain⟨a,xs,rfl,hx,q1,q2⟩:=h
 by_cases hw:HT.sIx xs.length 0 lo=0∧HT.sIx xs.length xs.length hi=xs.length
 ·cases rx
  obtain⟨its,r,ht,hz⟩:=I.tuple hx
  have hlen:its.toArray.size=xs.length:=by rw[List.size_toArray]; exact r.length.symm
  refine⟨"tuple",_,PyProof.Rows.slot_tuple_getitem.lookup,ht.typeIs,?_⟩
  refine HT.getItem_tuple_all ht hs pl pu (by rw[hlen]; exact hw) ⟨.ref a,H,I,rfl,q1 ?_⟩
  unfold vo
  rw[hw.1,hw.2,List.drop_zero,Nat.sub_zero,List.take_of_length_le (Nat.le_refl _)]
 ·exact Kr pins s σ H _ v vl vu lo hi sl Q I rx hs pl pu ⟨a,xs,rfl,hx,hw,q2⟩
end
theorem Al {xs:List V} {n:Nat}:vo xs none (some (n:Int))=xs.take n:=by
 unfold vo
 rw[HT.sIx_nat,HT.sIx_none,List.drop_zero,Nat.sub_zero]
 by_cases h:n≤xs.length
 ·rw[Nat.min_eq_left h]
 ·rw[Nat.min_eq_right (by exact Oz26 h),List.take_of_length_le (Nat.le_refl _),List.take_of_length_le (by exact Oz26 h)]
end L2
namespace L2
open PySem PySem.Spec PyProof.Rows
open PySem.Builtin PySem.Builtin.ObjectAttr PySem.Builtin.Getset_descriptor
open PySem.W (Frag Looks looks_findIn looks_specialIn looks_takesIn looks_mroIn looks_subIn looks_typeIn)
def ExcAt (x D:Addr) (h:Heap):Prop:=∃ o vs,h.get? x=some o∧o.cls=.ref D∧o.data=.fields vs
structure XCls (K:Frag) (D:Addr):Prop where
 ga:PySem.W.findIn K (.ref D) "__getattribute__"=some (some (.builtin "BaseException.__getattribute__"))
 gt:PySem.W.findIn K (.ref D) "__getattr__"=some none
 ca:PySem.W.findIn K (.ref D) "__class__"=some (some (.builtin "object.__class__"))
 cn:PySem.W.specialIn K (.builtin "object.__class__") "__get__"=some (some (.builtin "getset_descriptor.__get__"))
 tk:PySem.W.takesIn K (.builtin "object.__class__")=some true
 mo:PySem.W.mroIn K D (.type "object")=some true
 mb:PySem.W.mroIn K D (.type "BaseException")=some true
 is:(PySem.W.clsIn K D).isSome=true
section
variable {prog:Program} {w:World} {A:Around} {E:Value→Shared→Prop} {s:Shared} {K:Frag} {x D:Addr}
end
end L2
namespace L2
open PySem PySem.Spec PyProof.Rows
structure Fly (P:Program) (w:World) (outer:List Env) (H:Hp) (s:Shared) (B:Heap) (H':Hp) (a C:Addr) (a0:Value) (s':Shared):Prop where
 os:s'.os=s.os
 bare:AllBare s'.gens
 un:Un (frs outer) [] H H' s.heap s'.heap
 hok:HOk P w H' s'.heap
 fly:Heap.FlyingW B outer a (.ref C) a0 s'.heap
 old:∀ b o,s'.heap.get? b=some o→(∃ o',s.heap.get? b=some o')→b ∉ frs outer→B.get? b=some o
 trk:∀ b u o,H' b=some u→s'.heap.get? b=some o→B.get? b=some o
 new:H' a=none
 fresh:s.heap.get? a=none
noncomputable abbrev bmVE:List Value:=[.type "ValueError",.type "Exception",.type "BaseException",.type "object"]
structure XRaise (K:PySem.W.Frag) (mg:Str→Option Value) (x:Str) (C:Addr):Prop where
 at_:mg x=some (.ref C)
 ex:PySem.W.excIn K C bmVE "ValueError.__new__"=true
structure XCatch (K:PySem.W.Frag) (mg:Str→Option Value) (x:Str) (C:Addr):Prop where
 at_:mg x=some (.ref C)
 is:PySem.W.clsIn K C≠none
 ty:PySem.W.typeIn K (.ref C)=some (.type "type")
 mb:PySem.W.mroIn K C (.type "BaseException")=some true
structure RoomS (k:Nat) (A:Around):Prop where
 dp:A.depth+3 * k+5<recursionLimit
 un:A.units+16 * k+200<cLine
structure FnOkS (P:Program) (w:World) (K:PySem.W.Frag) (mg:Str→Option Value) (base:Heap) (CX:CXT) (k:Nat) (f:Addr) (fd:FuncData) (ps:List Str) (sp:Sp):Prop where
 len:∀ vs H Q E,sp vs H Q E→vs.length=ps.length
 run:∀ (A:Around) (outer:List Env) (s:Shared) (H:Hp) (args:Args) (us:List Value) (vs:List V) (Q:VK) (E:XK),RoomS k A→Env0 P w K mg base A outer s H→BindsTo s fd args (ps.zip us)→Vals vs us→sp vs H Q E →
  codeAny (model P w) A (.call (.ref f) args) (CR CX outer P w H s Q E) s
structure CalS (P:Program) (w:World) (K:PySem.W.Frag) (mg:Str→Option Value) (base:Heap) (CX:CXT) (x:Str) (k:Nat) (ps:List Str) (sp:Sp):Prop where
 ex:∃ f fd,FnOkS P w K mg base CX k f fd ps sp∧Binds K fd ps []∧PySem.W.keepIn K (.ref f)=true∧mg x=some (.ref f)
noncomputable abbrev Cx.any (X:Cx) (A:Around):Cx:={ X with A:=A,calm:=false }
noncomputable def noStar:Expr→Bool
 | .Starred _ _=>false
 | _=>true
theorem cT {e:Expr} {es:List Expr} {env:Env} (h:noStar e=true):starEach (e::es) env=(false,eval e env)::starEach es env:=by
 cases e <;> first | rfl | cases h
theorem star1' {e:Expr} {env:Env} (h:noStar e=true):starEach [e] env=[(false,eval e env)]:=by rw[cT h]; rfl
theorem gj {env:Env} {pos:Pos}:(backTo pos (starEach [] env)).any (·.1)=false:=rfl
theorem iT {e:Expr} {es:List Expr} {env:Env} {pos:Pos} (h:noStar e=true) (r:(backTo pos (starEach es env)).any (·.1)=false):(backTo pos (starEach (e::es) env)).any (·.1)=false:=by
 rw[cT h]
 show (false || (backTo pos (starEach es env)).any (·.1))=false
 rw[r]
 rfl
noncomputable def plainT:Expr→Bool
 | .UnaryOp _ _ _=>false
 | .BoolOp _ _ _=>false
 | .IfExp _ _ _ _=>false
 | .Compare _ _ _ _=>false
 | _=>true
theorem rS {e:Expr} {env:Env} (h:plainT e=true):∀ whole,isTrue e env whole=(do let v ← whole; standAt e.pos; holding [v] (truthy v)):=by
 intro whole
 cases e <;> first | rfl | cases h
noncomputable def JM:Expr→Bool
 | .ListComp _ _ _ _=>false
 | .SetComp _ _ _ _=>false
 | .DictComp _ _ _ _ _=>false
 | _=>true
theorem mj {e:Expr} {tg:Option Expr} {n:Nat} {env:Env} (h:JM e=true):swapsWith e tg n env=pure false:=by
 cases e <;> first | rfl | cases h
theorem ints_are:∀ {ns:List Int} {its:List Value},Vals (ns.map V.int) its→IntsAre its ns
 | [],_,.nil=>.nil
 | n::ns,_,.cons ⟨t,e⟩ r=>by subst e; exact .cons n t (ints_are r)
section
variable {X:Cx}
theorem wg (hc:X.calm=true):vn X (.builtin "all") (fun xs H Q=>∃ (p:Addr) (bs:List Bool),xs=[.ref p]∧SqL X.K H p (bs.map V.bl)∧Q (.bl (bs.all id)) H):=by
 intro pins s σ H xs us Q I r h
 obtain⟨p,bs,rfl,hq,q⟩:=h
 obtain⟨u,rfl,rx⟩:=vals1 r
 cases rx
 obtain⟨its,r',pl,hz⟩:=I.list hq
 have hl:=pl.isList
 have hlt:p<s.heap.objs.size:=by obtain⟨_,e,_⟩:=hl; exact Heap.lt_size e
 have len:=r'.length
 rw[List.length_map] at len
 refine call_all_walk (wpAny_pyIter_list hl ⟨_,_,_,_,_,_,fun i=>bs.getD i true,rfl,Walks.list (A:=X.A.in1) (I.ok.hd hc) s.heap.objs.size p (Nat.ne_of_lt hlt) its.toArray,⟨⟨_,Heap.get?_push_size _ rfl,rfl,rfl⟩,hl.push _⟩,?_,?_⟩)
 ·intro i v s' Q' E' hP hQ
  have hP':its[i]?=some v:=by simpa using hP
  have li:i<bs.length:=by
   have:=(List.getElem?_eq_some_iff.mp hP').1
   exact Oz86 len this
  obtain⟨u,e1,e2⟩:=r'.get (i:=i) (x:=.bl (bs.getD i true)) (by simp [List.getD,li])
  rw[hP'] at e1
  cases e1
  obtain rfl:v=Value.bool (bs.getD i true):=e2
  exact wpAny_truthy_bool hQ
 ·intro h' tk hk
  have:(List.range its.toArray.size).all (fun i=>bs.getD i true)=bs.all id:=by
   rw[List.size_toArray,← len]
   clear len hq q r' hz
   induction bs with
   | nil=>rfl
   | cons b bs ih =>
    rw[List.length_cons,List.range_succ_eq_map,List.all_cons,List.all_map,List.all_cons]
    exact congrArg _ ih
  rw[this]
  exact⟨.bl _,H,I.kept (old_kept hk),rfl,q⟩
end
structure Apart (z TI TO i1 i2:Addr) (f1 f2:List Addr):Prop where
 zTI:z≠TI
 zTO:z≠TO
 TITO:TI≠TO
 TI1:TI≠i1
 TI2:TI≠i2
 m1:i1∈f1
 m2:i2∈f2
 z1:z ∉ f1
 z2:z ∉ f2
 t1:TO ∉ f1
 t2:TO ∉ f2
 i12:i1 ∉ f2
 i21:i2 ∉ f1
theorem zo {X:Cx} {K:PySem.W.Frag} {es:List Expr} {k n:Nat} {t:TGs} {pos:Pos} (hK:X.K=K) (hc:X.calm=true) (h:PGs X es t) (hn:(assignEach es X.env).length=n) (hst:(assignEach es X.env).findIdx? (·.1)=none):PG X (.Tuple es k pos) (Ip K n t):=by
 subst hK
 exact CJ hc h hn hst
section
variable {X:Cx}
theorem yd {ns:List Int} {its:List Value} (r:Vals (ns.map V.int) its) {j:Nat} (h:j<its.length):∃ t,its[j]=.int (ns.getD j 0) t:=by
 obtain⟨x,e,rv⟩:=JB r h
 have hl:j<ns.length:=by have:=r.length; rw[List.length_map] at this; exact Oz24 h this
 rw[List.getElem?_map,List.getElem?_eq_getElem hl] at e
 cases e
 obtain⟨t,e⟩:=rv
 exact⟨t,by rw[e]; simp [List.getD,hl]⟩
theorem DS {ns:List Int} (h:0<ns.length):ns.getD (argBest (fun i j=>decide (ns.getD i 0 > ns.getD j 0)) (ns.length-1)) 0∈ns∧(∀ a∈ns,a≤ns.getD (argBest (fun i j=>decide (ns.getD i 0 > ns.getD j 0)) (ns.length-1)) 0)∧argBest (fun i j=>decide (ns.getD i 0 > ns.getD j 0)) (ns.length-1)<ns.length:=by
 obtain⟨h1,h2⟩:=argBest_gt (fun i=>ns.getD i 0) (ns.length-1)
 have hb:argBest (fun i j=>decide (ns.getD i 0 > ns.getD j 0)) (ns.length-1)<ns.length:=by
  have:argBest (fun i j=>decide (ns.getD i 0 > ns.getD j 0)) (ns.length-1)≤ns.length-1:=h1
  omega
 refine⟨?_,fun a ha=>?_,hb⟩
 ·generalize argBest _ _=k at hb
  have e:ns.getD k 0=ns[k]:=by simp [List.getD,hb]
  rw[e]
  exact List.getElem_mem hb
 ·obtain⟨j,hj,rfl⟩:=List.getElem_of_mem ha
  have:=h2 j (by omega)
  have e:ns.getD j 0=ns[j]:=by simp [List.getD,hj]
  rw[← e]
  exact this
theorem Bj (hc:X.calm=true):vn X (.builtin "max") (fun xs H Q=>∃ (p:Addr) (ns:List Int),xs=[.ref p]∧(SqL X.K H p (ns.map V.int)∨SqT X.K H p (ns.map V.int))∧0<ns.length∧∀ m,m∈ns→(∀ a∈ns,a≤m)→Q (.int m) H):=by
 intro pins s σ H xs us Q I r h
 obtain⟨p,ns,rfl,hq,hn,q⟩:=h
 obtain⟨u,rfl,rx⟩:=vals1 r
 cases rx
 obtain⟨b1,b2,b3⟩:=DS hn
 rcases hq with hq | hq
 ·obtain⟨its,r',pl,hz⟩:=I.list hq
  have hl:=pl.isList
  have hlt:p<s.heap.objs.size:=by obtain⟨_,e,_⟩:=hl; exact Heap.lt_size e
  have len:=r'.length
  rw[List.length_map] at len
  refine call_max_walk (wpAny_pyIter_list hl ⟨_,_,_,_,_,_,(fun i j=>decide (ns.getD i 0 > ns.getD j 0)),rfl,Walks.list (A:=X.A.in1) (I.ok.hd hc) s.heap.objs.size p (Nat.ne_of_lt hlt) its.toArray,⟨⟨_,Heap.get?_push_size _ rfl,rfl,rfl⟩,hl.push _⟩,?_,?_,?_,?_⟩)
  ·intro b hb
   show b<(s.heap.push _).objs.size
   rw[Heap.size_push]
   rcases List.mem_cons.mp hb with rfl | hb
   ·exact Nat.lt_succ_self _
   ·rcases List.mem_cons.mp hb with rfl | hb
    ·exact Nat.lt_succ_of_lt hlt
    ·cases hb
  ·rw[List.size_toArray,← len]
   exact hn
  ·refine CmpOf.ints_gt (fun i=>ns.getD i 0) fun i v hP=>?_
   have hP':its[i]?=some v:=by simpa using hP
   obtain⟨hi,e⟩:=List.getElem?_eq_some_iff.mp hP'
   rw[← e]
   exact yd r' hi
  ·intro v h' tk hP hk
   have hP':its[argBest (fun i j=>decide (ns.getD i 0 > ns.getD j 0)) (ns.length-1)]?=some v:=by
    rw[List.size_toArray,← len] at hP
    simpa using hP
   obtain⟨hi,e⟩:=List.getElem?_eq_some_iff.mp hP'
   obtain⟨t,e2⟩:=yd r' hi
   exact⟨.int _,H,I.kept (old_kept hk),⟨t,by rw[← e,e2]⟩,q _ b1 b2⟩
 ·obtain⟨its,r',pl,hz⟩:=I.tuple hq
  have hlt:p<s.heap.objs.size:=by obtain⟨_,e,_⟩:=pl; exact Heap.lt_size e
  have len:=r'.length
  rw[List.length_map] at len
  refine call_max_walk (wpAny_pyIter_tuple pl ⟨_,_,_,_,_,_,(fun i j=>decide (ns.getD i 0 > ns.getD j 0)),rfl,Walks.tuple (A:=X.A.in1) (I.ok.hd hc) s.heap.objs.size p (Nat.ne_of_lt hlt) its.toArray,⟨⟨_,Heap.get?_push_size _ rfl,rfl,rfl⟩,pl.push _⟩,?_,?_,?_,?_⟩)
  ·intro b hb
   show b<(s.heap.push _).objs.size
   rw[Heap.size_push]
   rcases List.mem_cons.mp hb with rfl | hb
   ·exact Nat.lt_succ_self _
   ·rcases List.mem_cons.mp hb with rfl | hb
    ·exact Nat.lt_succ_of_lt hlt
    ·cases hb
  ·rw[List.size_toArray,← len]
   exact hn
  ·refine CmpOf.ints_gt (fun i=>ns.getD i 0) fun i v hP=>?_
   have hP':its[i]?=some v:=by simpa using hP
   obtain⟨hi,e⟩:=List.getElem?_eq_some_iff.mp hP'
   rw[← e]
   exact yd r' hi
  ·intro v h' tk hP hk
   have hP':its[argBest (fun i j=>decide (ns.getD i 0 > ns.getD j 0)) (ns.length-1)]?=some v:=by
    rw[List.size_toArray,← len] at hP
    simpa using hP
   obtain⟨hi,e⟩:=List.getElem?_eq_some_iff.mp hP'
   obtain⟨t,e2⟩:=yd r' hi
   refine⟨.int _,H,I.kept (fun b o e=>?_),⟨t,by rw[← e,e2]⟩,q _ b1 b2⟩
   refine hk b o (fun hm=>?_) (Heap.get?_push_of_some _ e)
   rcases List.mem_cons.mp hm with e1 | hm
   ·exact absurd (e1 ▸ Heap.lt_size e) (Nat.lt_irrefl _)
   ·cases hm
abbrev Sq (K:PySem.W.Frag) (H:Hp) (a:Addr) (xs:List V):Prop:=SqL K H a xs∨SqT K H a xs
theorem DY {K:PySem.W.Frag} {H H':Hp} {a:Addr} {xs:List V} (e:Same H H') (h:Sq K H a xs):Sq K H' a xs:=by
 rcases h with h | h
 ·exact .inl (e.seq h)
 ·right
  rcases h with (h | ⟨o,h⟩) | h
  ·exact .inl (.inl (e _ _ h))
  ·exact .inl (.inr ⟨o,e _ _ h⟩)
  ·exact .inr h
def JN (K:PySem.W.Frag) (tl:TE):TI:=fun σ H R=>tl σ H fun x H1=>∃ a,x=.ref a∧(((∃ xs,SqL K H1 a xs)∧R (Itl K a) H1)∨((∃ xs,SqT K H1 a xs)∧R (Itt K a) H1))
theorem GM {tg l:Expr} {tl:TE} (hl:PE X l tl):PI X tg l (JN X.K tl):=by
 intro pins s σ H R I h
 refine thn (hl pins s σ H _ I h) fun v s1 ⟨x,H1,I1,r1,q1⟩=>?_
 obtain⟨a,e,q1⟩:=q1
 subst e
 cases r1
 rcases q1 with ⟨⟨xs,hq⟩,q⟩ | ⟨⟨xs,hq⟩,q⟩
 ·obtain⟨its,rv,p,hz⟩:=I1.list hq
  refine wpAny_pyIter_list p.isList ?_
  refine⟨s1.heap.objs.size,[s1.heap.objs.size],_,_,H1,rfl,I1.kept (t':=s1.toks) fun b o e=>Heap.get?_push_of_some _ e,Bq a _,⟨_,Heap.get?_push_size _ rfl,rfl,rfl⟩,fun b hb=>?_,q⟩
  have e:b=s1.heap.objs.size:=by simpa using hb
  subst e
  exact I1.fpOk (Nat.le_refl _) (I1.hok.fresh (Nat.le_refl _))
 ·obtain⟨its,rv,p,hz⟩:=I1.tuple hq
  refine wpAny_pyIter_tuple (show s1.heap.IsTuple a its.toArray from p) ?_
  refine⟨s1.heap.objs.size,[s1.heap.objs.size],_,_,H1,rfl,I1.kept (t':=s1.toks) fun b o e=>Heap.get?_push_of_some _ e,Ao a _,⟨_,Heap.get?_push_size _ rfl,rfl,rfl⟩,fun b hb=>?_,q⟩
  have e:b=s1.heap.objs.size:=by simpa using hb
  subst e
  exact I1.fpOk (Nat.le_refl _) (I1.hok.fresh (Nat.le_refl _))
section
variable {K:PySem.W.Frag} {D a:Addr} {g:TG} {tt:TT} {te:TE} {Q:VK} {τ:St} {H:Hp}
theorem Bh (xs:List V) (hq:Sq K H a xs) (ix:St) (Pv:Addr→Nat→St→Hp→Prop) (h0:∀ D,H D=none→Pv D 0 ix (upd H D (.lst []))) (hl:∀ D i τ H',H D=none→Pv D i τ H'→Same H H')
  (hs:∀ D i x τ H' (R:St→Hp→Prop),H D=none→xs[i]?=some x→Pv D i τ H'→(∀ τ' H',Pv D (i+1) τ' H'→R τ' H')→wY D g tt te x τ H' R) (hd:∀ D τ H',H D=none→Pv D xs.length τ H'→Q (.ref D) H') :
  ((∃ xs,SqL K H a xs)∧∀ D,H D=none→wu D (Itl K a) g tt te Q ix (upd H D (.lst [])))∨((∃ xs,SqT K H a xs)∧∀ D,H D=none→wu D (Itt K a) g tt te Q ix (upd H D (.lst []))):=by
 rcases hq with hq | hq
 ·exact .inl ⟨⟨_,hq⟩,fun D hD=>se xs (Pv D) (h0 D hD) (fun i τ H' _ p=>(hl D i τ H' hD p).seq hq) (fun i x τ H' R=>hs D i x τ H' R hD) (fun τ H'=>hd D τ H' hD)⟩
 ·have tp:∀ {H'},Same H H'→SqT K H' a xs:=fun e=>by
   rcases hq with (h | ⟨o,h⟩) | h
   ·exact .inl (.inl (e _ _ h))
   ·exact .inl (.inr ⟨o,e _ _ h⟩)
   ·exact .inr h
  exact .inr ⟨⟨_,hq⟩,fun D hD=>yX xs (Pv D) (h0 D hD) (fun i τ H' _ p=>tp (hl D i τ H' hD p)) (fun i x τ H' R=>hs D i x τ H' R hD) (fun τ H'=>hd D τ H' hD)⟩
end
theorem Jy {K:PySem.W.Frag} (h:X.K=K):IxR X (rIx K):=by subst h; exact Kh
end
noncomputable abbrev sgn (c:Nat):V:=.str ⟨#[c]⟩
noncomputable abbrev txt (cs:List Nat):Str:=⟨cs.toArray⟩
noncomputable def Its (cs:List Nat):It:=⟨fun i _=>i<cs.length,fun i H v H'=>H'=H∧∃ c,cs[i]?=some c∧v=sgn c,fun i _=>cs.length≤i⟩
theorem HR {P:Program} {w:World} {K:PySem.W.Frag} {tg:Expr} (it:Addr) (cs:List Nat) (t:Tok):Turn P w K tg (Its cs) [it] it (fun i h=>h.IsStrIter it "str_ascii_iterator" (txt cs) t i) where
 mem:=by simp
 obj:=fun i h st b hb=>by
  have e:b=it:=by simpa using hb
  subst e
  obtain⟨o,e,c,d⟩:=st
  exact⟨o,e,fun v z=>by rw[d] at z; cases z⟩
 keep:=fun i h h' st k=>by
  obtain⟨o,e,r⟩:=st
  exact⟨o,k it (by simp) o e,r⟩
 item:=by
  intro X hP hw hK hc i pins s σ H E I hf st hg
  subst hP hw hK
  obtain⟨f0,f1,f2,f3,f4,f5⟩:=hf it (by simp)
  have W:=Walks.strAscii (prog:=X.prog) (w:=X.w) (I.ok.hd hc) it (txt cs) t
  have hg':i<(txt cs).cps.size:=by simpa using (show i<cs.length from hg)
  refine W.item i s _ _ hg' st fun v h' tk hv st' kk=>?_
  obtain⟨c,u,hcp,rfl⟩:=hv
  have I1:Inv X pins σ H { s with heap:=h',toks:=tk }:=I.turned (fun b o hb e=>kk b o (by simpa using hb) e) f0 f1 f3 f4 f5
  obtain⟨o,e,c',d⟩:=id st'
  exact⟨_,rfl,BS (s:={ s with heap:=h',toks:=tk }) e c' d (by decide) ⟨sgn c,H,I1,⟨u,rfl⟩,⟨rfl,c,by simpa using hcp,rfl⟩,st',fun b hb=>(hf b hb).1⟩⟩
 done:=by
  intro X hP hw hK hc i pins s σ H E I hf st hg
  subst hP hw hK
  obtain⟨f0,f1,f2,f3,f4,f5⟩:=hf it (by simp)
  have hg':cs.length≤i:=hg
  exact wpAny_pyNext_ascii_end (I.ok.hd hc) st (by simp; exact Oz23 hg') fun h' eb=>⟨rfl,I.turned (t':=s.toks) (fun b o hb e=>eb b o hb e) f0 f1 f3 f4 f5⟩
 self:=fun _ _ _ _ _ st h=>wpAny_pyIter_striter_ascii st h
section
variable {X:Cx} {tg:Expr}
def KM (tl:TE):TI:=fun σ H R=>tl σ H fun x H1=>∃ cs,x=.str (txt cs)∧cs.all (fun c=>decide (c<128))=true∧R (Its cs) H1
theorem J5 {l:Expr} {tl:TE} (hl:PE X l tl):PI X tg l (KM tl):=by
 intro pins s σ H R I h
 refine thn (hl pins s σ H _ I h) fun v s1 ⟨x,H1,I1,r1,q1⟩=>?_
 obtain⟨cs,e,ha,q⟩:=q1
 subst e
 obtain⟨t,rfl⟩:=r1
 refine wpAny_pyIter_ascii (by simpa using ha) ?_
 refine⟨s1.heap.objs.size,[s1.heap.objs.size],_,_,H1,rfl,I1.kept (t':=s1.toks) fun b o e=>Heap.get?_push_of_some _ e,HR _ cs t,⟨_,Heap.get?_push_size _ rfl,rfl,rfl⟩,fun b hb=>?_,q⟩
 have e:b=s1.heap.objs.size:=by simpa using hb
 subst e
 exact I1.fpOk (Nat.le_refl _) (I1.hok.fresh (Nat.le_refl _))
end
section
variable {g:TG} {tb:TS} {D:Ends} {σ:St} {H:Hp}
end
section
variable {D:Addr} {g:TG} {tt:TT} {te:TE} {Q:VK} {τ:St} {H:Hp}
theorem GR (cs:List Nat) (Pv:Nat→St→Hp→Prop) (h0:Pv 0 τ H)
  (hs:∀ i c τ H (R:St→Hp→Prop),cs[i]?=some c→Pv i τ H→(∀ τ' H',Pv (i+1) τ' H'→R τ' H')→wY D g tt te (sgn c) τ H R) (hd:∀ τ H,Pv cs.length τ H→Q (.ref D) H):wu D (Its cs) g tt te Q τ H:=by
 refine⟨fun i m τ H=>m=cs.length-i∧i≤cs.length∧Pv i τ H,⟨cs.length,by simp,Nat.zero_le _,h0⟩,?_⟩
 rintro i m τ H2 ⟨rfl,hi,p⟩
 by_cases hlt:i<cs.length
 ·refine .inr ⟨hlt,fun x H' y=>?_⟩
  obtain⟨e,c,hc,rfl⟩:=y
  subst e
  exact hs i c τ _ (fun τ' H'=>∃ m',m'<cs.length-i∧m'=cs.length-(i+1)∧i+1≤cs.length∧Pv (i+1) τ' H') hc p fun τ' H' p'=>⟨_,by exact Oz3 hlt,rfl,hlt,p'⟩
 ·have e:i=cs.length:=by exact Oz8 hi hlt
  subst e
  exact .inl ⟨Nat.le_refl _,hd τ H2 p⟩
end
section
variable {X:Cx}
def Kf:R2:=fun x y H Q=>∃ c d:Nat,x=sgn c∧y=sgn d∧Q (.bl (decide (c≤d))) H
theorem GE:OpR X (compareOp .LtE) Kf:=by
 intro pins s σ H x y v u Q I rx ry h
 obtain⟨c,d,rfl,rfl,q⟩:=h
 obtain⟨t,rfl⟩:=rx
 obtain⟨t',rfl⟩:=ry
 refine P.le_str (qa I q ?_)
 have e:(([d]:List Nat) < [c])↔d<c:=by simp [List.cons_lt_cons_iff]
 show decide (c≤d) = !decide (([d]:List Nat) < [c])
 by_cases h:c≤d
 ·rw[decide_eq_true h,decide_eq_false (fun z=>absurd (e.mp z) (by omega))]
  rfl
 ·rw[decide_eq_false h,decide_eq_true (e.mpr (by omega))]
  rfl
theorem CY:∀ cs:List Nat,Str.join "" (cs.map fun c=>(⟨#[c]⟩:Str))=txt cs
 | []=>rfl
 | [c]=>rfl
 | c::d::cs=>by
  have ih:=CY (d::cs)
  show (⟨#[c]⟩:Str)++""++Str.join "" ((d::cs).map fun c=>(⟨#[c]⟩:Str))=txt (c::d::cs)
  rw[ih]
  apply Str.ext'
  simp [Str.cps_append]
  rfl
theorem D4:∀ {ts:List Str} {its:List Value},Vals (ts.map V.str) its→∃ l:List (Str×Tok),its=strValues l∧l.map (·.1)=ts
 | [],_,.nil=>⟨[],rfl,rfl⟩
 | z::ts,_,.cons ⟨t,e⟩ r=>by
  subst e
  obtain⟨l,e1,e2⟩:=D4 r
  exact⟨(z,t)::l,by rw[e1]; rfl,by rw[List.map_cons,e2]⟩
def rJoin (K:PySem.W.Frag):V→List V→Hp→VK→Prop:=fun x vs H Q=>∃ (p:Addr) (cs:List Nat),x=.str ""∧vs=[.ref p]∧SqL K H p (cs.map sgn)∧cs.length≤1000∧Q (.str (txt cs)) H
theorem Cp:∀ (ts:List Str) (n:Nat),(∀ z∈ts,z.length=1)→ts.foldl (fun a p=>a+p.length+("":Str).length) n=n+ts.length
 | [],n,_=>rfl
 | z::ts,n,h=>by
  rw[List.foldl_cons,Cp ts _ fun y hy=>h y (List.mem_cons_of_mem _ hy),h z (List.mem_cons_self ..),List.length_cons,show ("":Str).length=0 from rfl]
  omega
theorem Jg:MtR X "str.join" (rJoin X.K):=by
 intro pins s σ H x vs v us Q I rx rv h
 obtain⟨p,cs,rfl,rfl,hq,hz,q⟩:=h
 obtain⟨t,rfl⟩:=rx
 obtain⟨u,rfl,ru⟩:=vals1 rv
 cases ru
 obtain⟨its,r,pl,_⟩:=I.list hq
 have r':Vals ((cs.map fun c=>(⟨#[c]⟩:Str)).map V.str) its:=by rw[List.map_map]; exact r
 obtain⟨l,e1,e2⟩:=D4 r'
 have hl:=pl.isList
 rw[e1] at hl
 have one:∀ z∈cs.map (fun c=>(⟨#[c]⟩:Str)),z.length=1:=fun z hz=>by
  obtain⟨c,_,rfl⟩:=List.mem_map.mp hz
  rfl
 have tot:Builtin.Str.tooLong ((l.map (·.1)).toArray.foldl (· + ·.length+("":Str).length) 0)=false:=by
  rw[e2,List.foldl_toArray,Cp _ _ one,List.length_map]
  unfold Builtin.Str.tooLong
  rw[sizeLine_eq]
  simp
  exact Oz45 hz
 refine call_meets PySem.F.slot_str_join (typeIs_str s _ t) PySem.F.entry_str_join (PySem.F.args_str_join_2 _ _) (meets_str_join_list "" t p l tot) ⟨hl,?_⟩
 have fin:∀ (tk':Tok) (s':Shared),Inv X pins σ H s'→EP X pins σ Q (.str (txt cs) tk') s':=fun tk' s' I'=>⟨.str (txt cs),H,I',⟨tk',rfl⟩,q⟩
 have gl:Builtin.Str.glued "" (l.map (·.1))=txt cs:=by
  rw[StrLaws.glued_eq_join,e2,CY]
 have sz:(txt cs).length≤sizeLine:=by
  show cs.toArray.size≤sizeLine
  rw[List.size_toArray,sizeLine_eq]
  exact Oz45 hz
 match l,e2,gl with
 | [p1],e2,gl =>
  obtain⟨z,tz⟩:=p1
  have:z=txt cs:=gl
  subst this
  exact fin tz s I
 | [],e2,gl =>
  refine⟨by rw[gl]; exact sz,?_⟩
  rw[gl]
  exact fin _ _ (I.tok _)
 | p1::p2::r2,e2,gl =>
  refine⟨by rw[gl]; exact sz,?_⟩
  rw[gl]
  exact fin _ _ (I.tok _)
noncomputable def yy (c:Nat):Bool:=decide (97≤c) && decide (c≤122)
end
deriving instance DecidableEq for Kn
section
variable {X:Cx}
theorem xZ:vn X (.type "tuple") (fun xs H Q=>∃ p ys,xs=[.ref p]∧SqL X.K H p ys∧∀ l,H l=none→Q (.ref l) (upd H l (.tup ys))):=by
 intro pins s σ H xs us Q I r h
 obtain⟨p,ys,rfl,hq,q⟩:=h
 exact BE pins s σ H _ us Q I r ⟨p,ys,rfl,.inl ⟨hq,q⟩⟩
theorem yw:vn X (.type "list") (fun xs H Q=>∃ p ys,xs=[.ref p]∧SqL X.K H p ys∧∀ l,H l=none→Q (.ref l) (upd H l (.lst ys))):=by
 intro pins s σ H xs us Q I r h
 obtain⟨p,ys,rfl,hq,q⟩:=h
 exact za pins s σ H _ us Q I r ⟨p,ys,rfl,.inl hq,q⟩
end
end L2
namespace PySem
open Sem (wp)
namespace SetL
theorem xu:plainId "set.update.loop"=true:=by decide +kernel
theorem yG:entryFor table "set.update.loop"=some Builtin.«set.update.loop»:=entryFor_of_tree (by kernel_rfl)
noncomputable def addS (p:(Int→Bool)×Nat) (k:Int):(Int→Bool)×Nat:=(fun k'=>p.1 k' || decide (k'=k),if p.1 k=true then p.2 else p.2+1)
theorem Jf (p:(Int→Bool)×Nat) (k:Int):(addS p k).2≤p.2+1:=by
 show (if p.1 k=true then p.2 else p.2+1)≤_
 split <;> omega
section
variable {prog:Program} {w:World} {A:Around} {R:Result→Shared→Prop} {I:Addr} {fp wr:List Addr} {n:Nat} {P:Nat→Value→Prop} {St:Nat→Heap→Prop}
theorem zP (W:Walks prog w A.in1 I fp wr n P St) (a:Addr) (ha:a ∉ fp) (hw:a ∉ wr) (val:Nat→Int) (hval:∀ i v,P i v→∃ t,v=.int (val i) t):∀ (k i:Nat) (s:Shared) (p:(Int→Bool)×Nat),n-i=k→i≤n→St i s.heap →
  s.heap.SetOf (intKind prog w) a p.1 p.2→p.2+k<scanBound →
  (∀ h' tk,h'.SetOf (intKind prog w) a (((List.range n).drop i).foldl (fun q j=>addS q (val j)) p).1 (((List.range n).drop i).foldl (fun q j=>addS q (val j)) p).2→(∀ b o,b ∉ a::wr→s.heap.get? b=some o→h'.get? b=some o)→R (.ok (.ret .none)) { s with heap:=h',toks:=tk }) →
  codeAny (model prog w) A (.builtin "set.update.loop" ⟨[.ref a,.ref I],[]⟩) R s:=by
 intro k
 induction k with
 | zero =>
  intro i s p hk hi hst hS hb hR
  have hin:i=n:=by omega
  subst hin
  refine codeAny_builtin yG ?_
  rw[Around.under_plainId xu _]
  show wpAny _ A.in1 (pyNext (.ref I) >>= _) _ _ s
  refine wpAny_bind (W.done s _ _ hst fun h' tk hk'=>?_)
  refine wpAny_pure ?_
  obtain⟨o,es,ep,t,ho,r⟩:=hS
  refine hR h' tk ?_ fun b o hbw e=>hk' b o (fun z=>hbw (List.mem_cons_of_mem _ z)) e
  rw[List.drop_of_length_le (by simp)]
  exact⟨o,es,ep,t,hk' a o hw ho,r⟩
 | succ k ih =>
  intro i s p hk hi hst hS hb hR
  have hlt:i<n:=by omega
  have hd:(List.range n).drop i=i::(List.range n).drop (i+1):=by
   rw[List.drop_eq_getElem_cons (by simpa using hlt)]; simp
  refine codeAny_builtin yG ?_
  rw[Around.under_plainId xu _]
  show wpAny _ A.in1 (pyNext (.ref I) >>= _) _ _ s
  refine wpAny_bind (W.item i s _ _ hlt hst fun v h' tk hP hst' hk'=>?_)
  obtain⟨t,rfl⟩:=hval i v hP
  obtain⟨o,es,ep,tt,ho,r⟩:=hS
  have hS':h'.SetOf (intKind prog w) a p.1 p.2:=⟨o,es,ep,tt,hk' a o hw ho,r⟩
  refine wpAny_bind (wpAny_holding ?_)
  unfold setAdd
  refine wpAny_bind ((intKind prog w).pyHash (k:=val i) (by simp [intKind,Value.isInt]) ?_)
  refine wpAny_setAddHashed_of (knd:=intKind prog w) (k:=val i) (S:=p.1) (n:=p.2) (by simp [intKind,Value.isInt]) rfl hS' (by omega) fun h2 hsb hS2=>?_
  refine wpAny_pure ⟨plainId_quiet xu _,ih (i+1) _ (addS p (val i)) (by omega) hlt ?_ hS2 (by have:=Jf p (val i); omega) fun h3 tk3 hS3 hk3=>?_⟩
  ·exact W.frame _ _ _ hst' fun b hbf o e=>hsb.extBut b o (fun z=>ha (z ▸ hbf)) e
  ·have:=hR h3 tk3
   rw[hd,List.foldl_cons] at this
   refine this hS3 fun b o hbw e=>hk3 b o hbw (hsb.extBut b o (fun z=>hbw (z ▸ List.mem_cons_self ..)) (hk' b o (fun z=>hbw (List.mem_cons_of_mem _ z)) e))
end
theorem typeCall_set_1 (x:Value):checkTypeCall "set" ⟨[x],[]⟩=pure ():=by kernel_rfl
theorem newCall_set_1 (x:Value):checkBuiltinCall "set.__new__" ⟨[.type "set",x],[]⟩=pure ():=by kernel_rfl
theorem sub_list_set:isSubtype (.type "list") (.type "set")=pure false:=by rw[isSubtype_type]; kernel_rfl
theorem sub_list_frozenset:isSubtype (.type "list") (.type "frozenset")=pure false:=by rw[isSubtype_type]; kernel_rfl
section
variable {prog:Program} {w:World} {A:Around} {E:Value→Shared→Prop} {s:Shared}
theorem BH {x:Value} {Q₁:Value→Shared→Prop}
  (h:∀ led:Bool,Q₁ (.ref s.heap.objs.size) { s with heap:=s.heap.push { cls:=.type "set",dict:=none,data:=.set #[] 0 (.fresh 0 0 led) } }) :
  codeAny (model prog w) A (.call (.builtin "set.__new__") ⟨[.type "set",x],[]⟩) (wants Q₁ E) s:=by
 refine codeAny_of_tree ?_
 show wpAny _ A.in1 (do checkBuiltinCall "set.__new__" ⟨[.type "set",x],[]⟩; again (.builtin "set.__new__" ⟨[.type "set",x],[]⟩)) _ _ s
 refine wpAny_bind (wpAny_of_eq (newCall_set_1 x) (wpAny_pure ⟨plainId_quiet F.plain_set_new _,codeAny_builtin F.entry_set_new ?_⟩))
 rw[Around.under_plainId F.plain_set_new _]
 unfold Builtin.«set.__new__» Builtin.Frozenset.newClass
 have hsub:=sub_set_self
 obtain⟨hp,g,d,tk,os⟩:=s
 dsimp only
 wp_walk
 refine wpAny_askSetting (wpAny_pure ?_)
 dsimp only
 simp only [newObj]
 refine wpAny_bind (wpAny_alloc (wpAny_pure ?_))
 exact wpAny_pure (h _)
theorem Ar {M:Model} {self x:Value} {Q:Unit→Shared→Prop} (hT:s.TypeIs self "set") (hQ:Q () s) :
  wpAny M A (checkBuiltinCall "set.__init__" ⟨[self,x],[]⟩) Q E s:=by
 simp only [checkBuiltinCall,kind_set_init,split_set_init,sig_set_init]
 refine wpAny_bind (wpAny_isInstance hT sub_set_self ?_)
 simp only [Bool.not_true,Bool.false_eq_true,if_false]
 unfold Bind.checkArgs
 dsimp only
 refine wpAny_bind (m:=Bind.printed "set" true _ _) (PyProof.Rows.printed_name (by decide) ?_)
 refine wpAny_bind (m:=Bind.printed "*" false _ _) (PyProof.Rows.printed_star (self:=self) rfl hT fun short=>?_)
 have hrn:(Manifest.Receiver.self == Manifest.Receiver.none)=false:=by decide
 have hn:(if (Manifest.Receiver.self == Manifest.Receiver.none)=true then [self,x].length else [self,x].length-1)=1:=by simp [hrn]
 rw[hn]
 simp only [List.map_nil]
 have hc:Bind.check ⟨.positional,"set","*",.self,[⟨"iterable",.posOnly,false⟩]⟩ "set" short 1 []=pure ():=by
  simp [Bind.check,Bind.checkCount,Bind.isPositional]
  intro h
  exact absurd h (by decide)
 rw[hc]
 exact wpAny_pure hQ
set_option maxHeartbeats 4000000 in
theorem call_set_1 {l:Addr} {its:List Value} {ns:List Int} {Q:Value→Shared→Prop} (hh:A.handled=none) (hl:s.heap.IsList l its.toArray) (hi:∀ (j:Nat) (v:Value),its[j]?=some v→∃ t,v=.int (ns.getD j 0) t) (hn:its.length=ns.length) (hb:ns.length<1000)
  (h:∀ h' tk,h'.SetOf (intKind prog w) s.heap.objs.size (ns.foldl addS (fun _=>false,0)).1 (ns.foldl addS (fun _=>false,0)).2→(∀ b o,s.heap.get? b=some o→h'.get? b=some o)→Q (.ref s.heap.objs.size) { s with heap:=h',toks:=tk }) :
  wpAny (model prog w) A (call (.type "set") [.ref l]) Q E s:=by
 obtain⟨c,tl,hmro⟩:=F.called_set.mro
 have hmade:=F.called_set.made
 have hsub:=F.called_set.sub
 refine wpAny_call (codeAny_of_tree ?_)
 show wpAny _ _ (callAny (.type "set") _) _ _ _
 refine wpAny_pure ⟨Code.quiet_builtin _ (by decide +kernel),codeAny_builtin F.entry_type_call ?_⟩
 rw[Around.under_plain (weight_type_call_type "set" [.ref l] []) rfl]
 have h1:=F.called_set.notType
 have h2:=F.called_set.canCreate
 have hct:=typeCall_set_1 (.ref l)
 repeat (any_goals (first | assumption | wp_step))
 refine codeAny_mono (BH (E:=E) (Q₁:=fun obj s₁=>∃ led:Bool,obj=.ref s.heap.objs.size∧s₁={ s with heap:=s.heap.push { cls:=.type "set",dict:=none,data:=.set #[] 0 (.fresh 0 0 led) } }) fun led=>⟨led,rfl,rfl⟩) fun r s₁ hr=>?_
 cases r with
 | error e=>exact hr
 | ok fl =>
  cases fl with
  | ret obj =>
   obtain⟨led,rfl,rfl⟩:=hr
   have hS:(s.heap.push { cls:=.type "set",dict:=none,data:=.set #[] 0 (.fresh 0 0 led) }).get? s.heap.objs.size=some { cls:=.type "set",dict:=none,data:=.set #[] 0 (.fresh 0 0 led) }:=Heap.get?_push_size _ rfl
   have hT:Shared.TypeIs { s with heap:=s.heap.push { cls:=.type "set",dict:=none,data:=.set #[] 0 (.fresh 0 0 led) } } (.ref s.heap.objs.size) "set":=⟨_,hS,rfl⟩
   have hli:=F.called_set.init.lookup
   have hbi:=F.called_set.init.bind (.ref s.heap.objs.size)
   repeat (any_goals (first | assumption | wp_step))
   refine codeAny_mono (codeAny_call_builtin (R:=wants (fun r s₂=>r=.none∧Q (.ref s.heap.objs.size) s₂) E) F.called_set.init.plain F.entry_set_init (Ar hT ?_)) fun r₂ s₂ hr₂=>?_
   ·obtain⟨⟨cls,dd,data,sl⟩,ho,hc,nn,hd⟩:=hl.push { cls:=.type "set",dict:=none,data:=.set #[] 0 (.fresh 0 0 led) }
    simp only at hc hd
    subst hc hd
    have f1:=sub_list_set
    have f2:=sub_list_frozenset
    unfold Builtin.«set.__init__» noKeywords
    have hl':Heap.IsList (s.heap.push { cls:=.type "set",dict:=none,data:=.set #[] 0 (.fresh 0 0 led) }) l its.toArray:=hl.push _
    wp_walk using wpAny_loadPart' ho,wpAny_pyIter_list hl'
    have hlt:l<s.heap.objs.size:=by obtain⟨_,e,_⟩:=hl; exact Heap.lt_size e
    have hsz:(s.heap.push { cls:=.type "set",dict:=none,data:=.set #[] 0 (.fresh 0 0 led) }).objs.size=s.heap.objs.size+1:=Heap.size_push ..
    have hS0:Heap.SetOf (intKind prog w) (s.heap.push { cls:=.type "set",dict:=none,data:=.set #[] 0 (.fresh 0 0 led) }) s.heap.objs.size (fun _=>false) 0 :=
     ⟨_,#[],0,_,Heap.get?_push_size _ rfl,⟨rfl,rfl,rfl⟩,rfl,fun e he=>by simp at he,fun k=>by simp,by decide,by rfl,rfl⟩
    refine zP (Walks.list (A:=A.in1.in1.in1) hh _ l (by show l≠(s.heap.push _).objs.size; rw[hsz]; exact Nat.ne_of_lt (Nat.lt_succ_of_lt hlt)) its.toArray) s.heap.objs.size ?_ ?_ (fun j=>ns.getD j 0) (fun j v hP=>hi j v (by simpa using hP)) its.toArray.size 0 _ (fun _=>false,0) (Nat.sub_zero _) (Nat.zero_le _) ⟨⟨_,Heap.get?_push_size _ rfl,rfl,rfl⟩,hl'.push _⟩ ?_ ?_ ?_
    ·show s.heap.objs.size ∉ [(s.heap.push _).objs.size,l]
     rw[hsz]
     intro hm
     rcases List.mem_cons.mp hm with e | hm
     ·exact absurd e (Nat.ne_of_lt (Nat.lt_succ_self _))
     ·exact absurd (List.mem_singleton.mp hm) (Nat.ne_of_gt hlt)
    ·show s.heap.objs.size ∉ [(s.heap.push _).objs.size]
     rw[hsz]
     simp
    ·obtain⟨o,es,ep,t,ho',r⟩:=hS0
     exact⟨o,es,ep,t,Heap.get?_push_of_some _ ho',r⟩
    ·show 0+its.toArray.size<scanBound
     rw[List.size_toArray,hn]
     exact Nat.lt_of_lt_of_le (m:=1000) (by omega) (by decide)
    ·intro h' tk hS' hk
     have fe:((List.range its.toArray.size).drop 0).foldl (fun q j=>addS q (ns.getD j 0)) (fun _=>false,0)=ns.foldl addS (fun _=>false,0):=by
      rw[List.drop_zero,List.size_toArray,hn,← List.foldl_map (f:=fun j=>ns.getD j 0)]
      congr 1
      apply List.ext_getElem (by simp)
      intro i h1 h2
      simp [List.getD,h2]
     rw[fe] at hS'
     refine wpAny_pure (wpAny_pure ⟨rfl,h h' tk hS' fun b o e=>hk b o (fun hm=>?_) (Heap.get?_push_of_some _ (Heap.get?_push_of_some _ e))⟩)
     have lb:=Heap.lt_size e
     have hm':b∈[s.heap.objs.size,(s.heap.push { cls:=.type "set",dict:=none,data:=.set #[] 0 (.fresh 0 0 led) }).objs.size]:=hm
     rw[hsz] at hm'
     rcases List.mem_cons.mp hm' with z | z
     ·exact absurd lb (by rw[z]; exact Nat.lt_irrefl _)
     ·exact absurd lb (by rw[List.mem_singleton.mp z]; exact Nat.not_lt.mpr (Nat.le_succ _))
   ·cases r₂ with
    | error e=>exact hr₂
    | ok fl₂ =>
     cases fl₂ with
     | ret r =>
      obtain⟨rfl,hq⟩:=hr₂
      repeat (any_goals (first | assumption | wp_step))
     | _=>exact hr₂.elim
  | _=>exact hr.elim
end
end SetL
end PySem
namespace L2
open PySem PySem.Spec PyProof.Rows
section
variable {X:Cx}
theorem DK (hc:X.calm=true):vn X (.type "set") (fun xs H Q=>∃ (p:Addr) (ns:List Int),xs=[.ref p]∧SqL X.K H p (ns.map V.int)∧ns.length<1000∧∀ l,H l=none→Q (.ref l) (upd H l (.set (ns.foldl PySem.SetL.addS (fun _=>false,0)).1 (ns.foldl PySem.SetL.addS (fun _=>false,0)).2))):=by
 intro pins s σ H xs us Q I r h
 obtain⟨p,ns,rfl,hq,hb,q⟩:=h
 obtain⟨u,rfl,rx⟩:=vals1 r
 cases rx
 obtain⟨its,r',pl,hz⟩:=I.list hq
 have len:=r'.length
 rw[List.length_map] at len
 refine PySem.SetL.call_set_1 (I.ok.hd hc) pl.isList (fun j v e=>?_) len.symm hb fun h' tk hS hk=>?_
 ·obtain⟨hj,e'⟩:=List.getElem?_eq_some_iff.mp e
  rw[← e']
  exact yd r' hj
 ·exact⟨.ref s.heap.objs.size,_,I.laid (o:=.set _ _) hk (Nat.le_refl _) hS,rfl,q _ (I.hok.fresh (Nat.le_refl _))⟩
theorem BC:vn X (.builtin "len") (fun xs H Q=>∃ (p:Addr) (S:Int→Bool) (n:Nat),xs=[.ref p]∧H p=some (.set S n)∧Q (.int n) H):=by
 intro pins s σ H xs us Q I r h
 obtain⟨p,S,n,rfl,hp,q⟩:=h
 obtain⟨u,rfl,rx⟩:=vals1 r
 cases rx
 obtain⟨o,es,ep,t,ho,hex,hd,hel,hmem,hb,hf,hn⟩:=(show ObjOk X.prog X.w H s.heap p (.set S n) from I.hok p _ hp)
 refine PySem.call_len_set ho hex hd hf ?_ ⟨.int n,H,I.tok _,⟨_,by rw[hn]⟩,q⟩
 have:es.size<4096:=hb
 omega
end
mutual
inductive Rep (K:PySem.W.Frag) (H:Hp):V→PyData→Prop
 | non:Rep K H .non .none
 | bl (b:Bool):Rep K H (.bl b) (.bool b)
 | int (i:Int):Rep K H (.int i) (.int i)
 | str (z:Str):Rep K H (.str z) (.str z)
 | lst {a:Addr} {xs:List V} {ds:List PyData}:SqL K H a xs→RepAll K H xs ds→Rep K H (.ref a) (.list ds)
 | tup {a:Addr} {xs:List V} {ds:List PyData}:SqT K H a xs→RepAll K H xs ds→Rep K H (.ref a) (.tuple ds)
inductive RepAll (K:PySem.W.Frag) (H:Hp):List V→List PyData→Prop
 | nil:RepAll K H [] []
 | cons {x:V} {d:PyData} {xs:List V} {ds:List PyData}:Rep K H x d→RepAll K H xs ds→RepAll K H (x::xs) (d::ds)
end
theorem Cn {K:PySem.W.Frag} {H H':Hp} {a:Addr} {xs:List V} (e:Same H H') (h:SqT K H a xs):SqT K H' a xs:=by
 rcases h with (h | ⟨o,h⟩) | h
 ·exact .inl (.inl (e _ _ h))
 ·exact .inl (.inr ⟨o,e _ _ h⟩)
 ·exact .inr h
mutual
theorem Rep.same {K:PySem.W.Frag} {H H':Hp} (e:Same H H'):∀ {v:V} {d:PyData},Rep K H v d→Rep K H' v d
 | _,_,.non=>.non
 | _,_,.bl b=>.bl b
 | _,_,.int i=>.int i
 | _,_,.str z=>.str z
 | _,_,.lst h r=>.lst (e.seq h) (RepAll.same e r)
 | _,_,.tup h r=>.tup (Cn e h) (RepAll.same e r)
theorem RepAll.same {K:PySem.W.Frag} {H H':Hp} (e:Same H H'):∀ {xs:List V} {ds:List PyData},RepAll K H xs ds→RepAll K H' xs ds
 | _,_,.nil=>.nil
 | _,_,.cons h r=>.cons (Rep.same e h) (RepAll.same e r)
end
section
variable {X:Cx} {pins:List (Addr×Obj)} {σ:St} {H:Hp} {s:Shared}
mutual
theorem Rep.reads (I:Inv X pins σ H s):∀ {v:V} {d:PyData} {u:Value},Rep X.K H v d→RelV v u→∃ as,Reads s.heap u d as
 | _,_,u,.non,r=>by
  obtain rfl:u=Value.none:=r
  exact⟨[],.none⟩
 | _,_,u,.bl b,r=>by
  obtain rfl:u=Value.bool b:=r
  exact⟨[],.bool b⟩
 | _,_,u,.int i,r=>by
  obtain⟨t,rfl⟩:=r
  exact⟨[],.int i t⟩
 | _,_,u,.str z,r=>by
  obtain⟨t,rfl⟩:=r
  exact⟨[],.str z t⟩
 | _,_,u,.lst (a:=a) h ra,r=>by
  obtain rfl:u=Value.ref a:=r
  obtain⟨its,rv,⟨o,n,e,c,_,dt⟩,_⟩:=I.list h
  obtain⟨as,ra'⟩:=RepAll.reads I ra rv
  exact⟨a::as,.list e c dt (by simpa using ra')⟩
 | _,_,u,.tup (a:=a) h ra,r=>by
  obtain rfl:u=Value.ref a:=r
  obtain⟨its,rv,⟨o,e,c,n,dt⟩,_⟩:=I.tuple h
  obtain⟨as,ra'⟩:=RepAll.reads I ra rv
  exact⟨as,.tuple e c dt (by simpa using ra')⟩
theorem RepAll.reads (I:Inv X pins σ H s):∀ {xs:List V} {ds:List PyData} {us:List Value},RepAll X.K H xs ds→Vals xs us→∃ as,ReadsAll s.heap us ds as
 | _,_,_,.nil,.nil=>⟨[],.nil⟩
 | _,_,_,.cons h r,.cons rv rs=>by
  obtain⟨as,h1⟩:=Rep.reads I h rv
  obtain⟨bs,h2⟩:=RepAll.reads I r rs
  exact⟨as++bs,.cons h1 h2⟩
end
end
def vQ (d:PyData):Prop:=d.canLay0=true∧d.depth≤40
theorem xQ {A:Around} {k:Nat} (hr:Room k A):A.units+60<cLine:=Nat.lt_of_le_of_lt (Nat.add_le_add_left (by decide:60≤64) _) hr.units
section
variable {X:Cx}
def EL (K:PySem.W.Frag) (neg:Bool):R2:=fun x y H Q=>∃ d e,Rep K H x d∧Rep K H y e∧vQ d∧vQ e∧Q (.bl (if neg then !PyData.eqv d e else PyData.eqv d e)) H
theorem Gj (hu:X.A.units+60<cLine):OpR X (compareOp .Eq) (EL X.K false):=by
 intro pins s σ H x y v u Q I rx ry h
 obtain⟨d,e,hd,he,fd,fe,q⟩:=h
 obtain⟨as,r1⟩:=hd.reads I rx
 obtain⟨bs,r2⟩:=he.reads I ry
 exact SeqAt.compareEq_reads r1 r2 fd.1 fe.1 (by have:=fd.2; have:=fe.2; omega) ⟨.bl _,H,I,rfl,q⟩
theorem Ka (hu:X.A.units+60<cLine):OpR X (compareOp .NotEq) (EL X.K true):=by
 intro pins s σ H x y v u Q I rx ry h
 obtain⟨d,e,hd,he,fd,fe,q⟩:=h
 obtain⟨as,r1⟩:=hd.reads I rx
 obtain⟨bs,r2⟩:=he.reads I ry
 exact SeqAt.compareNe_reads r1 r2 fd.1 fe.1 (by have:=fd.2; have:=fe.2; omega) ⟨.bl _,H,I,rfl,q⟩
def HV (K:PySem.W.Frag) (neg:Bool):R2:=fun x y H Q=>∃ (p:Addr) (d:PyData) (ds:List PyData),y=.ref p∧Rep K H x d∧(Rep K H (.ref p) (.list ds)∨Rep K H (.ref p) (.tuple ds))∧vQ d∧vQ (.list ds)∧Q (.bl (if neg then !(ds.any fun y=>PyData.eqv y d) else ds.any fun y=>PyData.eqv y d)) H
theorem Gf (hu:X.A.units+60<cLine):OpR X (compareOp .In) (HV X.K false):=by
 intro pins s σ H x y v u Q I rx ry h
 obtain⟨p,d,ds,rfl,hd,he,fd,fe,q⟩:=h
 obtain⟨as,r1⟩:=hd.reads I rx
 have dp:PyData.depthAll ds+1≤40:=fe.2
 have fe1:PyData.canLayAll0 ds=true:=fe.1
 rcases he with he | he
 ·obtain⟨bs,r2⟩:=he.reads I ry
  exact SeqAt.in_list_reads r2 r1 fe1 fd.1 (by have:=fd.2; exact Oz5 hu this) ⟨.bl _,H,I,rfl,q⟩
 ·obtain⟨bs,r2⟩:=he.reads I ry
  exact SeqAt.in_tuple_reads r2 r1 fe1 fd.1 (by have:=fd.2; exact Oz5 hu this) ⟨.bl _,H,I,rfl,q⟩
theorem Ga (hu:X.A.units+60<cLine):OpR X (compareOp .NotIn) (HV X.K true):=by
 intro pins s σ H x y v u Q I rx ry h
 obtain⟨p,d,ds,rfl,hd,he,fd,fe,q⟩:=h
 obtain⟨as,r1⟩:=hd.reads I rx
 have dp:PyData.depthAll ds+1≤40:=fe.2
 have fe1:PyData.canLayAll0 ds=true:=fe.1
 rcases he with he | he
 ·obtain⟨bs,r2⟩:=he.reads I ry
  exact SeqAt.notIn_list_reads r2 r1 fe1 fd.1 (by have:=fd.2; exact Oz5 hu this) ⟨.bl _,H,I,rfl,q⟩
 ·obtain⟨bs,r2⟩:=he.reads I ry
  exact SeqAt.notIn_tuple_reads r2 r1 fe1 fd.1 (by have:=fd.2; exact Oz5 hu this) ⟨.bl _,H,I,rfl,q⟩
end
end L2
namespace HT
open PySem PyProof.Rows
noncomputable def resC (z:Bool):List (Bool×Bool)→Bool
 | []=>z
 | (e,c)::P=>if e=true then resC z P else c
def JS (op:CmpOp) (A:Around) (s:Shared) (y x:Value) (b:Bool):Prop :=
 ∀ (prog:Program) (w:World) (E:Value→Shared→Prop) (Q:Value→Shared→Prop),Q (.bool b) s→wpAny (model prog w) A (richCompare op y x) Q E s
section
open PySem.SeqAt
open PySem.AutoSeq1 (wpAny_loadPart')
open PySem.MeetsSeq PySem.MeetsSeq2 PySem.MeetsSeq3
theorem AQ (l b:Addr) (items items2:Array Value) (n n2:Nat) (dd dd2:Option Addr) (sl sl2:Array (Option Value)) (P:List (Bool×Bool)) (hlen:P.length=min items.size items2.size) :
  Meets (Builtin.«tuple.__lt__» ⟨[.ref l,.ref b],[]⟩)
   (fun A R s=>s.heap.get? l=some { cls:=.type "tuple",dict:=dd,data:=.seq items n,slots:=sl }∧s.heap.get? b=some { cls:=.type "tuple",dict:=dd2,data:=.seq items2 n2,slots:=sl2 } ∧
    (∀ j (h1:j<items.size) (h2:j<items2.size),EqAt A.in1 s items[j] items2[j] (P.getD j (true,true)).1∧((P.getD j (true,true)).1=false→JS .Lt A.in1 s items[j] items2[j] (P.getD j (true,true)).2)) ∧
    R (.ok (.ret (.bool (resC (decide (items.size<items2.size)) P)))) s) :=
 .of_wp fun prog w A R s h=>by
  obtain⟨hp,g,d,tk,os⟩:=s; obtain⟨hl,hb,he,h⟩:=h
  have f2:=AutoSeq1.sub_tuple_tuple
  have hZ:(items.toList.zip items2.toList).length=min items.size items2.size:=by simp
  wp_walk using wpAny_loadPart' hl,wpAny_loadPart' hb,wpAny_forIn_list _ (fun rest b s'=>b.1=none∧s'=⟨hp,g,d,tk,os⟩∧∃ i,rest=(items.toList.zip items2.toList).drop i∧i≤min items.size items2.size ∧
   R (.ok (.ret (.bool (resC (decide (items.size<items2.size)) (P.drop i))))) ⟨hp,g,d,tk,os⟩) _
  case turn =>
   rintro⟨y,x⟩ rest b s' ⟨hb',rfl,i,hz,hi,hR⟩
   have hlt:i<(items.toList.zip items2.toList).length:=by
    rcases Nat.lt_or_ge i (items.toList.zip items2.toList).length with h | h
    ·exact h
    ·rw[List.drop_of_length_le h] at hz; cases hz
   rw[List.drop_eq_getElem_cons hlt] at hz
   injection hz with hyx hrest
   have h1:i<items.size:=by omega
   have h2:i<items2.size:=by omega
   have ey:y=items[i]:=by
    have:=congrArg Prod.fst hyx
    simpa using this
   have ex:x=items2[i]:=by
    have:=congrArg Prod.snd hyx
    simpa using this
   subst ey ex
   have hP:i<P.length:=by omega
   have ePd:P.drop i=P.getD i (true,true)::P.drop (i+1):=by
    rw[List.drop_eq_getElem_cons hP]
    congr 1
    simp [List.getD,hP]
   rw[ePd] at hR
   obtain⟨q1,q2⟩:=he i h1 h2
   refine wpAny_bind (q1 prog w _ _ ?_)
   generalize P.getD i (true,true)=p at *
   obtain⟨e,c⟩:=p
   cases e with
   | true =>
    have hR':R (.ok (.ret (.bool (resC (decide (items.size<items2.size)) (P.drop (i+1)))))) ⟨hp,g,d,tk,os⟩:=hR
    wp_walk
    exact⟨rfl,rfl,i+1,hrest,by omega,hR'⟩
   | false =>
    have hR':R (.ok (.ret (.bool c))) ⟨hp,g,d,tk,os⟩:=hR
    have hri:=q2 rfl prog w
    wp_walk using hri
    exact⟨_,rfl,by simpa using hR'⟩
  case fin =>
   rintro⟨b1,b2⟩ s' ⟨hb',rfl,i,hz,hi,hR⟩
   simp only at hb'
   subst hb'
   have:i=min items.size items2.size:=by
    have:=congrArg List.length hz
    rw[List.length_nil,List.length_drop,hZ] at this
    omega
   rw[List.drop_of_length_le (by omega)] at hR
   wp_walk
   exact⟨_,rfl,by simpa [Builtin.Tuple.tupleCompareSizes,resC] using hR⟩
  case h =>
   exact⟨rfl,rfl,0,by simp,Nat.zero_le _,by simpa using h⟩
end
end HT
namespace HT
open PySem PyProof.Rows PySem.SeqAt
theorem eqvAll_ints:∀ ns ms:List Int,PyData.eqvAll (ns.map PyData.int) (ms.map PyData.int)=decide (ns=ms)
 | [],[]=>rfl
 | [],_::_=>rfl
 | _::_,[]=>rfl
 | n::ns,m::ms=>by
  show (n == m && PyData.eqvAll (ns.map PyData.int) (ms.map PyData.int))=_
  rw[eqvAll_ints ns ms]
  by_cases h:n=m
  ·subst h
   by_cases h2:ns=ms <;> simp [h2]
  ·simp [h]
theorem canLay_ints:∀ ns:List Int,PyData.canLayAll0 (ns.map PyData.int)=true
 | []=>rfl
 | n::ns=>canLay_ints ns
theorem depth_ints:∀ ns:List Int,PyData.depthAll (ns.map PyData.int)=0
 | []=>rfl
 | n::ns=>by
  show max 0 (PyData.depthAll (ns.map PyData.int))=0
  rw[depth_ints ns]
  rfl
theorem yI {h:Heap}:∀ {ns:List Int} {its:List Value},IntsAre its ns→∃ as,ReadsAll h its (ns.map PyData.int) as
 | [],_,.nil=>⟨[],.nil⟩
 | n::ns,_,.cons _ t r=>by
  obtain⟨as,q⟩:=yI (h:=h) r
  exact⟨[]++as,.cons (.int n t) q⟩
theorem eqAt_tups {A:Around} {s:Shared} {l b:Addr} {its its2:List Value} {ns ms:List Int} (hl:IsTup s.heap l its.toArray) (hb:IsTup s.heap b its2.toArray) (hi:IntsAre its ns) (hj:IntsAre its2 ms) (hu:A.units+1<cLine) :
  EqAt A s (.ref l) (.ref b) (decide (ns=ms)):=by
 obtain⟨o,e,c,n,d⟩:=hl
 obtain⟨o2,e2,c2,n2,d2⟩:=hb
 obtain⟨as,r1⟩:=yI (h:=s.heap) hi
 obtain⟨bs,r2⟩:=yI (h:=s.heap) hj
 have R1:Reads s.heap (.ref l) (.tuple (ns.map PyData.int)) as:=.tuple e c d (by simpa using r1)
 have R2:Reads s.heap (.ref b) (.tuple (ms.map PyData.int)) bs:=.tuple e2 c2 d2 (by simpa using r2)
 have:=eqAt_reads _ _ A s _ _ _ _ R1 R2 (canLay_ints ns) (canLay_ints ms) (by
  show A.units+min (PyData.depthAll _+1) (PyData.depthAll _+1)<cLine
  rw[depth_ints,depth_ints]
  simpa using hu)
 have e3:PyData.eqv (.tuple (ns.map PyData.int)) (.tuple (ms.map PyData.int))=decide (ns=ms):=eqvAll_ints ns ms
 rwa [e3] at this
theorem yU:∀ {ns:List Int} {its:List Value},IntsAre its ns→∀ j (h:j<its.length),∃ t,its[j]=.int (ns.getD j 0) t
 | [],_,.nil,j,h=>by simp at h
 | n::ns,_,.cons _ t r,0,h=>⟨t,rfl⟩
 | n::ns,_,.cons _ t r,j+1,h=>by
  obtain⟨u,e⟩:=yU r j (by simpa using h)
  exact⟨u,by simpa using e⟩
noncomputable def yj (ns ms:List Int):List (Bool×Bool):=(ns.zip ms).map fun p=>(p.1 == p.2,decide (p.1<p.2))
noncomputable def lexC_lt (ns ms:List Int):Bool:=resC (decide (ns.length<ms.length)) (yj ns ms)
theorem rc_ints_lt {A:Around} {s:Shared} {l b:Addr} {its its2:List Value} {ns ms:List Int} (hl:IsTup s.heap l its.toArray) (hb:IsTup s.heap b its2.toArray) (hi:IntsAre its ns) (hj:IntsAre its2 ms) (hu:A.units<cLine) :
  JS .Lt A s (.ref l) (.ref b) (lexC_lt ns ms):=by
 intro prog w E Q h
 obtain⟨⟨cls,dd,data,sl⟩,ho,hc,n,hd⟩:=id hl
 obtain⟨⟨cls2,dd2,data2,sl2⟩,ho2,hc2,n2,hd2⟩:=id hb
 simp only at hc hd hc2 hd2
 subst hc hd hc2 hd2
 have z1:=hi.length
 have z2:=hj.length
 have hlen:(yj ns ms).length=min its.toArray.size its2.toArray.size:=by
  unfold yj
  rw[List.length_map,List.length_zip,List.size_toArray,List.size_toArray,z1,z2]
 refine richCompare_meets_room (op:=.Lt) ⟨_,ho,rfl⟩ ⟨_,ho2,rfl⟩ PySem.F.slot_tuple_lt PySem.F.entry_tuple_lt (PySem.F.args_tuple_lt_2 _ _) (AQ l b its.toArray its2.toArray n n2 dd dd2 sl sl2 (yj ns ms) hlen)
  ⟨ho,ho2,?_,?_⟩ hu
 ·intro j h1 h2
  rw[List.size_toArray] at h1 h2
  obtain⟨t,e1⟩:=yU hi j h1
  obtain⟨u,e2⟩:=yU hj j h2
  have ep:(yj ns ms).getD j (true,true)=(ns.getD j 0 == ms.getD j 0,decide (ns.getD j 0<ms.getD j 0)):=by
   unfold yj
   have h3:j<ns.length:=by exact Oz11 z1 h1
   have h4:j<ms.length:=by exact Oz11 z2 h2
   have hz:(ns.zip ms)[j]?=some (ns[j],ms[j]):=by
    rw[List.getElem?_eq_getElem (by rw[List.length_zip]; omega),List.getElem_zip]
   simp [List.getD,h3,h4,hz]
  rw[ep]
  have f1:its.toArray[j]=.int (ns.getD j 0) t:=by simpa using e1
  have f2:its2.toArray[j]=.int (ms.getD j 0) u:=by simpa using e2
  rw[f1,f2]
  exact⟨EqAt.int_int _ t _ u,fun _ prog w E Q q=>(lt_int q:wpAny (model prog w) _ (compareOp .Lt (.int _ t) (.int _ u)) Q E s)⟩
 ·have es:decide (its.toArray.size<its2.toArray.size)=decide (ns.length<ms.length):=by rw[List.size_toArray,List.size_toArray,z1,z2]
  rw[es]
  exact⟨(fun x=>nomatch x),h⟩
noncomputable def key_lt (x y:Int×List Int×List Int):Bool:=resC (decide (3<3)) [(x.1 == y.1,decide (x.1<y.1)),(decide (x.2.1=y.2.1),lexC_lt x.2.1 y.2.1),(decide (x.2.2=y.2.2),lexC_lt x.2.2 y.2.2)]
section
variable {l b:Addr}
end
end HT
namespace L2
open PySem PySem.Spec PyProof.Rows
theorem vals3 {i:Int} {a b:Addr} {its:List Value} (r:Vals [.int i,.ref a,.ref b] its):∃ t,its=[.int i t,.ref a,.ref b]:=by
 cases r with
 | cons h1 r =>
  cases r with
  | cons h2 r =>
   cases r with
   | cons h3 r =>
    cases r
    obtain⟨t,rfl⟩:=h1
    cases h2
    cases h3
    exact⟨t,rfl⟩
theorem D6 {X:Cx} {K:PySem.W.Frag} (h:X.K=K) (hu:X.A.units+60<cLine):OpR X (compareOp .Eq) (EL K false):=by subst h; exact Gj hu
def iOr (w1 w2:TI):TI:=fun σ H R=>w1 σ H R∨w2 σ H R
theorem BP {X:Cx} {tg l:Expr} {w1 w2:TI} (h1:PI X tg l w1) (h2:PI X tg l w2):PI X tg l (iOr w1 w2):=fun pins s σ H R I h=>by
 rcases h with h | h
 ·exact h1 pins s σ H R I h
 ·exact h2 pins s σ H R I h
section
variable {K:PySem.W.Frag} {a:Addr} {g:TG} {tt:TT} {te:TE} {Q:VK} {H:Hp}
theorem Bt {D:Addr} {τ:St} {H:Hp} {sq:Hp→List V→Prop} (xs:List V) (Pv:Nat→St→Hp→Prop) (h0:Pv 0 τ H) (hl:∀ i τ H,i≤xs.length→Pv i τ H→sq H xs)
  (hs:∀ i x T τ H (R:St→Hp→Prop),xs[i]?=some x→Pv i τ H→H T=none→(∀ τ' H',Pv (i+1) τ' H'→R τ' H')→wY D g tt te (.ref T) τ (upd H T (.tup [.int i,x])) R) (hd:∀ τ H,Pv xs.length τ H→Q (.ref D) H):wu D (Ite sq) g tt te Q τ H:=by
 refine⟨fun i m τ H=>m=xs.length-i∧i≤xs.length∧Pv i τ H,⟨xs.length,by simp,Nat.zero_le _,h0⟩,?_⟩
 rintro i m τ H2 ⟨rfl,hi,p⟩
 have q:=hl i τ H2 hi p
 by_cases hlt:i<xs.length
 ·have hx:xs[i]?=some xs[i]:=by simp [hlt]
  refine .inr ⟨⟨xs,_,q,hx⟩,fun x H' y=>?_⟩
  obtain⟨T,v,hT,e1,e2,y1⟩:=y
  subst e1 e2
  exact hs i _ T τ _ (fun τ' H'=>∃ m',m'<xs.length-i∧m'=xs.length-(i+1)∧i+1≤xs.length∧Pv (i+1) τ' H') (y1 xs q) p hT fun τ' H' p'=>⟨_,by exact Oz3 hlt,rfl,hlt,p'⟩
 ·have e:i=xs.length:=by exact Oz8 hi hlt
  subst e
  exact .inl ⟨⟨xs,q,Nat.le_refl _⟩,hd τ H2 p⟩
theorem wW (xs:List V) (hq:Sq K H a xs) (ix:St) (Pv:Addr→Nat→St→Hp→Prop) (h0:∀ D,H D=none→Pv D 0 ix (upd H D (.lst []))) (hl:∀ D i τ H',H D=none→Pv D i τ H'→Same H H')
  (hs:∀ D i x T τ H' (R:St→Hp→Prop),H D=none→xs[i]?=some x→Pv D i τ H'→H' T=none→(∀ τ' H',Pv D (i+1) τ' H'→R τ' H')→wY D g tt te (.ref T) τ (upd H' T (.tup [.int i,x])) R) (hd:∀ D τ H',H D=none→Pv D xs.length τ H'→Q (.ref D) H') :
  ((∃ xs,SqL K H a xs)∧∀ D,H D=none→wu D (Ite fun H xs=>SqL K H a xs) g tt te Q ix (upd H D (.lst [])))∨((∃ xs,SqT K H a xs)∧∀ D,H D=none→wu D (Ite fun H xs=>SqT K H a xs) g tt te Q ix (upd H D (.lst []))):=by
 rcases hq with hq | hq
 ·exact .inl ⟨⟨_,hq⟩,fun D hD=>Bt xs (Pv D) (h0 D hD) (fun i τ H' _ p=>(hl D i τ H' hD p).seq hq) (fun i x T τ H' R hx p hT nx=>hs D i x T τ H' R hD hx p hT nx) (fun τ H'=>hd D τ H' hD)⟩
 ·exact .inr ⟨⟨_,hq⟩,fun D hD=>Bt xs (Pv D) (h0 D hD) (fun i τ H' _ p=>Cn (hl D i τ H' hD p) hq) (fun i x T τ H' R hx p hT nx=>hs D i x T τ H' R hD hx p hT nx) (fun τ H'=>hd D τ H' hD)⟩
end
def Ek (K:PySem.W.Frag):V→List V→Hp→VK→Prop:=fun x vs H Q=>∃ (l:Addr) (y:V) (d:PyData) (ds:List PyData),x=.ref l∧vs=[y]∧Rep K H y d∧Rep K H (.ref l) (.list ds)∧vQ d∧vQ (.list ds)∧Q (.int (ds.countP fun z=>PyData.eqv z d)) H
theorem BB {X:Cx} {K:PySem.W.Frag} (hK:X.K=K) (hu:X.A.units+60<cLine):MtR X "list.count" (Ek K):=by
 subst hK
 intro pins s σ H x vs v us Q I rx rv h
 obtain⟨l,y,d,ds,rfl,rfl,hd,he,fd,fe,q⟩:=h
 cases rx
 cases rv with
 | @cons _ u1 _ _ r1 rv =>
  cases rv
  obtain⟨as,R1⟩:=hd.reads I r1
  obtain⟨bs,R2⟩:=he.reads I (show RelV (.ref l) (.ref l) from rfl)
  have dp:PyData.depthAll ds+1≤40:=fe.2
  have fe1:PyData.canLayAll0 ds=true:=fe.1
  cases R2 with
  | @list _ o its n _ as' e1 e2 e3 e4 =>
   have M:=SeqAt.list_countAt l its n o.dict o.slots u1 (fun z=>PyData.eqv (SeqAt.readOf s.heap z) d)
   have eo:s.heap.get? l=some { cls:=.type "list",dict:=o.dict,data:=.seq its n,slots:=o.slots }:=by
    rw[e1,← e2,← e3]
   refine call_meets F.slot_list_count ⟨_,e1,e2⟩ F.entry_list_count (F.args_list_count_2 _ _) M ⟨eo,fun z hz=>?_,?_⟩
   ·obtain⟨d',as2,R3,c3,dp3⟩:=SeqAt.readsAll_mem ds its.toList as' fe1 e4 z (by simpa using hz)
    have er:SeqAt.readOf s.heap z=d':=by
     have:=SeqAt.readsAll_map [d'] [z] _ (by show (PyData.canLay0 d' && true)=true; rw[c3]; rfl) (.cons R3 .nil)
     simpa using this
    rw[er]
    refine SeqAt.eqAt_reads d' d _ s z u1 as2 as R3 R1 c3 fd.1 ?_
    have:=fd.2
    show X.A.units+1+min d'.depth d.depth<cLine
    exact Oz5 hu this
   ·refine⟨.int _,H,I.tok _,⟨_,rfl⟩,?_⟩
    have ec:its.toList.countP (fun z=>PyData.eqv (SeqAt.readOf s.heap z) d)=ds.countP fun z=>PyData.eqv z d:=by
     rw[← SeqAt.readsAll_map ds its.toList as' fe1 e4,List.countP_map]
     rfl
    rw[ec]
    exact q
theorem Kl {X:Cx} {K:PySem.W.Frag} {T:String} {o e:Expr} {es:List Expr} {to:TE} {t:TA} {name:Str} {apos cpos:Pos} {id:String} {r:V→List V→Hp→VK→Prop} (hK:X.K=K) (pa:PlainAttrs T) (slot:Slot T name id) (hty:typeOf (.builtin id)=pure (.type "method_descriptor")) (hm:MtR X id r) (ho:PE X o to) (ha:PA X (e::es) t)
  (hbase:attributeBase o name X.env (eval o X.env)=eval o X.env:=by rfl)
  (hfew:((backTo cpos (starEach (e::es) X.env)).all (fun x=>!x.1) && (backToKw cpos (keywordEach [] X.env)).all (fun x=>x.1.isSome)
   && decide ((e::es).length+([]:List Keyword).length+(if ([]:List Keyword).isEmpty then 0 else 1)<30))=true:=by rfl)
  (hline:(apos.endLine == cpos.line)=true:=by rfl) (hs:starEach (e::es) X.env=(false,eval e X.env)::starEach es X.env:=by rfl) (hplain:(backTo cpos (starEach es X.env)).any (·.1)=false:=by rfl) :
  PE X (.Call (.Attribute o name apos) (e::es) [] cpos) (tBM K T r to t):=by
 subst hK
 exact wD pa slot hty hm ho ha hbase hfew hline hs hplain
structure Mk0 (K:PySem.W.Frag) (C:Addr):Prop where
 makes:PySem.W.makesIn K C=true
 init:PySem.W.findIn K (.ref C) "__init__"=some (some (.builtin "object.__init__"))
 kp:PySem.W.keepIn K (.ref C)=true
def G6 (C:Addr):TE:=fun _ H Q=>∀ x dx,H x=none→H dx=none→dx≠x→Q (.ref x) (upd (upd H dx (.own x)) x (.ins C dx []))
section
variable {X:Cx} {C:Addr} {x:Str} {p pos apos:Pos}
theorem GT {pins:List (Addr×Obj)} {σ:St} {H:Hp} {s:Shared} {Q:VK} (M:Mk0 X.K C) (I:Inv X pins σ H s)
  (h:∀ x dx,H x=none→H dx=none→dx≠x→Q (.ref x) (upd (upd H dx (.own x)) x (.ins C dx []))) :
  wpAny (model X.prog X.w) X.A (call (.ref C) []) (EP X pins σ Q) X.xe s:=by
 have hq:=h (s.heap.objs.size+1) s.heap.objs.size (I.hok.fresh (Nat.le_succ _)) (I.hok.fresh (Nat.le_refl _)) (Nat.ne_of_lt (Nat.lt_succ_self _))
 have I2:=Inv.made (C:=C) I
 have Y:=PySem.W.makes_of (M:=model X.prog X.w) I.kIn M.makes
 have hx:((s.heap.push PySem.W.emptyDict).push (PySem.W.instObj C s.heap.objs.size)).get? (s.heap.objs.size+1)=some (PySem.W.instObj C s.heap.objs.size):=by
  have:=Heap.get?_push_size (s.heap.push PySem.W.emptyDict) (o:=PySem.W.instObj C s.heap.objs.size) rfl
  rwa [Heap.size_push] at this
 refine wpAny_call (GD I.kIn M.makes M.init (fun self=>PySem.W.Looks.of_pure (PySem.W.oi_bind self)) ?_)
 refine codeAny_call_builtin PySem.W.oi_plain PySem.W.entry_oi (PySem.W.check_slot PySem.W.oi_kind PySem.W.oi_split (PySem.W.Looks.andThen (PySem.W.Looks.andThen (PySem.W.Looks.ld hx) PySem.W.Looks.now) (PySem.W.Looks.keeps Y.top fun b o e=>Heap.get?_push_of_some (PySem.W.instObj C s.heap.objs.size) (Heap.get?_push_of_some PySem.W.emptyDict e))) (PySem.W.oi_args (Value.ref (s.heap.objs.size+1))) ?_)
 rw[PySem.W.oi_run]
 exact wpAny_pure ⟨rfl,⟨V.ref (s.heap.objs.size+1),_,I2,rfl,hq⟩⟩
theorem Ir (M:Mk0 X.K C) (hg:Gl X x) (hm:X.mg x=some (.ref C)) (hdb:(x == ("__debug__":Str))=false:=by decide):PE X (.Call (.Name x p) [] [] pos) (G6 C):=by
 intro pins s σ H Q I h
 refine wpAny_Call_Name_kw (zq I hg hm ?_ hdb)
 exact PySem.W.callWith_K0 I.kIn M.kp (GT M I h)
end
structure MkC (P:Program) (w:World) (K:PySem.W.Frag) (mg:Str→Option Value) (base:Heap) (x:Str) (C:Addr) (k:Nat) (ps:List Str) (sp:Sp):Prop where
 ex:∃ f fd,Mk K C f∧FnOk P w K mg base CX0 k f fd ps sp∧Binds K fd ps []
 at_:mg x=some (.ref C)
section
variable {X:Cx} {C:Addr} {x:Str} {j k:Nat} {ps:List Str} {sp:Sp} {p pos apos:Pos} {e o:Expr} {es:List Expr} {t:TA} {ta:TE} {m:Str}
theorem vG (M:MkC X.prog X.w X.K X.mg X.base x C j ps sp) (hr:Room k X.A) (hg:Gl X x) (ha:PA X (e::es) t) (hj:j+1≤k:=by decide) (hdb:(x == ("__debug__":Str))=false:=by decide)
  (he:starEach (e::es) X.env=(false,eval e X.env)::starEach es X.env:=by rfl) (hpl:(backTo pos (starEach es X.env)).any (·.1)=false:=by rfl) :
  PE X (.Call (.Name x p) (e::es) [] pos) (Fc C sp [] E0 t):=by
 obtain⟨f,fd,Mk,F,b⟩:=M.ex
 exact JH Mk F (hr.mono hj) hg M.at_ b .nil FY ha hdb he hpl
structure Disp (P:Program) (w:World) (K:PySem.W.Frag) (mg:Str→Option Value) (base:Heap) (m:Str) (k:Nat) (ps:List Str) (C:Addr) (sp:Sp):Prop where
 cls:Cls K C
 ex:∃ f fd,Meth K C m f∧FnOk P w K mg base CX0 k f fd ps sp∧Binds K fd ps []
def GV (D:Addr→Sp→Prop) (m:Str) (ta:TE) (t:TA):TE:=fun σ H Q=>ta σ H fun x H1=>∃ a C dx fs sp,x=.ref a∧H1 a=some (.ins C dx fs)∧fs.lookup m=none∧D C sp∧t σ H1 fun vs H2=>sp (.ref a::vs) H2 Q E0
theorem Jc {pins:List (Addr×Obj)} {σ:St} {H:Hp} {s:Shared} {Q:VK} {us:List Value} {vs:List V} {f:Addr} {fd:FuncData} (F:FnOk X.prog X.w X.K X.mg X.base CX0 k f fd ps sp) (hr:Room k X.A) (hb:Binds X.K fd ps [])
  (I:Inv X pins σ H s) (r:Vals vs us) (h:sp vs H Q E0):wpAny (model X.prog X.w) X.A (call (.ref f) us) (EP X pins σ Q) X.xe s:=by
 have:=Gg F hr hb .nil FY I r (by rw[List.append_nil]; exact h)
 exact this
theorem sF {D:Addr→Sp→Prop} {pl:Sem Bool} (he:PE X o ta) (hD:∀ C sp,D C sp→Disp X.prog X.w X.K X.mg X.base m j ps C sp) (hr:Room k X.A) (ha:PA X (e::es) t) (hj:j≤k:=by decide)
  (hst:starEach (e::es) X.env=(false,eval e X.env)::starEach es X.env:=by rfl) (hpl:(backTo pos (starEach es X.env)).any (·.1)=false:=by rfl)
  (ht:eval (.Call (.Attribute o m apos) (e::es) [] pos) X.env=(do
   let ov ← eval o X.env
   standAt apos.atName
   let (f,first) ← holding [ov] (getMethod ov m pl)
   callWith pos f first (backTo pos (starEach (e::es) X.env)) (backToKw pos (keywordEach [] X.env))):=by rfl) :
  PE X (.Call (.Attribute o m apos) (e::es) [] pos) (GV D m ta t):=by
 intro pins s σ H Q I h
 refine PySem.W.methodCall_KW (pl:=pl) (thn (he pins s σ H _ I h) fun u s1 ⟨x,H1,I1,rx,a,C,dx,fs,sp,ex,ea,l,d,q⟩=>?_) ht
 subst ex
 obtain rfl:u=Value.ref a:=rx
 obtain⟨c,f,fd,hm,F,hb⟩:=hD C sp d
 refine Fe I1 ea c hm l ?_
 refine PySem.W.callWith_K (first:=[.ref a]) (h₀:=X.base) I.ok.mod.kin hm.kp (thn (ha pos pins s1 σ H1 _ I1 q) fun us s2 ⟨vs,H2,I2,r,q2⟩=>⟨I2.kIn,?_⟩) hst hpl
 exact Jc (us:=.ref a::us) (vs:=.ref a::vs) F (hr.mono hj) hb I2 (.cons rfl r) q2
end
structure ICls (K:PySem.W.Frag) (C:Addr):Prop where
 cl:Cls K C
 ha:PySem.W.findIn K (.ref C) "__class__"=some (some (.builtin "object.__class__"))
 hn:PySem.W.specialIn K (.builtin "object.__class__") "__get__"=some (some (.builtin "getset_descriptor.__get__"))
 htk:PySem.W.takesIn K (.builtin "object.__class__")=some true
 hm:PySem.W.mroIn K C (.type "object")=some true
def K1 (K:PySem.W.Frag):V→Option Int→Option Int→Hp→VK→Prop:=fun x lo hi H Q=>∃ a xs,x=.ref a∧SqT K H a xs∧∀ p H',Same H H'→SqT K H' p (vo xs lo hi)→Q (.ref p) H'
theorem CC {X:Cx} {K:PySem.W.Frag} (h:X.K=K):SlR X (K1 K):=by
 subst h
 intro pins s σ H x v vl vu lo hi sl Q I rx hs pl pu h
 obtain⟨a,xs,rfl,T,q⟩:=h
 refine Ex pins s σ H _ v vl vu lo hi sl Q I rx hs pl pu ⟨a,xs,rfl,T,fun e=>q _ _ (Same.refl _) (by rw[e]; exact T),fun p hp=>q _ _ (fun b u z=>?_) (SqT.of fj)⟩
 rw[gS (kB z hp)]
 exact z
def GS (K:PySem.W.Frag):R2:=fun x y H Q=>∃ a b xs ys,x=.ref a∧y=.ref b∧SqT K H a xs∧SqT K H b ys∧xs.length+ys.length≤sizeLine∧∀ p H',Same H H'→SqT K H' p (xs++ys)→Q (.ref p) H'
theorem Iz {X:Cx}:OpR X (binaryOp .Add) (GS X.K):=by
 intro pins s σ H x y v u Q I rx ry h
 obtain⟨a,b,xs,ys,rfl,rfl,ha,hb,hz,q⟩:=h
 have sn:∀ p,H p=none→Same H (upd H p (.tup (xs++ys))):=fun p hp b u z=>by rw[gS (kB z hp)]; exact z
 by_cases hx:xs=[]
 ·subst hx
  cases rx
  cases ry
  obtain⟨its,r1,p1,_⟩:=I.tuple ha
  obtain⟨its2,r2,p2,_⟩:=I.tuple hb
  have e0:=r1.nil_iff.mpr rfl
  obtain⟨⟨cls,dd,data,sl⟩,ho,hc,n,hd⟩:=id p1
  obtain⟨⟨cls2,dd2,data2,sl2⟩,ho2,hc2,n2,hd2⟩:=id p2
  simp only at hc hd hc2 hd2
  subst hc hd hc2 hd2
  exact concat_meets ⟨_,ho,rfl⟩ ⟨_,ho2,rfl⟩ noFill_tuple_add seq_tuple_add PySem.F.slot_tuple_add PySem.F.entry_tuple_add (PySem.F.args_tuple_add_2 _ _)
   (tuple_addW0 a b its.toArray its2.toArray n n2 dd dd2 sl sl2 (by simp [e0])) ⟨ho,ho2,⟨.ref b,H,I,rfl,q _ _ (Same.refl _) hb⟩⟩
 ·refine Ej pins s σ H _ _ v u Q I rx ry ⟨a,b,xs,ys,rfl,rfl,ha,hb,hx,hz,fun e=>q _ _ (Same.refl _) (by rw[e,List.append_nil]; exact ha),fun _ p hp=>q _ _ (sn p hp) (SqT.of fj)⟩
def KS:V→Option Int→Option Int→Hp→VK→Prop:=fun x lo hi H Q=>∃ a xs,x=.ref a∧H a=some (.tup xs)∧∀ p H',Same H H'→H' p=some (.tup (vo xs lo hi))→Q (.ref p) H'
theorem Jp {X:Cx}:SlR X KS:=by
 intro pins s σ H x v vl vu lo hi sl Q I rx hs pl pu h
 obtain⟨a,xs,rfl,T,q⟩:=h
 refine Ex pins s σ H _ v vl vu lo hi sl Q I rx hs pl pu ⟨a,xs,rfl,SqT.of T,fun e=>q _ _ (Same.refl _) (by rw[e]; exact T),fun p hp=>q _ _ (fun b u z=>?_) fj⟩
 rw[gS (kB z hp)]
 exact z
def J8:R2:=fun x y H Q=>∃ a b xs ys,x=.ref a∧y=.ref b∧H a=some (.tup xs)∧H b=some (.tup ys)∧xs.length+ys.length≤sizeLine∧∀ p H',Same H H'→H' p=some (.tup (xs++ys))→Q (.ref p) H'
theorem HF {X:Cx}:OpR X (binaryOp .Add) J8:=by
 intro pins s σ H x y v u Q I rx ry h
 obtain⟨a,b,xs,ys,rfl,rfl,ha',hb',hz,q⟩:=h
 have ha:SqT X.K H a xs:=SqT.of ha'
 have hb:SqT X.K H b ys:=SqT.of hb'
 have sn:∀ p,H p=none→Same H (upd H p (.tup (xs++ys))):=fun p hp b u z=>by rw[gS (kB z hp)]; exact z
 by_cases hx:xs=[]
 ·subst hx
  cases rx
  cases ry
  obtain⟨its,r1,p1,_⟩:=I.tuple ha
  obtain⟨its2,r2,p2,_⟩:=I.tuple hb
  have e0:=r1.nil_iff.mpr rfl
  obtain⟨⟨cls,dd,data,sl⟩,ho,hc,n,hd⟩:=id p1
  obtain⟨⟨cls2,dd2,data2,sl2⟩,ho2,hc2,n2,hd2⟩:=id p2
  simp only at hc hd hc2 hd2
  subst hc hd hc2 hd2
  exact concat_meets ⟨_,ho,rfl⟩ ⟨_,ho2,rfl⟩ noFill_tuple_add seq_tuple_add PySem.F.slot_tuple_add PySem.F.entry_tuple_add (PySem.F.args_tuple_add_2 _ _)
   (tuple_addW0 a b its.toArray its2.toArray n n2 dd dd2 sl sl2 (by simp [e0])) ⟨ho,ho2,⟨.ref b,H,I,rfl,q _ _ (Same.refl _) hb'⟩⟩
 ·refine Ej pins s σ H _ _ v u Q I rx ry ⟨a,b,xs,ys,rfl,rfl,ha,hb,hx,hz,fun e=>q _ _ (Same.refl _) (by rw[e,List.append_nil]; exact ha'),fun _ p hp=>q _ _ (sn p hp) fj⟩
structure CompOkC (X:Cx) (scope:Scope) (y:Str) (cl:List (Str×Addr)) (N':List Str) (ix:List Nat) (nl:Nat):Prop where
 clos:closureFor scope X.env=pure cl
 sub:∀ z c,cl.lookup z=some c→X.env.cells.lookup z=some c
 has:∀ p∈(relabel scope X.env).names,(p.2=.cell∨p.2=.free)→(((y,0)::cl).lookup p.1).isSome=true
 lay:∀ n,cellsFrom n scope.names cl=(y,n)::cl
 push:∀ h:Heap,pushCells h scope.names=h.push { cls:=.type "cell",data:=.cell none }
 kind:scope.kind=.function
 names:∀ z∈scope.names,z.2=.local→scope.names.lookup z.1=some .local
 len:N'.length=ix.length+nl
 out:∀ (i j:Nat) (x:Str),ix[i]?=some j→N'[i]?=some x→(x == y)=false∧X.N[j]?=some x∧(X.env.kindOf x=some .cell∨X.env.kindOf x=some .free)∧((relabel scope X.env).names.lookup x=some .cell∨(relabel scope X.env).names.lookup x=some .free)
def OutsOkC (X:Cx) (scope:Scope) (y:Str):List Nat→List Str→Prop
 | [],_=>True
 | j::r,x::t=>((x == y)=false∧X.N[j]?=some x∧(X.env.kindOf x=some .cell∨X.env.kindOf x=some .free)∧((relabel scope X.env).names.lookup x=some .cell∨(relabel scope X.env).names.lookup x=some .free))∧OutsOkC X scope y r t
 | _::_,[]=>False
def IsRvd (h:Heap) (a l:Addr) (i:Int):Prop:=∃ o,h.get? a=some o∧o.cls=.type "reversed"∧o.data=.fields #[.ref l,rawInt i]
section
variable {prog:Program} {w:World} {A:Around} {E:Value→Shared→Prop} {s:Shared}
end
def JC (K:PySem.W.Frag):V→List V→Hp→VK→Prop:=fun x vs H Q=>∃ (l:Addr) (y:V) (d:PyData) (ds:List PyData) (j:Nat),x=.ref l∧vs=[y]∧j<1000∧Rep K H y d∧Rep K H (.ref l) (.list ds)∧vQ d∧vQ (.list ds) ∧
 (∃ z,ds[j]?=some z∧PyData.eqv z d=true)∧(∀ m z,m<j→ds[m]?=some z→PyData.eqv z d=false)∧Q (.int j) H
theorem Bm {X:Cx} {K:PySem.W.Frag} (hK:X.K=K) (hu:X.A.units+60<cLine):MtR X "list.index" (JC K):=by
 subst hK
 intro pins s σ H x vs v us Q I rx rv h
 obtain⟨l,y,d,ds,j,rfl,rfl,hj9,hd,he,fd,fe,⟨z0,hz0,ez0⟩,hno,q⟩:=h
 cases rx
 cases rv with
 | @cons _ u1 _ _ r1 rv =>
  cases rv
  obtain⟨as,R1⟩:=hd.reads I r1
  obtain⟨bs,R2⟩:=he.reads I (show RelV (.ref l) (.ref l) from rfl)
  have dp:PyData.depthAll ds+1≤40:=fe.2
  have fe1:PyData.canLayAll0 ds=true:=fe.1
  cases R2 with
  | @list _ o its n _ as' e1 e2 e3 e4 =>
   have emap:=SeqAt.readsAll_map ds its.toList as' fe1 e4
   have at_:∀ (m:Nat) (hm:m<its.size),ds[m]?=some (SeqAt.readOf s.heap its[m]):=fun m hm=>by
    rw[← emap,List.getElem?_map]
    simp [hm]
   have hj:j<its.size:=by
    have:=(List.getElem?_eq_some_iff.mp hz0).1
    have hl:ds.length=its.size:=by rw[← emap]; simp
    exact Oz79 this hl
   have M:=SeqAt.list_indexAt l its n o.dict o.slots u1 (fun z=>PyData.eqv (SeqAt.readOf s.heap z) d) j hj (by omega) (by
    have:=at_ j hj
    rw[hz0] at this
    cases this
    exact ez0) (fun m hm hlt=>hno m _ hlt (at_ m hm))
   have eo:s.heap.get? l=some { cls:=.type "list",dict:=o.dict,data:=.seq its n,slots:=o.slots }:=by
    rw[e1,← e2,← e3]
   refine call_meets F.slot_list_index ⟨_,e1,e2⟩ F.entry_list_index (F.args_list_index_2 _ _) M ⟨eo,fun z hz=>?_,?_⟩
   ·obtain⟨d',as2,R3,c3,dp3⟩:=SeqAt.readsAll_mem ds its.toList as' fe1 e4 z (by simpa using hz)
    have er:SeqAt.readOf s.heap z=d':=by
     have:=SeqAt.readsAll_map [d'] [z] _ (by show (PyData.canLay0 d' && true)=true; rw[c3]; rfl) (.cons R3 .nil)
     simpa using this
    rw[er]
    refine SeqAt.eqAt_reads d' d _ s z u1 as2 as R3 R1 c3 fd.1 ?_
    have:=fd.2
    show X.A.units+1+min d'.depth d.depth<cLine
    exact Oz5 hu this
   ·exact⟨.int _,H,I.tok _,⟨_,rfl⟩,q⟩
section
variable {κ:Type} [DecidableEq κ]
noncomputable def valV (kvs:List (κ×V)) (k:κ):Option V:=(kvs.find? fun kv=>decide (kv.1=k)).map (·.2)
noncomputable def putK (kvs:List (κ×V)) (k:κ) (v:V):List (κ×V) :=
 if (kvs.any fun kv=>decide (kv.1=k))=true then kvs.map (fun kv=>if kv.1=k then (kv.1,v) else kv) else kvs++[(k,v)]
theorem uN {p:κ×V} {r:List (κ×V)} {k:κ} (e:p.1=k):valV (p::r) k=some p.2:=by simp [valV,List.find?_cons,e]
theorem uV {p:κ×V} {r:List (κ×V)} {k:κ} (e:¬ p.1=k):valV (p::r) k=valV r k:=by simp [valV,List.find?_cons,e]
theorem yt (k:κ):∀ kvs:List (κ×V),(kvs.any fun kv=>decide (kv.1=k))=(valV kvs k).isSome
 | []=>rfl
 | p::r=>by
  rw[List.any_cons]
  by_cases e:p.1=k
  ·simp only [uN e,decide_eq_true e,Bool.true_or,Option.isSome_some]
  ·rw[uV e,decide_eq_false e,Bool.false_or]; exact yt k r
theorem Cw (k j:κ) (y:V):∀ kvs:List (κ×V),valV (kvs.map fun kv=>if kv.1=k then (kv.1,y) else kv) j=(valV kvs j).map fun x=>if j=k then y else x
 | []=>rfl
 | p::r=>by
  have ih:=Cw k j y r
  rw[List.map_cons]
  by_cases h:p.1=k
  ·rw[if_pos h]
   by_cases e:p.1=j
   ·rw[uN (p:=(p.1,y)) e,uN e,Option.map_some,if_pos (e.symm.trans h)]
   ·rw[uV (p:=(p.1,y)) e,uV e,ih]
  ·rw[if_neg h]
   by_cases e:p.1=j
   ·rw[uN (p:=p) e,uN e,Option.map_some,if_neg (fun z=>h (e.trans z))]
   ·rw[uV (p:=p) e,uV e,ih]
theorem By (k j:κ) (y:V):∀ kvs:List (κ×V),valV kvs k=none→valV (kvs++[(k,y)]) j=if j=k then some y else valV kvs j
 | [],_=>by
  by_cases e:k=j
  ·rw[if_pos e.symm]; exact uN (p:=(k,y)) e
  ·rw[if_neg (fun z=>e z.symm)]; exact uV (p:=(k,y)) e
 | p::r,hn=>by
  rw[List.cons_append]
  have hk:¬ p.1=k:=fun z=>by rw[uN z] at hn; cases hn
  rw[uV hk] at hn
  have ih:=By k j y r hn
  by_cases e:p.1=j
  ·rw[uN e,uN e,if_neg (fun z=>hk (e.trans z))]
  ·rw[uV e,uV e,ih]
theorem yK (kvs:List (κ×V)) (k j:κ) (y:V):valV (putK kvs k y) j=if j=k then some y else valV kvs j:=by
 unfold putK
 by_cases a:(kvs.any fun kv=>decide (kv.1=k))=true
 ·rw[if_pos a,Cw]
  rw[yt] at a
  by_cases e:j=k
  ·obtain⟨x,hx⟩:=Option.isSome_iff_exists.mp a
   rw[if_pos e,e,hx,Option.map_some,if_pos rfl]
  ·rw[if_neg e]
   cases valV kvs j with
   | none=>rfl
   | some x=>rw[Option.map_some,if_neg e]
 ·rw[if_neg a]
  refine By k j y kvs ?_
  rw[yt] at a
  cases q:valV kvs k with
  | none=>rfl
  | some x=>rw[q] at a; exact (a rfl).elim
theorem vX (kvs:List (κ×V)) (k:κ) (v:V):(putK kvs k v).length≤kvs.length+1:=by
 unfold putK
 split
 ·rw[List.length_map]; omega
 ·rw[List.length_append,List.length_cons,List.length_nil]; omega
theorem RelO.isSome_eq {o:Option V} {u:Option Value} (r:RelO o u):o.isSome=u.isSome:=by
 cases o with
 | none=>cases u with
  | none=>rfl
  | some _=>exact (show False from r).elim
 | some _=>cases u with
  | none=>exact (show False from r).elim
  | some _=>rfl
theorem KV.val {kvs:List (κ×V)} {vs:List (κ×Value)} (r:KV kvs vs) (k:κ):RelO (valV kvs k) (valueAt vs k):=by
 unfold KV at r
 induction r with
 | nil=>exact True.intro
 | @cons p q ps qs h t ih =>
  obtain⟨h1,h2⟩:=h
  by_cases e:p.1=k
  ·have e':q.1=k:=h1.symm.trans e
   have b:valueAt (q::qs) k=some q.2:=by simp [valueAt,List.find?_cons,e']
   rw[uN e,b]; exact h2
  ·have e':¬ q.1=k:=fun z=>e (h1.trans z)
   have b:valueAt (q::qs) k=valueAt qs k:=by simp [valueAt,List.find?_cons,e']
   rw[uV e,b]; exact ih
theorem KV.any {kvs:List (κ×V)} {vs:List (κ×Value)} (r:KV kvs vs) (k:κ):(kvs.any fun kv=>decide (kv.1=k))=vs.any fun kv=>decide (kv.1=k):=by
 unfold KV at r
 induction r with
 | nil=>rfl
 | cons h t ih=>rw[List.any_cons,List.any_cons,ih,h.1]
theorem KV.repl {kvs:List (κ×V)} {vs:List (κ×Value)} (r:KV kvs vs) (k:κ) {y:V} {u:Value} (ry:RelV y u) :
  KV (kvs.map fun kv=>if kv.1=k then (kv.1,y) else kv) (vs.map fun kv=>if kv.1=k then (kv.1,u) else kv):=by
 unfold KV at r ⊢
 induction r with
 | nil=>exact .nil
 | @cons p q ps qs h t ih =>
  rw[List.map_cons,List.map_cons]
  refine .cons ?_ ih
  obtain⟨h1,h2⟩:=h
  by_cases e:p.1=k
  ·rw[if_pos e,if_pos (h1.symm.trans e)]; exact⟨h1,ry⟩
  ·rw[if_neg e,if_neg (fun z=>e (h1.trans z))]; exact⟨h1,h2⟩
theorem KV.put {kvs:List (κ×V)} {vs:List (κ×Value)} (r:KV kvs vs) (k:κ) {y:V} {u:Value} (ry:RelV y u):KV (putK kvs k y) (stored vs k u):=by
 unfold putK stored
 rw[r.any k]
 by_cases e:(vs.any fun kv=>decide (kv.1=k))=true
 ·rw[if_pos e,if_pos e]; exact r.repl k ry
 ·rw[if_neg e,if_neg e]; exact Paired.snoc r ⟨rfl,ry⟩
theorem KV.length {kvs:List (κ×V)} {vs:List (κ×Value)} (r:KV kvs vs):kvs.length=vs.length:=Paired.length r
end
theorem Fj {P:Program} {w:World} {k:Key} {u:Value} (r:RelV (kV k) u):(uI P w).is k u=true:=by
 cases k with
 | inl i=>obtain⟨t,e⟩:=(show ∃ t,u=Value.int i t from r); subst e; exact DM P w i t
 | inr x=>obtain⟨t,e⟩:=(show ∃ t,u=Value.str x t from r); subst e; exact DO P w x t
theorem AY {P:Program} {w:World}:∀ {ks:List Key} {us:List Value},Vals (ks.map kV) us→ItemsAre (uI P w) ks us
 | [],_,r=>by rw[List.map_nil] at r; cases r; exact .nil
 | k::ks,_,r=>by
  rw[List.map_cons] at r
  cases r with
  | cons h t=>exact .cons (Fj h) (AY t)
abbrev KT (H:Hp):List (List Key×V)→List (List Key×Addr×Value)→Prop:=Paired fun p q=>p.1=q.1∧H q.2.1=some (.tup (p.1.map kV))∧RelV p.2 q.2.2
theorem KT.val {H:Hp} {kvs:List (List Key×V)} {xs:List (List Key×Addr×Value)} (r:KT H kvs xs) (k:List Key):RelO (valV kvs k) ((atKey xs k).map (·.2)):=by
 induction r with
 | nil=>exact True.intro
 | @cons p q ps qs h t ih =>
  obtain⟨h1,_,h2⟩:=h
  by_cases e:p.1=k
  ·have e':q.1=k:=h1.symm.trans e
   have b:atKey (q::qs) k=some q.2:=by simp [atKey,List.find?_cons,e']
   rw[uN e,b]; exact h2
  ·have e':¬ q.1=k:=fun z=>e (h1.trans z)
   have b:atKey (q::qs) k=atKey qs k:=by simp [atKey,List.find?_cons,e']
   rw[uV e,b]; exact ih
theorem KT.repl {H:Hp} {kvs:List (List Key×V)} {xs:List (List Key×Addr×Value)} (r:KT H kvs xs) (k:List Key) {y:V} {u:Value} (ry:RelV y u) :
  KT H (kvs.map fun kv=>if kv.1=k then (kv.1,y) else kv) (xs.map (putAt k u)):=by
 induction r with
 | nil=>exact .nil
 | @cons p q ps qs h t ih =>
  rw[List.map_cons,List.map_cons]
  refine .cons ?_ ih
  obtain⟨h1,h2,h3⟩:=h
  unfold putAt
  by_cases e:p.1=k
  ·rw[if_pos e,if_pos (h1.symm.trans e)]; exact⟨h1,h2,ry⟩
  ·rw[if_neg e,if_neg (fun z=>e (h1.trans z))]; exact⟨h1,h2,h3⟩
theorem KT.put {H:Hp} {kvs:List (List Key×V)} {xs:List (List Key×Addr×Value)} (r:KT H kvs xs) (k:List Key) {b:Addr} {y:V} {u:Value} (hb:H b=some (.tup (k.map kV))) (ry:RelV y u) :
  KT H (putK kvs k y) (storedH xs k b u):=by
 have e:(kvs.any fun kv=>decide (kv.1=k))=(atKey xs k).isSome:=by
  rw[yt,(r.val k).isSome_eq,Option.isSome_map]
 unfold putK storedH
 rw[e]
 by_cases q:(atKey xs k).isSome=true
 ·rw[if_pos q,if_pos q]; exact r.repl k ry
 ·rw[if_neg q,if_neg q]; exact Paired.snoc r ⟨rfl,hb,ry⟩
theorem KT.keeps {H H':Hp} {kvs:List (List Key×V)} {xs:List (List Key×Addr×Value)} (r:KT H kvs xs) (ht:∀ b ys,H b=some (.tup ys)→H' b=some (.tup ys)):KT H' kvs xs :=
 Paired.mapP r fun _ _ z=>⟨z.1,ht _ _ z.2.1,z.2.2⟩
section
variable {P:Program} {w:World} {H:Hp} {h:Heap} {a:Addr}
theorem IL {u:HO} (ok:HOk P w H h) (e:Rd H a u):ObjOk P w H h a u:=e.ok ok
theorem FG {kvs:List (Key×V)} (ok:HOk P w H h) (e:Rd H a (.dK kvs)):kvs.length≤sizeLine∧(a == sysModules)=false∧∃ vs,KV kvs vs∧h.DictOf (uI P w) a vs :=
 show ObjOk P w H h a (.dK kvs) from IL ok e
theorem KO {kvs:List (Key×V)} (ok:HOk P w H h) (e:H a=some (.dK kvs)):kvs.length≤sizeLine∧(a == sysModules)=false∧∃ vs,KV kvs vs∧h.DictOf (uI P w) a vs:=FG ok (.inl e)
theorem Ae {ks:List Key} (ok:HOk P w H h) (e:H a=some (.tup (ks.map kV))):(tupleKind (uI P w)).is h ks a:=by
 obtain⟨_,its,r,⟨o,h1,h2,n,h3⟩,_⟩:=(show ObjOk P w H h a (.tup (ks.map kV)) from ok a _ e)
 exact⟨o,its.toArray,n,h1,h2,h3,by simpa using AY r⟩
theorem FT {kvs:List (List Key×V)} (ok:HOk P w H h) (e:Rd H a (.dT kvs)):kvs.length≤sizeLine∧(a == sysModules)=false ∧
  ∃ xs,KT H kvs xs∧h.DictOfH (tupleKind (uI P w)) a xs:=by
 obtain⟨z,y,xs,r,o,es,ep,h1,h2,h3,h4,h5⟩:=(show ObjOk P w H h a (.dT kvs) from IL ok e)
 refine⟨z,y,xs,r,o,es,ep,h1,h2,h3,h4,fun x hx=>?_,h5⟩
 have all:∀ {l:List (List Key×V)} {m:List (List Key×Addr×Value)},KT H l m→∀ x∈m,(tupleKind (uI P w)).is h x.1 x.2.1:=by
  intro l m q
  induction q with
  | nil=>intro x hx; exact nomatch hx
  | @cons p q ps qs hq t ih =>
   intro x hx
   rcases List.mem_cons.mp hx with e | hx
   ·subst e
    exact Ae ok (by rw[← hq.1]; exact hq.2.1)
   ·exact ih x hx
 exact all r x hx
theorem IE {kvs:List (List Key×V)} (ok:HOk P w H h) (e:H a=some (.dT kvs)):kvs.length≤sizeLine∧(a == sysModules)=false ∧
  ∃ xs,KT H kvs xs∧h.DictOfH (tupleKind (uI P w)) a xs:=FT ok (.inl e)
end
def DGet (H:Hp) (a:Addr) (y:V) (r:Option V):Prop :=
 (∃ kvs k,Rd H a (.dK kvs)∧y=kV k∧r=valV kvs k)∨∃ kvs k b,Rd H a (.dT kvs)∧y=.ref b∧H b=some (.tup (k.map kV))∧r=valV kvs k
def DPut (H:Hp) (a:Addr) (y v:V) (H':Hp):Prop :=
 (∃ kvs k,H a=some (.dK kvs)∧y=kV k∧kvs.length<sizeLine∧H'=upd H a (.dK (putK kvs k v))) ∨
 ∃ kvs k b,H a=some (.dT kvs)∧y=.ref b∧H b=some (.tup (k.map kV))∧kvs.length<sizeLine∧H'=upd H a (.dT (putK kvs k v))
theorem DGet.t {H:Hp} {a b:Addr} {kvs:List (List Key×V)} {k:List Key} (e:H a=some (.dT kvs)) (eb:H b=some (.tup (k.map kV))):DGet H a (.ref b) (valV kvs k):=.inr ⟨kvs,k,b,.inl e,rfl,eb,rfl⟩
theorem DPut.t {H:Hp} {a b:Addr} {kvs:List (List Key×V)} {k:List Key} {v:V} (e:H a=some (.dT kvs)) (eb:H b=some (.tup (k.map kV))) (hl:kvs.length<sizeLine) :
  DPut H a (.ref b) v (upd H a (.dT (putK kvs k v))):=.inr ⟨kvs,k,b,e,rfl,eb,hl,rfl⟩
section
variable {X:Cx} {pins:List (Addr×Obj)} {σ:St} {H:Hp} {s:Shared} {a:Addr} {y v:V} {u r:Value} {o:Option V} {A:Around} {E:Value→Shared→Prop}
theorem Inv.big (I:Inv X pins σ H s):sysModules<s.heap.objs.size:=by
 have h:mainGlobals<s.heap.objs.size:=(I.mod.glob.keeps I.bk).lt
 exact Nat.lt_trans (by decide) h
theorem Hj {Q:Value→Shared→Prop} (hu:A.units+1<cLine) (I:Inv X pins σ H s) (g:DGet H a y (some v)) (ry:RelV y u) (h:∀ w' s',Inv X pins σ H s'→RelV v w'→Q w' s') :
  wpAny (model X.prog X.w) A (getItem (.ref a) u) Q E s:=by
 rcases g with ⟨kvs,k,e,ey,l⟩ | ⟨kvs,k,b,e,ey,eb,l⟩
 ·subst ey
  obtain⟨z,hd,vs,rel,dd⟩:=FG I.hok e
  obtain⟨w',hw,rw'⟩:=RelO.some_of (v:=v) (o:=valueAt vs k) (by rw[l]; exact rel.val k)
  exact wpAny_getItem_of (Fj ry) dd.mapOf hw (h w' _ (I.tok _) rw')
 ·subst ey
  cases (show u=Value.ref b from ry)
  obtain⟨z,hd,xs,rel,dd⟩:=FT I.hok e
  obtain⟨w',hw,rw'⟩:=RelO.some_of (v:=v) (o:=(atKey xs k).map (·.2)) (by rw[l]; exact rel.val k)
  obtain⟨p,hp,hp2⟩:=Option.map_eq_some_iff.mp hw
  refine wpAny_getItem_heap (tupleKind_room_in1 hu) (Ae I.hok eb) dd hp ?_
  rw[hp2]
  exact h w' _ (I.tok _) rw'
theorem AV {h':Heap} {t':Nat} {ob:HO} (I:Inv X pins σ H s) (mu:Mut (H a)) (hs:Heap.SameBut a s.heap h') (he:∃ q,h'.get? a=some q) (new:ObjOk X.prog X.w (upd H a ob) h' a ob) :
  Inv X pins σ (upd H a ob) { s with heap:=h',toks:=t' } :=
 I.write (x:=a) (e:=a) mu (.inl rfl) (fun b q hb z=>(hs.2 b hb).trans z) he new
theorem Kv {P:Program} {w:World} {H':Hp} {h':Heap} {kvs:List (Key×V)} {vs:List (Key×Value)} (z:kvs.length≤sizeLine) (hd:(a == sysModules)=false) (rel:KV kvs vs) (dd:h'.DictOf (uI P w) a vs) :
  ObjOk P w H' h' a (.dK kvs):=⟨z,hd,vs,rel,dd⟩
theorem GU {H':Hp} {Q:Unit→Shared→Prop} (hu:A.units+1<cLine) (I:Inv X pins σ H s) (g:DPut H a y v H') (ry:RelV y u) (rv:RelV v r) (h:∀ s',Inv X pins σ H' s'→Q () s') :
  wpAny (model X.prog X.w) A (setItem (.ref a) u r) Q E s:=by
 rcases g with ⟨kvs,k,e,ey,l,eH⟩ | ⟨kvs,k,b,e,ey,eb,l,eH⟩
 ·subst ey eH
  obtain⟨z,hd,vs,rel,dd⟩:=KO I.hok e
  have hz:vs.length≤sizeLine:=by rw[← rel.length]; exact z
  have hl:(putK kvs k v).length≤sizeLine:=by have:=vX kvs k v; exact Oz72 l this
  refine wpAny_setItem_pairs (hsz:=hz) (Fj ry) dd fun h' dd' hs=>h _ ?_
  have he:∃ q,h'.get? a=some q:=let ⟨q,_,_,hq,_⟩:=dd'; ⟨q,hq⟩
  exact AV I (by rw[e]; exact True.intro) hs he (Kv hl hd (rel.put k rv) dd')
 ·subst ey eH
  cases (show u=Value.ref b from ry)
  obtain⟨z,hd,xs,rel,dd⟩:=IE I.hok e
  have hz:xs.length≤sizeLine:=by rw[← Paired.length rel]; exact z
  have hl:(putK kvs k v).length≤sizeLine:=by have:=vX kvs k v; exact Oz72 l this
  refine wpAny_setItem_heap (hsz:=hz) (tupleKind_room_in1 hu) (Ae I.hok eb) dd fun h' dd' hs=>h _ ?_
  obtain⟨q,es,ep,hq,h2,h3,h4,_,h5⟩:=dd'
  refine AV I (by rw[e]; exact True.intro) hs ⟨q,hq⟩ ⟨hl,hd,_,(rel.put k eb rv).keeps fun c ys ec=>?_,q,es,ep,hq,h2,h3,h4,h5⟩
  rw[gS (BQ ec e (fun z=>nomatch z))]
  exact ec
end
def KB (i:Expr):Prop:=∀ ov iv,subscripted i false ov iv=operate [ov,iv] (getItem ov iv)
theorem Jb {prog:Program} {w:World} {A:Around} {E:Value→Shared→Prop} {s:Shared} {env:Env} {value slice:Expr} {pos:Pos} {T id:String} {Q:Value→Shared→Prop}
  (hl:typeLookup (.type T) "__getitem__"=pure (some (.builtin id))) (hs:KB slice)
  (h:wpAny (model prog w) A (eval value env) (fun o s₁=>wpAny (model prog w) A (eval slice env) (fun i s₂=>s₂.TypeIs o T∧wpAny (model prog w) A (getItem o i) Q E s₂) E s₁) E s) :
  wpAny (model prog w) A (eval (.Subscript value slice pos) env) Q E s:=by
 refine Subscript_ (wpAny_mono h (fun o s₁ h₁=>wpAny_mono h₁ (fun i s₂ h₂=>?_) fun _ _ x=>x) fun _ _ x=>x)
 obtain⟨hT,h₂⟩:=h₂
 unfold subscriptTail
 refine wpAny_bind ?_
 rw[getitemInPython_of_ne hT.not_modules]
 refine wpAny_bind (wpAny_specialOf hT hl ?_)
 have fin:wpAny (model prog w) A (subscripted slice false o i) (fun r s₃=>wpAny (model prog w) A (letTemporaryGo value o r >>= fun _=>pure r) Q E s₃) E s₂:=by
  rw[hs o i]
  exact wpAny_operating (wpAny_mono h₂ (fun r s₃ h₃=>wpAny_bind (wpAny_letTemporaryGo (wpAny_pure h₃))) fun _ _ x=>x)
 first
  | exact wpAny_pure (wpAny_bind fin)
  | exact wpAny_bind (wpAny_pure (wpAny_bind fin))
  | exact wpAny_bind fin
theorem Dr {X:Cx} {pins:List (Addr×Obj)} {σ:St} {H:Hp} {s:Shared} {a:Addr} {y:V} {o:Option V} (I:Inv X pins σ H s) (g:DGet H a y o):s.TypeIs (.ref a) "dict":=by
 rcases g with ⟨kvs,k,e,_,_⟩ | ⟨kvs,k,b,e,_,_,_⟩
 ·obtain⟨_,_,vs,_,dd⟩:=FG I.hok e
  exact dd.typeIs
 ·obtain⟨_,_,xs,_,dd⟩:=FT I.hok e
  exact dd.typeIs
def IV (td ty:TE):TE:=fun σ H Q=>td σ H fun x H1=>ty σ H1 fun y H2=>∃ a v,x=.ref a∧DGet H2 a y (some v)∧Q v H2
def IG (td ty tv:TE):TS:=fun D σ H=>tv σ H fun v H1=>td σ H1 fun x H2=>ty σ H2 fun y H3=>∃ a H4,x=.ref a∧DPut H3 a y v H4∧D.nx σ H4
section
variable {X:Cx} {o i e value:Expr} {pos pos' tpos:Pos} {td ty tv:TE}
theorem Eh (hu:X.A.units+1<cLine) (ho:PE X o td) (hi:PE X i ty) (hs:KB i):PE X (.Subscript o i pos) (IV td ty):=by
 intro pins s σ H Q I h
 refine Jb PySem.F.slot_dict_getitem.lookup hs (thn (ho pins s σ H _ I h) fun u s1 ⟨x,H1,I1,rx,q1⟩=>thn (hi pins s1 σ H1 _ I1 q1) fun iv s2 ⟨y,H2,I2,ry,a,v,ex,g,q2⟩=>?_)
 subst ex
 obtain rfl:u=Value.ref a:=rx
 exact⟨Dr I2 g,Hj hu I2 g ry fun w' s3 I3 rw'=>⟨v,H2,I3,rw',q2⟩⟩
theorem Ax (hu:X.A.units+1<cLine) (ho:PE X o td) (hi:PE X i ty) (hv:PE X value tv) (hs:swapsWith value (some (.Subscript o i pos')) pos.line X.env=pure false) :
  PS X (.Assign [.Subscript o i pos'] value pos) (IG td ty tv):=by
 intro pins s σ H D I h
 refine wpAny_Assign_Subscript (thn (hv pins s σ H _ I h) fun r s1 ⟨v,H1,I1,rv,q1⟩=>thn (ho pins s1 σ H1 _ I1 q1) fun u s2 ⟨x,H2,I2,rx,q2⟩=>thn (hi pins s2 σ H2 _ I2 q2) fun iv s3 ⟨y,H3,I3,ry,a,H4,ex,g,q3⟩=>?_) hs
 subst ex
 obtain rfl:u=Value.ref a:=rx
 exact GU hu I3 g ry rv fun s4 I4=>⟨σ,H4,I4,q3⟩
end
theorem BZ {P:Program} {w:World} {H:Hp} (h:Heap) (hb:sysModules<h.objs.size):ObjOk P w H (h.push { cls:=.type "dict",data:=.dict #[] }) h.objs.size (.dT []) :=
 ⟨Nat.zero_le _,beq_eq_false_iff_ne.mpr (Ne.symm (Nat.ne_of_lt hb)),[],.nil,_,#[],0,Heap.get?_push_size _ rfl,⟨rfl,rfl,rfl⟩,rfl,rfl,List.nodup_nil⟩
def GA:TE:=fun _ H Q=>∀ p,H p=none→Q (.ref p) (upd H p (.dT []))
section
variable {X:Cx} {pos:Pos}
theorem Ct:PE X (.Dict [] [] pos) GA:=fun pins s σ H Q I h =>
 wpAny_Dict_empty ⟨.ref s.heap.objs.size,_,I.laid (a:=s.heap.objs.size) (o:=.dT []) (t':=s.toks) (fun _ _ q=>Heap.get?_push_of_some _ q) (Nat.le_refl _) (BZ s.heap I.big),rfl,h _ (I.hok.fresh (Nat.le_refl _))⟩
end
structure M1 (X:Cx) (o:Expr) (m:Str) (apos:Pos) (e:Expr) (cpos:Pos):Prop where
 base:attributeBase o m X.env (eval o X.env)=eval o X.env
 few:((backTo cpos (starEach [e] X.env)).all (fun x=>!x.1) && (backToKw cpos (keywordEach [] X.env)).all (fun x=>x.1.isSome)
  && decide (([e]:List Expr).length+([]:List Keyword).length+(if ([]:List Keyword).isEmpty then 0 else 1)<30))=true
 line:(apos.endLine == cpos.line)=true
 trees:backTo cpos (starEach [e] X.env)=[(false,eval e X.env)]
structure M2 (X:Cx) (o:Expr) (m:Str) (apos:Pos) (e f:Expr) (cpos:Pos):Prop where
 base:attributeBase o m X.env (eval o X.env)=eval o X.env
 few:((backTo cpos (starEach [e,f] X.env)).all (fun x=>!x.1) && (backToKw cpos (keywordEach [] X.env)).all (fun x=>x.1.isSome)
  && decide (([e,f]:List Expr).length+([]:List Keyword).length+(if ([]:List Keyword).isEmpty then 0 else 1)<30))=true
 line:(apos.endLine == cpos.line)=true
 trees:backTo cpos (starEach [e,f] X.env)=[(false,eval e X.env),(false,eval f X.env)]
def KEnt (P:Params):List DictEntry→List (Str×V)→Prop
 | [],[]=>True
 | e::es,kv::r=>(∃ t,e.key=.str kv.1 t)∧e.hash=PyData.keyHash P kv.1∧RelV kv.2 e.val∧KEnt P es r
 | _,_=>False
structure KDct (P:Params) (K:PySem.W.Frag) (a:Addr) (kvs:List (Str×V)):Prop where
 sm:(a == sysModules)=false
 nd:(kvs.map (·.1)).Nodup
 ob:∃ es ep,K.lookup a=some ⟨.type "dict",none,.dict es ep,#[]⟩∧KEnt P es.toList kvs
end L2
namespace PySem
open Sem (wp)
namespace DictL
end DictL
end PySem
namespace PySem
open Sem (wp)
open PyProof.Rows
namespace SortD
section
variable {prog:Program} {w:World} {A:Around} {E:Value→Shared→Prop} {s:Shared} {K:Type} [DecidableEq K] {knd:KeyKind prog w K}
theorem check_sorted {M:Model} {x:Value} {Q:Unit→Shared→Prop} (h:Q () s):wpAny M A (checkBuiltinCall "sorted" ⟨[x],[]⟩) Q E s:=by
 unfold checkBuiltinCall
 rw[kind_sorted]
 exact wpAny_of_eq (args_sorted1 x) h
end
end SortD
end PySem
namespace L2
open PySem PySem.Spec PyProof.Rows
open PySem.Builtin PySem.Builtin.ObjectAttr PySem.Builtin.Getset_descriptor
open PySem.W (Frag Looks InstAt looks_findIn looks_specialIn looks_takesIn looks_mroIn looks_subIn looks_typeIn looks_clsIn)
noncomputable def Hh:List Value→Bool
 | .ref _::r=>Hh r
 | l=>l == bmVE
noncomputable def xOver (K:Frag) (C:Addr):Bool:=(PySem.W.clsIn K C).any fun cd=>Hh cd.mro && cd.hasDict
structure XFld (K:Frag) (C:Addr):Prop where
 sa:PySem.W.findIn K (.ref C) "__setattr__"=some (some (.builtin "object.__setattr__"))
 ov:xOver K C=true
 xc:XCls K C
end L2
namespace L2
open PySem PySem.Spec PyProof.Rows
open PySem.W (Frag Looks InstAt looks_findIn looks_specialIn looks_takesIn looks_mroIn looks_subIn looks_typeIn looks_clsIn tailIn nsOkIn nsIn)
noncomputable def excInI (K:Frag) (C fI:Addr):Bool:=match K.lookup C with
 | some ⟨.type "type",_,.cls cd,sl⟩=>(match cd.mro,sl.toList with
  | .ref C'::bm,[_,_,_,_,some (.builtin n),_]=>C' == C && n == "ValueError.__new__" && !cd.hasDel && tailIn K bmVE bm && nsOkIn K cd.ns && nsIn K cd.ns "__init__" == some (some (.ref fI))
  | _,_=>false)
 | _=>false
end L2
namespace L2
open PySem PySem.Spec PyProof.Rows
open PySem.W (Frag)
def loose:HO→Prop
 | .ext _=>True
 | .xd _=>True
 | _=>False
structure XUp (K:Frag) (mg:Str→Option Value) (x:Str) (T:Addr):Prop where
 at_:mg x=some (.ref T)
 ga:PySem.W.specialIn K (.ref T) "__getattribute__"=some (some (.builtin "type.__getattribute__"))
 rd:PySem.W.readsIn K T (.type "type")=true
 fi:PySem.W.findCls K (.ref T) (.type "type") "__init__"=some (.val (.builtin "ValueError.__init__"))
end L2
namespace L2
open PySem PySem.Spec PyProof.Rows
open PySem.W (Frag)
structure XMk (P:Program) (w:World) (K:Frag) (mg:Str→Option Value) (base:Heap) (x:Str) (C:Addr) (k:Nat) (ps:List Str) (sp:Sp):Prop where
 ex:∃ f fd,excInI K C f=true∧PySem.W.isFn K (.ref f)=true∧FnOk P w K mg base CX0 k f fd ps sp∧Binds K fd ps []
 at_:mg x=some (.ref C)
 kp:PySem.W.keepIn K (.ref C)=true
end L2
namespace L2
open PySem PySem.Spec PyProof.Rows
open PySem.W (Frag envX kla_fn kla_obj)
structure LamSc (sc:Scope) (x y:Str):Prop where
 kind:sc.kind=.function
 co:sc.isCoroutine=false
 gen:sc.isGenerator=false
 own:sc.names.lookup x=some .local
 free:sc.names.lookup y=some .free
 nocell:∀ z∈sc.names,z.2≠.cell
 only:∀ z∈sc.names,z.2=.free→z.1=y
noncomputable def K4 (c:Addr) (qual:Str):HO:=.ext (fun h=>h.CodeRec (.ref c) qual)
def LamTab (H:Hp) (P:Addr) (pos:Pos) (qual:Str):Prop:=H P=some (.tbl #[])∨∃ c,H P=some (.tbl #[rawInt pos.line,rawInt pos.col,.ref c])∧H c=some (K4 c qual)
end L2
namespace L2
open PySem PySem.Spec PyProof.Rows
open PySem.W (Frag envX kla_fn kla_obj)
def KpT (H H':Hp):Prop:=∀ b u,H b=some u→(∀ ps,u≠.tbl ps)→H' b=some u
end L2
namespace L2
open PySem PySem.Spec PyProof.Rows
end L2
namespace Srt
open PySem PyProof.Rows
structure MS where
 q:List Nat
 pd:List (Nat×Nat×Nat)
 g:Nat
set_option genInjectivity false in
structure SX where
 prog:Program
 w:World
 A:Around
 E:Value→Shared→Prop
 s:Shared
 κ:SortKind
 item:Nat→Keyed
 cmp:Nat→Nat→Bool
 n:Nat
 lt:∀ (i j:Nat),i<n→j<n→∀ (Q:Bool→Shared→Prop) (E':Value→Shared→Prop),Q (cmp i j) s→wpAny (model prog w) A (keyLt' κ (item i).1 (item j).1) Q E' s
noncomputable def SX.arr (X:SX) (q:List Nat):Array Keyed:=(q.map X.item).toArray
noncomputable def SX.emb (X:SX) (m:MS):SortSt:=SortSt.mk' X.κ (X.arr m.q) m.pd.toArray m.g none
structure FM (X:SX) {α β:Type} (c:StateT SortSt Sem α) (r:β→α) where
 p:MS→Option (β×MS)
 h:∀ m b m',p m=some (b,m')→∀ Q:α→SortSt→Prop,Q (r b) (X.emb m')→wpS (model X.prog X.w) X.A X.E X.s c Q (X.emb m)
section
variable {X:SX} {α β γ δ:Type}
noncomputable def FM.pure {r:β→α} {a:α} (b:β) (e:a=r b):FM X (Pure.pure a) r where
 p m:=some (b,m)
 h m b' m' hp Q hq:=by
  obtain⟨rfl,rfl⟩:=Prod.mk.inj (Option.some.inj hp)
  exact wpS_pure (e ▸ hq)
noncomputable def FM.bind {c:StateT SortSt Sem α} {k:α→StateT SortSt Sem γ} {r:β→α} {r':δ→γ} (x:FM X c r) (f:∀ b,FM X (k (r b)) r'):FM X (c >>= k) r' where
 p m:=match x.p m with
  | none=>none
  | some (b,m')=>(f b).p m'
 h m b m' hp Q hq:=by
  revert hp
  cases hx:x.p m with
  | none=>exact fun hp=>nomatch hp
  | some y =>
   obtain⟨b1,m1⟩:=y
   exact fun hp=>wpS_bind (x.h m b1 m1 hx _ ((f b1).h m1 b m' hp Q hq))
noncomputable def FM.no {c:StateT SortSt Sem α} {r:β→α}:FM X c r where
 p _:=none
 h _ _ _ hp:=nomatch hp
noncomputable def FM.cast {c c':StateT SortSt Sem α} {r:β→α} (e:c=c') (x:FM X c' r):FM X c r where
 p:=x.p
 h:=by subst e; exact x.h
noncomputable def FM.get:FM X (MonadState.get:StateT SortSt Sem SortSt) X.emb where
 p m:=some (m,m)
 h m b m' hp Q hq:=by
  obtain⟨rfl,rfl⟩:=Prod.mk.inj (Option.some.inj hp)
  exact wpS_get hq
noncomputable def FM.mod {f:SortSt→SortSt} (f':MS→MS) (e:∀ m,f (X.emb m)=X.emb (f' m)):FM X (_root_.modify f:StateT SortSt Sem PUnit) (id:PUnit→PUnit) where
 p m:=some (⟨⟩,f' m)
 h m b m' hp Q hq:=by
  obtain⟨rfl,rfl⟩:=Prod.mk.inj (Option.some.inj hp)
  exact wpS_modify (by rw[e]; exact hq)
noncomputable def FM.put {st:SortSt} (m0:MS) (e:st=X.emb m0):FM X (MonadStateOf.set st:StateT SortSt Sem PUnit) (id:PUnit→PUnit) where
 p m:=some (⟨⟩,m0)
 h m b m' hp Q hq:=by
  obtain⟨rfl,rfl⟩:=Prod.mk.inj (Option.some.inj hp)
  subst e
  exact wpAny_pure ⟨rfl,hq⟩
noncomputable def FM.rule {t:String}:FM X (liftM (PySem.rule t):StateT SortSt Sem Unit) (id:Unit→Unit) where
 p m:=some (⟨⟩,m)
 h m b m' hp Q hq:=by
  obtain⟨rfl,rfl⟩:=Prod.mk.inj (Option.some.inj hp)
  exact wpS_lift (wpAny_rule ⟨rfl,hq⟩)
noncomputable def FM.ite {c:Prop} [d:Decidable c] {a b:StateT SortSt Sem α} {r:β→α} (x:FM X a r) (y:FM X b r):FM X (if c then a else b) r where
 p m:=if c then x.p m else y.p m
 h m b m' hp Q hq:=by
  by_cases hc:c
  ·rw[if_pos hc] at hp ⊢; exact x.h m _ m' hp Q hq
  ·rw[if_neg hc] at hp ⊢; exact y.h m _ m' hp Q hq
noncomputable def xr (r:β→α):ForInStep β→ForInStep α
 | .done b=>.done (r b)
 | .yield b=>.yield (r b)
noncomputable def FM.loopP {r:β→α} {f:Nat→α→StateT SortSt Sem (ForInStep α)} (F:∀ i b,FM X (f i (r b)) (xr r)):List Nat→β→MS→Option (β×MS)
 | [],b,m=>some (b,m)
 | i::l,b,m=>match (F i b).p m with
  | none=>none
  | some (.done b',m')=>some (b',m')
  | some (.yield b',m')=>FM.loopP F l b' m'
theorem FM.loopH {r:β→α} {f:Nat→α→StateT SortSt Sem (ForInStep α)} (F:∀ i b,FM X (f i (r b)) (xr r)):∀ (l:List Nat) (b:β) (m:MS) (b':β) (m':MS),FM.loopP F l b m=some (b',m')→∀ Q:α→SortSt→Prop,Q (r b') (X.emb m')→wpS (model X.prog X.w) X.A X.E X.s (forIn l (r b) f) Q (X.emb m)
 | [],b,m,b',m',hp,Q,hq=>by
  obtain⟨rfl,rfl⟩:=Prod.mk.inj (Option.some.inj hp)
  rw[List.forIn_nil]; exact wpS_pure hq
 | i::l,b,m,b',m',hp,Q,hq=>by
  rw[List.forIn_cons]
  unfold FM.loopP at hp
  cases hx:(F i b).p m with
  | none=>rw[hx] at hp; exact nomatch hp
  | some y =>
   obtain⟨z,m1⟩:=y
   rw[hx] at hp
   refine wpS_bind ((F i b).h m z m1 hx _ ?_)
   cases z with
   | done b1 =>
    obtain⟨rfl,rfl⟩:=Prod.mk.inj (Option.some.inj hp)
    exact wpS_pure hq
   | yield b1=>exact FM.loopH F l b1 m1 b' m' hp Q hq
noncomputable def FM.range {r:β→α} {a e:Nat} {a0:α} {f:Nat→α→StateT SortSt Sem (ForInStep α)} (b0:β) (e0:a0=r b0) (F:∀ i b,FM X (f i (r b)) (xr r)):FM X (forIn [a:e] a0 f) r where
 p m:=FM.loopP F (List.range' a (e-a)) b0 m
 h m b m' hp Q hq:=by
  subst e0
  rw[Std.Legacy.Range.forIn_eq_forIn_range']
  have hsz:([a:e]:Std.Legacy.Range).size=e-a:=by simp [Std.Legacy.Range.size]
  show wpS (model X.prog X.w) X.A X.E X.s (forIn (List.range' a ([a:e]:Std.Legacy.Range).size 1) (r b0) f) Q (X.emb m)
  rw[hsz]
  exact FM.loopH F _ b0 m b m' hp Q hq
noncomputable def FM.elem (q:List Nat) (i:Nat):FM X (elem' (X.arr q) i) X.item where
 p m:=match q[i]? with
  | none=>none
  | some k=>some (k,m)
 h m b m' hp Q hq:=by
  cases hx:q[i]? with
  | none=>rw[hx] at hp; exact nomatch hp
  | some k =>
   rw[hx] at hp
   obtain⟨rfl,rfl⟩:=Prod.mk.inj (Option.some.inj hp)
   rw[elem'_eq,show (X.arr q)[i]?=some (X.item k) by unfold SX.arr; rw[List.getElem?_toArray,List.getElem?_map,hx]; rfl]
   exact wpS_pure hq
noncomputable def FM.lt (i j:Nat):FM X (lt' (X.item i) (X.item j)) (some:Bool→Option Bool) where
 p m:=if i<X.n∧j<X.n then some (X.cmp i j,m) else none
 h m b m' hp Q hq:=by
  by_cases hn:i<X.n∧j<X.n
  ·rw[if_pos hn] at hp
   obtain⟨rfl,rfl⟩:=Prod.mk.inj (Option.some.inj hp)
   rw[lt'_eq]
   refine wpS_bind (wpS_get ?_)
   refine wpS_bind (wpS_lift (wpAny_attempt ?_))
   refine X.lt i j hn.1 hn.2 _ _ ?_
   exact⟨rfl,wpS_pure hq⟩
  ·rw[if_neg hn] at hp; exact nomatch hp
noncomputable def FM.ltAt (i j:Nat):FM X (ltAt' i j) (some:Bool→Option Bool) :=
 FM.bind FM.get fun m=>FM.bind (FM.elem m.q i) fun a=>FM.bind (FM.elem m.q j) fun b=>FM.lt a b
noncomputable def gallop':Bool→Keyed→Array Keyed→Nat→Nat→Nat→StateT SortSt Sem (Option Nat):=sortPriv% PySem.Builtin.gallop
noncomputable def mergeLo':Array Keyed→Array Keyed→StateT SortSt Sem (Array Keyed):=sortPriv% PySem.Builtin.mergeLo
noncomputable def mergeHi':Array Keyed→Array Keyed→StateT SortSt Sem (Array Keyed):=sortPriv% PySem.Builtin.mergeHi
noncomputable def FM.beyond (left:Bool) (k:Nat) (q:List Nat) (base i:Nat):FM X (elem' (X.arr q) (base+i) >>= fun x=>if left=true then lt' x (X.item k) else lt' (X.item k) x >>= fun o=>Pure.pure (Option.map (fun x=>!x) o)) (some:Bool→Option Bool) :=
 FM.bind (FM.elem q (base+i)) fun x=>FM.ite (FM.lt x k) (FM.bind (FM.lt k x) fun b=>FM.pure (!b) rfl)
noncomputable def FM.gallop (left:Bool) (k:Nat) (q:List Nat) (base n hint:Nat):FM X (gallop' left (X.item k) (X.arr q) base n hint) (some:Nat→Option Nat):=by
 refine FM.bind (FM.beyond left k q base hint) fun right=>?_
 refine FM.ite ?_ ?_
 all_goals
  refine FM.bind (r:=fun b:Nat×Nat=>((none:Option (Option Nat)),b.1,b.2)) (FM.range (0,1) rfl fun i b=>?_) fun b=>?_
  ·refine FM.ite (FM.pure (.done b) rfl) (FM.bind (FM.beyond left k q base _) fun more=>?_)
   exact FM.ite (FM.pure (.done b) rfl) (FM.pure (.yield (b.2,2 * b.2+1)) rfl)
  ·refine FM.bind (r:=fun b:Nat×Nat=>((none:Option (Option Nat)),b.1,b.2)) (FM.range (_,_) rfl fun i c=>?_) fun c=>FM.pure c.2 rfl
   refine FM.ite (FM.pure (.done c) rfl) (FM.bind (FM.beyond left k q base _) fun more=>?_)
   exact FM.ite (FM.pure (.yield (c.1+(c.2-c.1) / 2+1,c.2)) rfl) (FM.pure (.yield (c.1,c.1+(c.2-c.1) / 2)) rfl)
theorem HH (q:List Nat) (k:Nat):(X.arr q).push (X.item k)=X.arr (q++[k]):=by
 unfold SX.arr; rw[List.push_toArray,List.map_append]; rfl
theorem Jm (p q:List Nat):X.arr p++X.arr q=X.arr (p++q):=by
 unfold SX.arr; rw[List.append_toArray,List.map_append]
theorem x8 (q:List Nat) (i j:Nat):(X.arr q).extract i j=X.arr ((q.drop i).take (j-i)):=by
 unfold SX.arr; rw[List.extract_toArray,List.extract_eq_take_drop,List.map_take,List.map_drop]
theorem Ju (q:List Nat):(X.arr q).reverse=X.arr q.reverse:=by
 unfold SX.arr; rw[List.reverse_toArray,List.map_reverse]
noncomputable def setG':Nat→StateT SortSt Sem Unit:=sortPriv% PySem.Builtin.setMinGallop
noncomputable def FM.setG (g:Nat):FM X (setG' g) (id:Unit→Unit):=FM.mod (fun m=>{ m with g:=g }) fun _=>rfl
noncomputable abbrev Lr (X:SX) {ρ:Type} (b:Option (List Nat)×List Nat×ρ):Option (Array Keyed)×Array Keyed×ρ:=(b.1.map X.arr,X.arr b.2.1,b.2.2)
noncomputable def FM.doneS {ρ:Type} {a o:Array Keyed} {c:ρ} (q l:List Nat) (e:a=X.arr q) (e':o=X.arr l):FM X (Pure.pure (ForInStep.done (some a,o,c))) (xr (Lr X)):=FM.pure (.done (some q,l,c)) (by subst e e'; rfl)
noncomputable def FM.doneN {ρ:Type} {o:Array Keyed} {c:ρ} (l:List Nat) (e':o=X.arr l):FM X (Pure.pure (ForInStep.done ((none:Option (Array Keyed)),o,c))) (xr (Lr X)):=FM.pure (.done (none,l,c)) (by subst e'; rfl)
noncomputable def FM.yieldN {ρ:Type} {o:Array Keyed} {c:ρ} (l:List Nat) (e':o=X.arr l):FM X (Pure.pure (ForInStep.yield ((none:Option (Array Keyed)),o,c))) (xr (Lr X)):=FM.pure (.yield (none,l,c)) (by subst e'; rfl)
noncomputable abbrev Hr (X:SX) {ρ:Type} (b:Option (List Nat)×Nat×Nat×List Nat×ρ):Option (Array Keyed)×Nat×Nat×Array Keyed×ρ:=(b.1.map X.arr,b.2.1,b.2.2.1,X.arr b.2.2.2.1,b.2.2.2.2)
noncomputable def FM.doneS' {ρ:Type} {a o:Array Keyed} {i j:Nat} {c:ρ} (q l:List Nat) (e:a=X.arr q) (e':o=X.arr l):FM X (Pure.pure (ForInStep.done (some a,i,j,o,c))) (xr (Hr X)):=FM.pure (.done (some q,i,j,l,c)) (by subst e e'; rfl)
noncomputable def FM.doneN' {ρ:Type} {o:Array Keyed} {i j:Nat} {c:ρ} (l:List Nat) (e':o=X.arr l):FM X (Pure.pure (ForInStep.done ((none:Option (Array Keyed)),i,j,o,c))) (xr (Hr X)):=FM.pure (.done (none,i,j,l,c)) (by subst e'; rfl)
noncomputable def FM.yieldN' {ρ:Type} {o:Array Keyed} {i j:Nat} {c:ρ} (l:List Nat) (e':o=X.arr l):FM X (Pure.pure (ForInStep.yield ((none:Option (Array Keyed)),i,j,o,c))) (xr (Hr X)):=FM.pure (.yield (none,i,j,l,c)) (by subst e'; rfl)
theorem Jh (x:Nat):#[X.item x]=X.arr [x]:=rfl
local macro_rules | `(tactic| decreasing_trivial)=>`(tactic| ((try simp only [Lr,Hr,HH,x8,Jh,Ju,Jm]) <;> with_reducible rfl))
local macro_rules | `(tactic| trivial)=>`(tactic| (repeat' first
 | refine FM.bind (FM.elem _ _) fun _=>?_
 | refine FM.bind (FM.lt _ _) fun _=>?_
 | refine FM.bind (FM.gallop _ _ _ _ _ _) fun _=>?_
 | refine FM.bind FM.rule fun _=>?_
 | refine FM.bind (FM.setG _) fun _=>?_
 | exact FM.doneS _ _ (by decreasing_trivial) (by decreasing_trivial)
 | exact FM.doneN _ (by decreasing_trivial)
 | exact FM.yieldN _ (by decreasing_trivial)
 | refine FM.ite ?_ ?_))
noncomputable def FM.mergeLo (a b:List Nat):FM X (mergeLo' (X.arr a) (X.arr b)) X.arr:=by
 refine FM.bind FM.rule fun _=>FM.bind (FM.elem b 0) fun x=>?_
 refine FM.ite (FM.pure _ (by decreasing_trivial)) (FM.ite (FM.pure _ (by decreasing_trivial)) ?_)
 refine FM.bind FM.get fun m=>?_
 refine FM.bind (r:=Lr X) (FM.range (none,[x],0,1,m.g) rfl fun i b=>?_) fun b=>?_
 ·refine FM.bind (r:=Lr X) (FM.range (none,b.2.1,b.2.2.1,b.2.2.2.1,0,0) rfl fun i b=>?_) fun c=>?_
  ·trivial
  ·obtain⟨_ | q,l,ia,ib,ac,bc⟩:=c
   ·refine FM.bind FM.rule fun _=>?_
    refine FM.bind (r:=Lr X) (FM.range (none,l,ia,ib,b.2.2.2.2+1,ac,bc) rfl fun i d=>?_) fun d=>?_
    ·trivial
    ·obtain⟨_ | q,l,z⟩:=d
     ·trivial
     ·trivial
   ·trivial
 ·obtain⟨_ | q,l,z⟩:=b
  ·exact FM.no
  ·exact FM.pure q rfl
local macro_rules | `(tactic| trivial)=>`(tactic| (repeat' first
 | refine FM.bind (FM.elem _ _) fun _=>?_
 | refine FM.bind (FM.lt _ _) fun _=>?_
 | refine FM.bind (FM.gallop _ _ _ _ _ _) fun _=>?_
 | refine FM.bind FM.rule fun _=>?_
 | refine FM.bind (FM.setG _) fun _=>?_
 | exact FM.doneS' _ _ (by decreasing_trivial) (by decreasing_trivial)
 | exact FM.doneN' _ (by decreasing_trivial)
 | exact FM.yieldN' _ (by decreasing_trivial)
 | refine FM.ite ?_ ?_))
noncomputable def FM.mergeHi (a b:List Nat):FM X (mergeHi' (X.arr a) (X.arr b)) X.arr:=by
 refine FM.bind FM.rule fun _=>FM.bind (FM.elem a _) fun x=>?_
 refine FM.ite (FM.pure _ (by decreasing_trivial)) (FM.ite (FM.pure _ (by decreasing_trivial)) ?_)
 refine FM.bind FM.get fun m=>?_
 refine FM.bind (r:=Hr X) (FM.range (none,(X.arr a).size-1,(X.arr b).size,[x],m.g) rfl fun i b=>?_) fun b=>?_
 ·refine FM.bind (r:=Hr X) (FM.range (none,b.2.1,b.2.2.1,b.2.2.2.1,0,0) rfl fun i b=>?_) fun c=>?_
  ·trivial
  ·obtain⟨_ | q,ia,ib,l,ac,bc⟩:=c
   ·refine FM.bind FM.rule fun _=>?_
    refine FM.bind (r:=Hr X) (FM.range (none,ia,ib,l,b.2.2.2.2+1,ac,bc) rfl fun i d=>?_) fun d=>?_
    ·trivial
    ·obtain⟨_ | q,i1,i2,l,z⟩:=d
     ·trivial
     ·trivial
   ·trivial
 ·obtain⟨_ | q,i1,i2,l,z⟩:=b
  ·exact FM.no
  ·exact FM.pure q rfl
theorem Jo (q:List Nat) (i k:Nat):(X.arr q).setIfInBounds i (X.item k)=X.arr (q.set i k):=by
 unfold SX.arr; rw[List.setIfInBounds_toArray,List.map_set]
theorem CF (sa:Nat):∀ (l:List Nat) (n:Nat) (q:List Nat),((l.map X.item).zipIdx n).foldl (fun a x=>match x with | (p,j)=>a.setIfInBounds (sa+j) p) (X.arr q)=X.arr ((l.zipIdx n).foldl (fun a x=>a.set (sa+x.2) x.1) q)
 | [],_,_=>rfl
 | k::l,n,q=>by
  rw[List.map_cons,List.zipIdx_cons,List.zipIdx_cons,List.foldl_cons,List.foldl_cons]
  show List.foldl _ ((X.arr q).setIfInBounds (sa+n) (X.item k)) _=_
  rw[Jo]
  exact CF sa l (n+1) _
theorem Ih {α β:Type} (f:α→β) (xs:Array α) (i j:Nat):(xs.map f).swapIfInBounds i j=(xs.swapIfInBounds i j).map f:=by
 by_cases hi:i<xs.size
 ·by_cases hj:j<xs.size
  ·refine Array.ext_getElem? fun k=>?_
   rw[Array.getElem?_map,getElem?_swapIB hi hj,getElem?_swapIB (by simpa using hi) (by simpa using hj)]
   repeat' split
   all_goals rw[Array.getElem?_map]
  ·rw[Array.swapIfInBounds_def,Array.swapIfInBounds_def,dif_pos hi,dif_neg hj,dif_pos (by simpa using hi),dif_neg (by simpa using hj)]
 ·rw[Array.swapIfInBounds_def,Array.swapIfInBounds_def,dif_neg hi,dif_neg (by simpa using hi)]
theorem xh {α β:Type} (f:α→β) (u v:Nat→Nat):∀ (l:List Nat) (xs:Array α),l.foldl (fun a k=>a.swapIfInBounds (u k) (v k)) (xs.map f)=(l.foldl (fun a k=>a.swapIfInBounds (u k) (v k)) xs).map f
 | [],_=>rfl
 | k::l,xs=>by rw[List.foldl_cons,List.foldl_cons,Ih]; exact xh f u v l _
theorem zD (q:List Nat):X.arr q=q.toArray.map X.item:=by unfold SX.arr; simp
theorem Fq (q:List Nat) (i j d:Nat):mirror (X.arr q) i j d=X.arr (mirror q.toArray i j d).toList:=by
 rw[zD,zD]; exact xh X.item _ _ _ _
theorem E1 (q:List Nat) (i d:Nat):bubble (X.arr q) i d=X.arr (bubble q.toArray i d).toList:=by
 rw[zD,zD]; exact xh X.item _ _ _ _
noncomputable def FM.rev (i j:Nat):FM X (reverseSlice' i j) (id:Unit→Unit):=FM.mod (fun m=>{ m with q:=(mirror m.q.toArray i j ((j-i) / 2)).toList }) fun m=>by
 show SortSt.mk' X.κ (mirror (X.arr m.q) i j ((j-i) / 2)) _ _ _=_
 rw[Fq]; rfl
noncomputable def FM.down (i j:Nat):FM X (moveDown' i j) (id:Unit→Unit):=FM.mod (fun m=>{ m with q:=(bubble m.q.toArray i (i-j)).toList }) fun m=>by
 show SortSt.mk' X.κ (bubble (X.arr m.q) i (i-j)) _ _ _=_
 rw[E1]; rfl
noncomputable def FM.puts (sa:Nat) (l:List Nat):FM X (modify fun s=>SortSt.mk' (kindOf s) (List.foldl (fun a x=>match x with | (p,j)=>a.setIfInBounds (sa+j) p) (arrOf s) (X.arr l).toList.zipIdx) (pendingOf s) (gallopOf s) (failedOf s):StateT SortSt Sem PUnit) (id:PUnit→PUnit) :=
 FM.mod (fun m=>{ m with q:=l.zipIdx.foldl (fun a x=>a.set (sa+x.2) x.1) m.q }) fun m=>by
  show SortSt.mk' X.κ (List.foldl _ (X.arr m.q) (l.map X.item).zipIdx) _ _ _=_
  rw[CF]; rfl
noncomputable def FM.mergeAt (i:Nat):FM X (mergeAt' i) (fun _:Unit=>true):=by
 refine FM.bind FM.get fun m=>?_
 generalize h1:(pendingOf (X.emb m))[i]?=o1
 generalize h2:(pendingOf (X.emb m))[i+1]?=o2
 obtain _ | ⟨sa,na,pw⟩:=o1
 ·exact FM.no
 obtain _ | ⟨sb,nb,pw2⟩:=o2
 ·exact FM.no
 refine FM.bind (FM.put { m with pd:=(m.pd.set i (sa,na+nb,pw)).eraseIdx (i+1) } ?_) fun _=>?_
 ·show SortSt.mk' _ _ _ _ _=SortSt.mk' _ _ _ _ _
  congr 1
  simp [SX.emb]
 refine FM.bind (FM.elem m.q sb) fun x=>FM.bind (FM.gallop _ _ m.q _ _ _) fun k=>?_
 refine FM.ite (FM.pure () rfl) (FM.bind (FM.elem m.q _) fun y=>FM.bind (FM.gallop _ _ m.q _ _ _) fun nb'=>?_)
 refine FM.ite (FM.pure () rfl) (FM.ite ?_ ?_)
 ·exact FM.bind (FM.cast (by rw[← x8,← x8]; rfl) (FM.mergeLo ((m.q.drop (sa+k)).take (sb-(sa+k))) ((m.q.drop sb).take (sb+nb' - sb)))) fun l=>FM.bind (FM.puts (sa+k) l) fun _=>FM.bind FM.get fun _=>FM.pure () rfl
 ·exact FM.bind (FM.cast (by rw[← x8,← x8]; rfl) (FM.mergeHi ((m.q.drop (sa+k)).take (sb-(sa+k))) ((m.q.drop sb).take (sb+nb' - sb)))) fun l=>FM.bind (FM.puts (sa+k) l) fun _=>FM.bind FM.get fun _=>FM.pure () rfl
noncomputable def FM.count (lo nrem:Nat):FM X (countRun' lo nrem) (some:Nat→Option Nat):=by
 refine FM.bind (r:=fun n:Nat=>((none:Option (Option Nat)),n)) (FM.range 1 rfl fun i b=>FM.bind (FM.ltAt _ _) fun c=>FM.ite (FM.pure (.done b) rfl) (FM.pure (.yield (b+1)) rfl)) fun n=>?_
 refine FM.ite (FM.pure n rfl) ?_
 refine FM.ite (FM.bind (FM.ltAt _ _) fun c=>FM.ite (FM.pure n rfl) (FM.bind (FM.rev _ _) fun _=>?_)) ?_
 all_goals
  refine FM.bind FM.rule fun _=>?_
  refine FM.bind (r:=fun b:Nat×Nat=>((none:Option (Option Nat)),b.1,b.2)) (FM.range (n+1,0) rfl fun i b=>?_) fun b=>?_
  ·exact FM.bind (FM.ltAt _ _) fun c=>FM.ite (FM.ite (FM.bind (FM.rev _ _) fun _=>FM.pure (.yield (b.1+1,0)) rfl) (FM.pure (.yield (b.1+1,0)) rfl)) (FM.bind (FM.ltAt _ _) fun d=>FM.ite (FM.pure (.done b) rfl) (FM.pure (.yield (b.1+1,b.2+1)) rfl))
  ·refine FM.ite (FM.bind (FM.rev _ _) fun _=>?_) ?_
   all_goals exact FM.bind (FM.rev _ _) fun _=>FM.bind (r:=fun n:Nat=>((none:Option (Option Nat)),n)) (FM.range b.1 rfl fun i c=>FM.bind (FM.ltAt _ _) fun d=>FM.ite (FM.pure (.done c) rfl) (FM.pure (.yield (c+1)) rfl)) fun c=>FM.pure c rfl
noncomputable def FM.bin (lo n ok:Nat):FM X (binarySort' lo n ok) (fun _:Unit=>true):=by
 refine FM.bind (r:=fun _:Unit=>((none:Option Bool),())) (FM.range () rfl fun k _=>?_) fun _=>FM.pure () rfl
 refine FM.bind (r:=fun b:Nat×Nat=>((none:Option Bool),b.1,b.2)) (FM.range (0,k) rfl fun i b=>?_) fun b=>?_
 ·refine FM.ite (FM.pure (.done b) rfl) (FM.bind (FM.ltAt _ _) fun c=>FM.ite ?_ ?_)
  ·exact FM.pure (.yield (b.1,(b.1+b.2) / 2)) rfl
  ·exact FM.pure (.yield ((b.1+b.2) / 2+1,b.2)) rfl
 ·exact FM.bind (FM.down _ _) fun _=>FM.pure (.yield ()) rfl
noncomputable def FM.pushP (x:Nat×Nat×Nat):FM X (modify fun s=>setPending s ((pendingOf s).push x):StateT SortSt Sem PUnit) (id:PUnit→PUnit) :=
 FM.mod (fun m=>{ m with pd:=m.pd++[x] }) fun m=>by
  show SortSt.mk' _ _ (m.pd.toArray.push x) _ _=_
  rw[List.push_toArray]; rfl
noncomputable def FM.modP (pw:Nat):FM X (modify fun s=>setPending s ((pendingOf s).modify ((pendingOf s).size-1) fun x=>match x with | (st,len,_)=>(st,len,pw)):StateT SortSt Sem PUnit) (id:PUnit→PUnit) :=
 FM.mod (fun m=>{ m with pd:=m.pd.modify (m.pd.length-1) fun x=>(x.1,x.2.1,pw) }) fun m=>by
  show SortSt.mk' _ _ (m.pd.toArray.modify (m.pd.toArray.size-1) _) _ _=_
  rw[List.modify_toArray]; rfl
noncomputable def FM.runs:FM X sortRuns' (id:Unit→Unit):=by
 refine FM.bind FM.get fun m=>?_
 refine FM.bind (r:=fun lo:Nat=>((none:Option Unit),lo)) (FM.range 0 rfl fun i lo=>?_) fun lo=>?_
 ·refine FM.ite (FM.pure (ForInStep.done lo) rfl) (FM.bind (FM.count _ _) fun n=>?_)
  refine FM.ite (FM.bind FM.rule fun _=>FM.bind (FM.bin _ _ _) fun _=>FM.ite FM.no ?_) ?_
  all_goals
   refine FM.bind FM.get fun m2=>?_
   generalize hb:(pendingOf (X.emb m2)).back?=o
   obtain _ | ⟨s1,n1,z⟩:=o
   ·exact FM.bind (FM.pushP _) fun _=>FM.pure (ForInStep.yield (lo+_)) rfl
   ·refine FM.bind (r:=fun _:Unit=>((none:Option Unit),())) (FM.range () rfl fun i _=>?_) fun _=>FM.bind (FM.modP _) fun _=>FM.bind (FM.pushP _) fun _=>FM.pure (ForInStep.yield (lo+_)) rfl
    refine FM.bind FM.get fun m3=>?_
    dsimp only
    generalize hd:(if (pendingOf (X.emb m3)).size > 1 then (pendingOf (X.emb m3))[(pendingOf (X.emb m3)).size-2]? else none)=o3
    obtain _ | ⟨_,_,older⟩:=o3
    ·exact FM.pure (ForInStep.done ()) rfl
    ·exact FM.ite (FM.pure (ForInStep.done ()) rfl) (FM.bind (FM.mergeAt _) fun _=>FM.ite FM.no (FM.pure (ForInStep.yield ()) rfl))
 ·refine FM.bind (r:=fun _:Unit=>((none:Option Unit),())) (FM.range () rfl fun i _=>?_) fun _=>FM.pure () rfl
  exact FM.bind FM.get fun m3=>FM.ite (FM.pure (ForInStep.done ()) rfl) (FM.bind (FM.mergeAt _) fun _=>FM.ite FM.no (FM.pure (ForInStep.yield ()) rfl))
def SortsTo (cmp:Nat→Nat→Bool) (n:Nat) (out:List Nat):Prop:=∀ X:SX,X.cmp=cmp→X.n=n→∃ m,(FM.runs (X:=X)).p ⟨List.range n,[],7⟩=some ((),m)∧m.q=out
end
end Srt
namespace L2
open PySem PySem.Spec PyProof.Rows
theorem Inv.heldO {X:Cx} {pins:List (Addr×Obj)} {σ:St} {H:Hp} {s:Shared} {a:Addr} {u0:HO} (I:Inv X pins σ H s) (hn:H a=none) (hs:X.s₀.heap.get? a=none) (hL:a≠X.env.locals) (hc:∀ x c,X.env.cells.lookup x=some c→c≠a) (hp:∀ p∈X.pn++pins,p.1≠a)
  (new:ObjOk X.prog X.w (upd H a u0) s.heap a u0):Inv X pins σ (upd H a u0) s:=by
 have ne0:∀ b o,X.s₀.heap.get? b=some o→b≠a:=fun b o e z=>by rw[z,hs] at e; cases e
 refine⟨I.ok,I.os,I.bare,⟨I.base.keep,I.base.slot,fun b o e n hx=>?_,I.base.there,fun b xs e=>?_,fun b o u e=>?_,fun b ps e=>?_⟩,I.loc,I.cell,?_,fun x c e=>?_,fun p hp'=>?_,fun b u e=>?_,I.len⟩
 ·rw[gS (ne0 b o e)]; exact I.base.free b o e n hx
 ·rw[gS (kB (I.base.tups b xs e) hn)]; exact I.base.tups b xs e
 ·rw[gS (kB (I.base.frzs b o u e) hn)]; exact I.base.frzs b o u e
 ·obtain⟨more,z⟩:=I.base.tbls b ps e
  exact⟨more,by rw[gS (kB z hn)]; exact z⟩
 ·rw[gS (Ne.symm hL)]; exact I.free
 ·rw[gS (hc x c e)]; exact I.freeC x c e
 ·obtain⟨e1,e2,e3⟩:=I.pin p hp'
  exact⟨e1,by rw[gS (hp p hp')]; exact e2,e3⟩
 ·by_cases hb:b=a
  ·subst hb
   rw[fj] at e
   cases e
   exact new
  ·rw[gS hb] at e
   exact (I.hok b u e).stay (fun _ _ _ q=>q) (fun c q=>by rw[gS (kB q hn)]; exact q) fun c xs q=>by rw[gS (kB q hn)]; exact q
abbrev K3:=Int×List Int×List Int
def vU (K:PySem.W.Frag) (H:Hp) (v:V) (k:K3):Prop:=∃ p a b:Addr,v=.ref p∧SqT K H p [.int k.1,.ref a,.ref b]∧SqT K H a (k.2.1.map V.int)∧SqT K H b (k.2.2.map V.int)
section
variable {X:Cx} {pins:List (Addr×Obj)} {σ:St} {H:Hp} {s:Shared}
theorem Jx {k:Nat} {f:Addr} {fd:FuncData} {ps:List Str} {sp:Sp} {Q:VK} {us:List Value} {vs:List V} (F:FnOk X.prog X.w X.K X.mg X.base CX0 k f fd ps sp) (hr:Room k X.A.in1.in1) (hb:Binds X.K fd ps [])
  (I:Inv X pins σ H s) (r:Vals vs us) (h:sp vs H Q E0):wpAny (model X.prog X.w) X.A.in1.in1 (call (.ref f) us) (EP X pins σ Q) (fun _ _=>False) s:=by
 have hl:us.length=ps.length:=by rw[← r.length]; exact F.len _ _ _ _ h
 have hb':=hb s us I.kIn (by simpa using hl)
 rw[List.append_nil] at hb'
 refine wpAny_call (codeAny_mono (F.run X.A.in1.in1 X.stack s H ⟨us,[]⟩ us vs Q E0 hr I.env0.in1.in1 hb' r h) fun r s' hq=>?_)
 cases r with
 | error e=>exact hq.elim
 | ok fl =>
  cases fl with
  | ret u=>exact I.after hq
  | next=>exact False.elim hq
  | brk=>exact False.elim hq
  | cont=>exact False.elim hq
theorem Ji {A:Around} {u v:Value} {x y:V} {k k':K3} (I:Inv X pins σ H s) (hu:A.units+60<cLine) (ku:vU X.K H x k) (kv:vU X.K H y k') (ru:RelV x u) (rv:RelV y v) (Q:Bool→Shared→Prop) (E:Value→Shared→Prop) (h:Q (HT.key_lt k k') s) :
  wpAny (model X.prog X.w) A (keyLt' (tuples' true) u v) Q E s:=by
 obtain⟨p,a,b,rfl,P1,A1,B1⟩:=ku
 obtain⟨q,c,d,rfl,P2,C1,D1⟩:=kv
 cases ru
 cases rv
 obtain⟨it1,r1,t1,_⟩:=I.tuple P1
 obtain⟨it2,r2,t2,_⟩:=I.tuple P2
 obtain⟨u1,rfl⟩:=vals3 r1
 obtain⟨u2,rfl⟩:=vals3 r2
 obtain⟨ia,ra,ta,_⟩:=I.tuple A1
 obtain⟨ib,rb,tb,_⟩:=I.tuple B1
 obtain⟨ic,rc,tc,_⟩:=I.tuple C1
 obtain⟨id',rd,td,_⟩:=I.tuple D1
 obtain⟨o1,ho1,_,n1,hd1⟩:=id t1
 obtain⟨o2,ho2,_,n2,hd2⟩:=id t2
 refine PySem.W.kat_lt ho1 hd1 ho2 hd2 ?_
 refine PySem.W.kat_cons (SeqAt.EqAt.int_int _ u1 _ u2 _ _ _ _ ?_)
 by_cases e0:k.1=k'.1
 ·rw[show (k.1 == k'.1)=true by simp [e0]]
  refine PySem.W.kat_yes (PySem.W.kat_cons (HT.eqAt_tups ta tc (ints_are ra) (ints_are rc) (by exact Oz85 hu) _ _ _ _ ?_))
  by_cases e1:k.2.1=k'.2.1
  ·rw[decide_eq_true e1]
   refine PySem.W.kat_yes (PySem.W.kat_cons (HT.eqAt_tups tb td (ints_are rb) (ints_are rd) (by exact Oz85 hu) _ _ _ _ ?_))
   by_cases e2:k.2.2=k'.2.2
   ·rw[decide_eq_true e2]
    refine PySem.W.kat_yes (PySem.W.kat_nil ?_)
    have z:HT.key_lt k k'=false:=by simp [HT.key_lt,HT.resC,e0,e1,e2]
    rw[z] at h
    exact h
   ·rw[decide_eq_false e2]
    have z:HT.key_lt k k'=HT.lexC_lt k.2.2 k'.2.2:=by simp [HT.key_lt,HT.resC,e0,e1,e2]
    rw[z] at h
    exact PySem.W.kat_no (PySem.W.kat_one _ _ (HT.rc_ints_lt tb td (ints_are rb) (ints_are rd) (by exact Oz89 hu) _ _ _ _ h))
  ·rw[decide_eq_false e1]
   have z:HT.key_lt k k'=HT.lexC_lt k.2.1 k'.2.1:=by simp [HT.key_lt,HT.resC,e0,e1]
   rw[z] at h
   exact PySem.W.kat_no (PySem.W.kat_one _ _ (HT.rc_ints_lt ta tc (ints_are ra) (ints_are rc) (by exact Oz89 hu) _ _ _ _ h))
 ·rw[show (k.1 == k'.1)=false by simp [e0]]
  have z:HT.key_lt k k'=decide (k.1<k'.1):=by simp [HT.key_lt,HT.resC,e0]
  rw[z] at h
  exact PySem.W.kat_no (oneLt_int h)
end
def yk (sp:Sp) (kS:Addr) (Fin:List V→Hp→Prop):List V→List V→Hp→Prop
 | [],ks,H=>Fin ks H
 | x::r,ks,H=>sp [x] H (fun k H'=>H' kS=some (.lst ks)∧yk sp kS Fin r (ks++[k]) (upd H' kS (.lst (ks++[k])))) E0
section
variable {X:Cx} {pins:List (Addr×Obj)} {σ:St}
theorem Cy {k:Nat} {f kS:Addr} {fd:FuncData} {ps:List Str} {sp:Sp} {Fin:List V→Hp→Prop} {E:Value→Shared→Prop} {body:Value→PUnit→Sem (ForInStep PUnit)} (F:FnOk X.prog X.w X.K X.mg X.base CX0 k f fd ps sp) (hr:Room k X.A.in1.in1) (hb:Binds X.K fd ps [])
  (hbody:∀ (x:Value) (s:Shared) (R:Shared→Prop),wpAny (model X.prog X.w) X.A.in1.in1 (call (.ref f) [x]) (fun k s'=>wpAny (model X.prog X.w) X.A.in1.in1 (Builtin.List.listUpdate (.ref kS) (·.push k)) (fun _ s2=>R s2) E s') (fun _ _=>False) s →
   wpAny (model X.prog X.w) X.A.in1.in1 (body x ⟨⟩) (fun r s'=>r=.yield ⟨⟩∧R s') E s) :
  ∀ (r:List Value) (vr ks:List V) (H:Hp) (s:Shared),Vals vr r→Inv X pins σ H s→H kS=some (.lst ks)→ks.length+vr.length≤1000→yk sp kS Fin vr ks H →
   wpAny (model X.prog X.w) X.A.in1.in1 (forIn r PUnit.unit body) (fun _ s'=>∃ ks' H',Inv X pins σ H' s'∧H' kS=some (.lst ks')∧ks'.length=ks.length+vr.length∧Fin ks' H') E s
 | [],_,ks,H,s,.nil,I,hk,hl,h=>by
  rw[List.forIn_nil]
  exact wpAny_pure ⟨ks,H,I,hk,by simp,h⟩
 | x::r,_,ks,H,s,.cons (a:=v) (l₁:=vr) hx hv,I,hk,hl,h=>by
  rw[List.forIn_cons]
  rw[List.length_cons] at hl
  refine wpAny_bind (wpAny_mono (hbody x s (fun s'=>∃ k H',Inv X pins σ (upd H' kS (.lst (ks++[k]))) s'∧yk sp kS Fin vr (ks++[k]) (upd H' kS (.lst (ks++[k])))) ?_) (fun q s' hq=>?_) fun _ _ e=>e)
  ·refine wpAny_mono (Jx F hr hb I (.cons hx .nil) h) (fun u s' hu=>?_) fun _ _ z=>z
   obtain⟨k',H',I',rk,hk',hrun⟩:=hu
   obtain⟨hz,its,n,rv,len,ho⟩:=I'.lstM hk'
   have z:its.length≤1000:=by omega
   refine listUpdate_at ho rfl ?_ (by rw[List.size_toArray,sizeLine_eq]; exact Oz45 z) (by rw[Array.size_push,List.size_toArray,sizeLine_eq]; omega)
   refine⟨k',H',?_,hrun⟩
   exact I'.lset (t':=s'.toks) (its':=its++[u]) hk' ho (by simp) (rv.append (.cons rk .nil)) (by rw[List.length_append,sizeLine_eq]; simp; omega)
  ·obtain⟨rfl,k',H',I',hrun⟩:=hq
   show wpAny (model X.prog X.w) X.A.in1.in1 (forIn r PUnit.unit body) _ E s'
   refine wpAny_mono (Cy F hr hb hbody r vr (ks++[k']) _ s' hv I' fj (by rw[List.length_append]; simp; omega) hrun) (fun _ s2 hs=>?_) fun _ _ e=>e
   obtain⟨ks',H2,I2,e2,l2,fin⟩:=hs
   exact⟨ks',H2,I2,e2,by rw[l2,List.length_append,List.length_cons]; simp; omega,fin⟩
end
theorem xV:∀ (a b:List Value),a.length=b.length→a.zip b=(List.range a.length).map fun i=>(a.getD i Value.none,b.getD i Value.none):=by
 intro a b h
 refine List.ext_getElem? fun i=>?_
 by_cases hi:i<a.length
 ·have hj:i<b.length:=by exact Oz11 h hi
  rw[List.getElem?_map,List.getElem?_range hi,List.getElem?_eq_getElem (by rw[List.length_zip]; omega),List.getElem_zip]
  simp [hi,hj]
 ·rw[List.getElem?_eq_none (by rw[List.length_zip]; omega),List.getElem?_eq_none (by simp; exact Oz84 hi)]
section
variable {X:Cx} {pins:List (Addr×Obj)} {σ:St} {H:Hp} {s:Shared}
theorem Ck (I:Inv X pins σ H s):∀ (ks:List V) (us:List Value),Vals ks us→(∀ k∈ks,∃ z,vU X.K H k z)→∃ fs,PySem.W.KatTups s.heap us fs∧fs.length=us.length∧∀ f∈fs,∃ n t,f=Value.int n t
 | _,_,.nil,_=>⟨[],PySem.W.KatTups.nil,rfl,fun _ h=>nomatch h⟩
 | _,_,.cons (a:=k) (l₁:=ks) rk r,h=>by
  obtain⟨fs,t,l,q⟩:=Ck I ks _ r fun k' hk'=>h k' (List.mem_cons_of_mem _ hk')
  obtain⟨z,p,a,b,rfl,P1,_,_⟩:=h _ List.mem_cons_self
  cases rk
  obtain⟨it1,r1,t1,_⟩:=I.tuple P1
  obtain⟨u1,rfl⟩:=vals3 r1
  obtain⟨o1,ho1,hc1,n1,hd1⟩:=id t1
  refine⟨.int z.1 u1::fs,PySem.W.KatTups.cons ho1 hc1 hd1 rfl t,by simp [l],fun f hf=>?_⟩
  rcases List.mem_cons.mp hf with rfl | hf
  ·exact⟨_,_,rfl⟩
  ·exact q f hf
theorem zf {xs:List V} {its:List Value} (rv:Vals xs its):∀ out:List Nat,Vals (out.map fun i=>xs.getD i .non) (out.map fun i=>its.getD i Value.none)
 | []=>.nil
 | i::out=>by
  have len:=rv.length
  refine .cons ?_ (zf rv out)
  by_cases hi:i<xs.length
  ·obtain⟨x,ex⟩:∃ x,xs[i]?=some x:=⟨_,List.getElem?_eq_getElem hi⟩
   obtain⟨u,eu,ru⟩:=rv.get ex
   show RelV (xs.getD i .non) (its.getD i Value.none)
   rw[show xs.getD i .non=x by simp [List.getD,ex],show its.getD i Value.none=u by simp [List.getD,eu]]
   exact ru
  ·show RelV (xs.getD i .non) (its.getD i Value.none)
   rw[show xs.getD i .non=.non by simp [List.getD,List.getElem?_eq_none (show xs.length≤i by exact Oz84 hi)],show its.getD i Value.none=Value.none by simp [List.getD,List.getElem?_eq_none (show its.length≤i by omega)]]
   exact rfl
theorem Fl {k:Nat} {f l:Addr} {fd:FuncData} {ps:List Str} {sp:Sp} {xs:List V} {Q:VK} {E:Value→Shared→Prop} {cmp:Nat→Nat→Bool} {out:List Nat} (I:Inv X pins σ H s) (hl:SqL X.K H l xs) (hz:xs.length≤1000)
  (F:FnOk X.prog X.w X.K X.mg X.base CX0 k f fd ps sp) (hr:Room (k+2) X.A) (hb:Binds X.K fd ps []) (hs:(xs.length<2∧out=List.range xs.length)∨(2≤xs.length∧Srt.SortsTo cmp xs.length out)) (ho:out.length≤1000)
  (h:∀ D kS H0,Same H H0→H D=none→H kS=none→D≠kS→H0 D=none→H0 kS=some (.lst [])→yk sp kS (fun ks H'=>H' D=none→(∃ z:Nat→K3,(∀ i v,ks[i]?=some v→vU X.K H' v (z i))∧∀ i j,i<xs.length→j<xs.length→cmp i j=HT.key_lt (z i) (z j)) ∧
   Q (.ref D) (upd (upd H' kS (.lst [])) D (.lst (out.map fun i=>xs.getD i .non)))) xs [] H0) :
  wpAny (model X.prog X.w) X.A (call (.builtin "sorted") [.ref l] [(Str.ofString "key",.ref f)]) (EP X pins σ Q) E s:=by
 obtain⟨its,rv,pl,hzz⟩:=I.list hl
 have len:=rv.length
 have hil:its.length≤1000:=by omega
 have hsl:its.length≤sizeLine:=by rw[sizeLine_eq]; omega
 have pl':s.heap.IsList l its.toArray:=pl.isList
 refine call_function_entry_kw kind_sorted plain_sorted entry_sorted (ksk_s1 _ _) ?_
 unfold Builtin.«sorted»
 refine wpAny_bind (m:=checkCount "sorted" 1 1 _) (wpAny_pure ?_)
 refine wpAny_bind (collect_list pl' ?_ hsl)
 refine wpAny_bind (wpAny_newList ?_ hsl)
 have fT:FpOk X pins H s.heap.objs.size:=I.fpOk (Nat.le_refl _) (I.hok.fresh (Nat.le_refl _))
 have I0:Inv X pins σ H { s with heap:=s.heap.push (seqObj "list" #[] 0) }:=I.kept (t':=s.toks) fun b o e=>Heap.get?_push_of_some _ e
 have I1:Inv X pins σ H { s with heap:=(s.heap.push (seqObj "list" #[] 0)).update s.heap.objs.size (Obj.mapSeq (·++its.toArray)) }:=by
  obtain⟨f0,f1,f2,f3,f4,f5⟩:=fT
  exact I0.turned (t':=s.toks) (fun b o hb e=>(Heap.get?_update_other _ _ (Ne.symm hb)).trans e) f0 f1 f3 f4 f5
 obtain⟨s1,hs1⟩:∃ s1:Shared,s1={ s with heap:=(s.heap.push (seqObj "list" #[] 0)).update s.heap.objs.size (Obj.mapSeq (·++its.toArray)) }:=⟨_,rfl⟩
 rw[← hs1] at I1 ⊢
 have fD:FpOk X pins H s1.heap.objs.size:=I1.fpOk (Nat.le_refl _) (I1.hok.fresh (Nat.le_refl _))
 have I2:Inv X pins σ H { s1 with heap:=s1.heap.push { cls:=.type "list",data:=.seq its.toArray } }:=I1.kept (t':=s1.toks) fun b o e=>Heap.get?_push_of_some _ e
 have hoD:(s1.heap.push { cls:=.type "list",data:=.seq its.toArray }).get? s1.heap.objs.size=some (seqObj "list" its.toArray 0):=Heap.get?_push_size _ rfl
 obtain⟨D,hD⟩:∃ D,D=s1.heap.objs.size:=⟨_,rfl⟩
 obtain⟨s2,hs2⟩:∃ s2:Shared,s2={ s1 with heap:=s1.heap.push { cls:=.type "list",data:=.seq its.toArray } }:=⟨_,rfl⟩
 have hoD':s2.heap.get? D=some (seqObj "list" its.toArray 0):=by rw[hs2,hD]; exact hoD
 rw[← hs2] at I2 ⊢
 rw[← hD] at fD ⊢
 clear hoD
 refine wpAny_bind (wpAny_holding (wpAny_call_entry_kw slot_list_sort ⟨_,hoD',rfl⟩ entry_list_sort ?_ (ksk_l1 _ _)))
 show wpAny (model X.prog X.w) X.A.in1.in1 (Builtin.«list.sort» ⟨[.ref D],[(Str.ofString "key",.ref f)]⟩) _ _ _
 rw[ksk_t1]
 unfold ksk_tree
 refine wpAny_bind (listItems_at hoD' rfl ?_)
 obtain⟨e1,ho1⟩:∃ e1,(s2.heap.update D (Obj.mapSeq fun _=>(#[]:Array Value))).get? D=some (seqObj "list" #[] e1):=⟨_,get?_update_seq hoD' fun _=>#[]⟩
 refine wpAny_bind (listUpdate_at hoD' rfl ?_ (by rw[List.size_toArray]; exact hsl) (Nat.zero_le _))
 obtain⟨d0,d1,d2,d3,d4,d5⟩:=id fD
 have I3:Inv X pins σ H { s2 with heap:=s2.heap.update D (Obj.mapSeq fun _=>(#[]:Array Value)) }:=I2.turned (t':=s2.toks) (fun b o hb e=>(Heap.get?_update_other _ _ (Ne.symm hb)).trans e) d0 d1 d3 d4 d5
 refine wpAny_bind (seqEpoch_at ho1 rfl ?_)
 refine wpAny_bind (wpAny_newTuple ?_ hsl)
 show wpAny _ _ _ _ _ { s2 with heap:=(s2.heap.update D (Obj.mapSeq fun _=>(#[]:Array Value))).push { cls:=.type "tuple",data:=.seq its.toArray } }
 have I4:Inv X pins σ H { s2 with heap:=(s2.heap.update D (Obj.mapSeq fun _=>(#[]:Array Value))).push { cls:=.type "tuple",data:=.seq its.toArray } }:=I3.kept (t':=s2.toks) fun b o e=>Heap.get?_push_of_some _ e
 have ho2:=Heap.get?_push_of_some { cls:=.type "tuple",data:=.seq its.toArray } ho1
 obtain⟨s4,hs4⟩:∃ s4:Shared,s4={ s2 with heap:=(s2.heap.update D (Obj.mapSeq fun _=>(#[]:Array Value))).push { cls:=.type "tuple",data:=.seq its.toArray } }:=⟨_,rfl⟩
 have ho3:s4.heap.get? D=some (seqObj "list" #[] e1):=by rw[hs4]; exact ho2
 rw[← hs4] at I4 ⊢
 refine wpAny_bind (wpAny_newList ?_ (Nat.zero_le _))
 refine wpAny_holding ?_
 have I5:Inv X pins σ (upd H s4.heap.objs.size (.lst [])) { s4 with heap:=s4.heap.push { cls:=.type "list",data:=.seq ([]:List Value).toArray } }:=I4.lnew (t':=s4.toks) .nil (Nat.zero_le _)
 have hk0:H s4.heap.objs.size=none:=I4.fresh
 have hDk:D≠s4.heap.objs.size:=Nat.ne_of_lt (Heap.lt_size ho3)
 have ho4:=Heap.get?_push_of_some { cls:=.type "list",data:=.seq ([]:List Value).toArray } ho3
 have I6:=I5.pins_of (pins':=pins++[(D,seqObj "list" #[] e1)]) fun p hp=>by
  rcases List.mem_append.mp hp with hp | hp
  ·exact I5.pin p (List.mem_append_right _ hp)
  ·rw[List.mem_singleton.mp hp]
   exact⟨ho4,by rw[gS hDk]; exact d0,d1,d2,fun v z=>by cases z⟩
 have hrun:=h D _ (upd H s4.heap.objs.size (.lst [])) (fun b u q=>by rw[gS (kB q hk0)]; exact q) d0 hk0 hDk (by rw[gS hDk]; exact d0) fj
 unfold ksk_rest
 refine wpAny_bind (wpAny_rule ?_)
 rw[List.forIn_toArray]
 refine wpAny_bind (wpAny_mono (Cy F hr.in1.in1 hb (fun x s' R hx=>?_) its xs [] _ _ rv I6 fj (by simp; omega) hrun) (fun _ s' hd=>?_) fun _ _ e=>e)
 ·refine wpAny_bind (wpAny_attempt (wpAny_mono hx (fun k s'' hk=>?_) fun _ _ hF=>hF.elim))
  dsimp only
  exact wpAny_bind (wpAny_mono hk (fun _ s3 hR=>wpAny_pure ⟨rfl,hR⟩) fun _ _ e=>e)
 obtain⟨ks,H',I7,hkS,lks,fin⟩:=hd
 have pD:=I7.pin (D,_) (List.mem_append_right _ (List.mem_append_right _ List.mem_cons_self))
 obtain⟨⟨z,hz1,hz2⟩,hq⟩:=fin pD.2.1
 obtain⟨_,kv,nk,rkv,lenk,hok⟩:=I7.lstM hkS
 have lk:kv.length=xs.length:=by rw[← lenk,lks]; simp
 refine wpAny_bind (listItems_at hok rfl ?_)
 have tail:∀ st:SortSt,((arrOf st).map (·.2))=(out.map fun i=>its.getD i Value.none).toArray→failedOf st=none→wpAny (model X.prog X.w) X.A.in1.in1 (ksk_tail D false e1 (.ref s4.heap.objs.size) st) (fun fin s'=>∃ v,fin=Fin.done (Flow.ret v)∧wpAny (model X.prog X.w) X.A.in1 (ret (Value.ref D)) (fun fin s'=>∃ v,fin=Fin.done (Flow.ret v)∧EP X pins σ Q v s') E s') E s':=by
  intro st eo ef
  unfold ksk_tail
  dsimp only
  rw[eo]
  refine wpAny_bind (listUpdate_at hok rfl ?_ (by rw[List.size_toArray,sizeLine_eq]; omega) (Nat.zero_le _))
  have I8:=(I7.lset (t':=s'.toks) (its':=[]) (f:=fun _=>#[]) (ys:=[]) hkS hok rfl .nil (Nat.zero_le _)).unpinned
  refine wpAny_bind (wpAny_letGo ?_)
  have hoD8:(s'.heap.update s4.heap.objs.size (Obj.mapSeq fun _=>(#[]:Array Value))).get? D=some (seqObj "list" #[] e1):=(Heap.get?_update_other _ _ (Ne.symm hDk)).trans pD.1
  refine wpAny_bind (seqEpoch_at hoD8 rfl ?_)
  simp only [Bool.false_eq_true,if_false]
  refine wpAny_bind (listUpdate_at hoD8 rfl ?_ (Nat.zero_le _) (by rw[List.size_toArray,List.length_map,sizeLine_eq]; omega))
  rw[ef]
  simp only [bne_self_eq_false,Bool.false_eq_true,if_false]
  refine wpAny_pure ⟨_,rfl,wpAny_pure ⟨_,rfl,.ref D,_,?_,rfl,hq⟩⟩
  have hn8:upd H' s4.heap.objs.size (.lst []) D=none:=by rw[gS hDk]; exact pD.2.1
  have I9:=I8.turned (t':=s'.toks) (h':=(s'.heap.update s4.heap.objs.size (Obj.mapSeq fun _=>(#[]:Array Value))).update D (Obj.mapSeq fun _=>(out.map fun i=>its.getD i Value.none).toArray)) (fun b o hb e=>(Heap.get?_update_other _ _ (Ne.symm hb)).trans e) hn8 d1 d3 d4 d5
  obtain⟨c2,hc2⟩:∃ c2,((s'.heap.update s4.heap.objs.size (Obj.mapSeq fun _=>(#[]:Array Value))).update D (Obj.mapSeq fun _=>(out.map fun i=>its.getD i Value.none).toArray)).get? D=some (seqObj "list" (out.map fun i=>its.getD i Value.none).toArray c2):=⟨_,get?_update_seq hoD8 fun _=>_⟩
  refine I9.heldO hn8 (by rw[hD]; exact Heap.get?_none_of_le I1.sz) d1 d4 d5 ⟨by rw[List.length_map,sizeLine_eq]; exact Oz45 ho,out.map fun i=>its.getD i Value.none,c2,zf rv out,hc2⟩
 unfold ksk_end
 dsimp only
 rcases hs with ⟨h2,hou⟩ | ⟨h2,hs⟩
 ·have hp2:its.toArray.size<2:=by rw[List.size_toArray]; omega
  simp only [Bool.false_eq_true,if_false,if_pos hp2]
  refine wpAny_bind (wpAny_pure ?_)
  rw[StateT.run_pure]
  refine wpAny_bind (wpAny_pure ?_)
  refine tail _ ?_ rfl
  show (kv.toArray.zip its.toArray).map (·.2)=_
  rw[List.zip_toArray,xV kv its (by exact Oz40 len lk),hou,lk]
  simp
 have hn2:¬ its.toArray.size<2:=by rw[List.size_toArray]; omega
 simp only [Bool.false_eq_true,if_false,if_neg hn2]
 have hkey:∀ i v,ks[i]?=some v→vU X.K H' v (z i):=hz1
 obtain⟨fs,tt,lf,hf⟩:=Ck I7 ks kv rkv fun v hv=>by
  obtain⟨i,hi⟩:=List.mem_iff_getElem?.mp hv
  exact⟨_,hkey i v hi⟩
 refine wpAny_bind (PySem.W.kat_kind tt (by omega) (fun v hv=>by obtain⟨n,t,rfl⟩:=hf v hv; exact PySem.W.Looks.of_pure rfl) rfl ?_)
 rw[show (Value.type "int" != Value.type "tuple")=true from by decide]
 have hun:X.A.in1.in1.units+60<cLine:=by have:=hr.in1.in1.units; omega
 have hlt:∀ (i j:Nat),i<xs.length→j<xs.length→∀ (Q':Bool→Shared→Prop) (E':Value→Shared→Prop),Q' (cmp i j) s'→wpAny (model X.prog X.w) X.A.in1.in1 (keyLt' (tuples' true) (kv.getD i Value.none) (kv.getD j Value.none)) Q' E' s':=by
  intro i j hi hj Q' E' hq'
  obtain⟨x,ex⟩:∃ x,ks[i]?=some x:=⟨_,List.getElem?_eq_getElem (by exact Oz37 lenk lk hi)⟩
  obtain⟨y,ey⟩:∃ y,ks[j]?=some y:=⟨_,List.getElem?_eq_getElem (by exact Oz37 lenk lk hj)⟩
  obtain⟨u,eu,ru⟩:=rkv.get ex
  obtain⟨v,ev,rv'⟩:=rkv.get ey
  have e1:kv.getD i Value.none=u:=by simp [List.getD,eu]
  have e2:kv.getD j Value.none=v:=by simp [List.getD,ev]
  rw[e1,e2]
  rw[hz2 i j hi hj] at hq'
  exact Ji I7 hun (hkey i x ex) (hkey j y ey) ru rv' Q' E' hq'
 obtain⟨SXv,hSX⟩:∃ SXv:Srt.SX,SXv={ prog:=X.prog,w:=X.w,A:=X.A.in1.in1,E:=E,s:=s',κ:=tuples' true,item:=fun i=>(kv.getD i Value.none,its.getD i Value.none),cmp:=cmp,n:=xs.length,lt:=hlt }:=⟨_,rfl⟩
 obtain⟨m,hm,hmq⟩:=hs SXv (by rw[hSX]) (by rw[hSX])
 have est:SortSt.mk' (tuples' true) (kv.toArray.zip its.toArray) #[] 7 none=SXv.emb ⟨List.range xs.length,[],7⟩:=by
  have ez:kv.toArray.zip its.toArray=SXv.arr (List.range xs.length):=by
   rw[List.zip_toArray,xV kv its (by exact Oz40 len lk),lk,hSX]
   rfl
  rw[ez,hSX]
  rfl
 have hW:=(Srt.FM.runs (X:=SXv)).h _ () m hm (fun _ st=>st=SXv.emb m) rfl
 have eo:((arrOf (SXv.emb m)).map (·.2))=(out.map fun i=>its.getD i Value.none).toArray:=by
  show (SXv.arr m.q).map (·.2)=_
  rw[hmq,hSX]
  show (List.map _ out).toArray.map _=_
  simp
 rw[est]
 have hW':wpAny (model X.prog X.w) X.A.in1.in1 (sortRuns'.run (SXv.emb ⟨List.range xs.length,[],7⟩)) (fun r s2=>s2=s'∧r.2=SXv.emb m) E s':=by
  have:=hW
  rw[hSX] at this ⊢
  exact this
 refine wpAny_bind (wpAny_mono hW' ?_ fun _ _ e=>e)
 rintro⟨⟨⟩,st'⟩ s'' ⟨rfl,rfl⟩
 exact tail _ eo rfl
end
section
variable {X:Cx}
theorem Gc (hc:X.calm=true):vn X (.builtin "any") (fun xs H Q=>∃ (p:Addr) (ns:List Int),xs=[.ref p]∧SqT X.K H p (ns.map V.int)∧Q (.bl (ns.any fun n=>decide (n≠0))) H):=by
 intro pins s σ H xs us Q I r h
 obtain⟨p,ns,rfl,hq,q⟩:=h
 obtain⟨u,rfl,rx⟩:=vals1 r
 cases rx
 obtain⟨its,r',pl,hz⟩:=I.tuple hq
 have hl:s.heap.IsTuple p its.toArray:=pl
 have hlt:p<s.heap.objs.size:=by obtain⟨_,e,_⟩:=hl; exact Heap.lt_size e
 have len:=r'.length
 rw[List.length_map] at len
 refine call_any_walk (wpAny_pyIter_tuple hl ⟨_,_,_,_,_,_,fun i=>decide (ns.getD i 0≠0),rfl,Walks.tuple (A:=X.A.in1) (I.ok.hd hc) s.heap.objs.size p (Nat.ne_of_lt hlt) its.toArray,⟨⟨_,Heap.get?_push_size _ rfl,rfl,rfl⟩,hl.at fun o e=>Heap.get?_push_of_some _ e⟩,?_,?_⟩)
 ·intro i v s' Q' E' hP hQ
  have hP':its[i]?=some v:=by simpa using hP
  have li:i<ns.length:=by
   have:=(List.getElem?_eq_some_iff.mp hP').1
   exact Oz86 len this
  obtain⟨u,e1,e2⟩:=r'.get (i:=i) (x:=.int (ns.getD i 0)) (by simp [List.getD,li])
  rw[hP'] at e1
  cases e1
  obtain⟨t,rfl⟩:=e2
  refine truthy_int ?_
  rw[show (ns.getD i 0 != 0)=decide (ns.getD i 0≠0) by rw[Bool.eq_iff_iff]; simp]
  exact hQ
 ·intro h' tk hk
  have:(List.range its.toArray.size).any (fun i=>decide (ns.getD i 0≠0))=ns.any fun n=>decide (n≠0):=by
   rw[List.size_toArray,← len]
   clear len hq q r' hz
   induction ns with
   | nil=>rfl
   | cons b bs ih =>
    rw[List.length_cons,List.range_succ_eq_map,List.any_cons,List.any_map,List.any_cons]
    exact congrArg _ ih
  rw[this]
  exact⟨.bl _,H,I.kept (fun b o e=>hk b o (by rw[List.mem_singleton]; exact Nat.ne_of_lt (Heap.lt_size e)) (Heap.get?_push_of_some _ e)),rfl,q⟩
theorem EM {K:PySem.W.Frag} (h:X.K=K) (hc:X.calm=true):vn X (.builtin "any") (fun xs H Q=>∃ (p:Addr) (ns:List Int),xs=[.ref p]∧SqT K H p (ns.map V.int)∧Q (.bl (ns.any fun n=>decide (n≠0))) H):=by subst h; exact Gc hc
end
theorem Gv {X:Cx} {K:PySem.W.Frag} (h:X.K=K):OpR X (binaryOp .Add) (GS K):=by subst h; exact Iz
def CK (cmp:Nat→Nat→Bool) (n:Nat) (out:List Nat):Prop:=(n<2∧out=List.range n)∨(2≤n∧Srt.SortsTo cmp n out)
def Hq (K:PySem.W.Frag) (sp:Sp) (ta:TA):TE:=fun σ H Q=>ta σ H fun vs H1=>∃ (l:Addr) (xs:List V) (cmp:Nat→Nat→Bool) (out:List Nat),vs=[.ref l]∧SqL K H1 l xs∧xs.length≤1000∧out.length≤1000∧CK cmp xs.length out ∧
 ∀ D kS H0,Same H1 H0→H1 D=none→H1 kS=none→D≠kS→H0 D=none→H0 kS=some (.lst [])→yk sp kS (fun ks H'=>H' D=none→(∃ z:Nat→K3,(∀ i v,ks[i]?=some v→vU K H' v (z i))∧∀ i j,i<xs.length→j<xs.length→cmp i j=HT.key_lt (z i) (z j)) ∧
   Q (.ref D) (upd (upd H' kS (.lst [])) D (.lst (out.map fun i=>xs.getD i .non)))) xs [] H0
section
variable {X:Cx} {x y:Str} {p0 p1 pos kp:Pos} {e:Expr} {ta:TA} {j k:Nat} {ps:List Str} {sp:Sp}
theorem FS (hg:Gl X "sorted") (hm:X.mg "sorted"=none) (hv:bootBuiltins "sorted"=some (.builtin "sorted")) (ha:PA X [e] ta) (C:Cal X.prog X.w X.K X.mg X.base CX0 y j ps sp) (hr:Room k X.A) (hy:Gl X y) (hj:j+2≤k) (hdb:(y == ("__debug__":Str))=false:=by decide)
  (h1:backTo pos (starEach [e] X.env)=(false,eval e X.env)::backTo pos (starEach [] X.env):=by rfl) (h2:(backTo pos (starEach [e] X.env)).any (·.1)=false:=by rfl) :
  PE X (.Call (.Name "sorted" p0) [e] [⟨some "key",.Name y p1,kp⟩] pos) (Hq X.K sp ta):=by
 intro pins s σ H Q I h
 obtain⟨f,fd,F,b,kpp,m⟩:=C.ex
 refine wpAny_Call_Name_kw (xP I hg hm hv ?_ (by decide) (by decide))
 refine callWith_kw (thn (ha pos pins s σ H _ I h) fun us s1 ⟨vs,H1,I1,r1,q1⟩=>?_) h1 h2
 obtain⟨l,xs,cmp,out,rfl,hl,hz,ho,hs,hrun⟩:=q1
 obtain⟨u,rfl,ru⟩:=vals1 r1
 cases ru
 refine kws_cons (zq I1 hy m (kws_nil ?_) hdb)
 exact Fl I1 hl hz F (hr.mono hj) b hs ho hrun
end
structure Apart3 (z TI TO i1 i2 i3:Addr) (f1 f2 f3:List Addr):Prop where
 zTI:z≠TI
 zTO:z≠TO
 TITO:TI≠TO
 TI1:TI≠i1
 TI2:TI≠i2
 TI3:TI≠i3
 m1:i1∈f1
 m2:i2∈f2
 m3:i3∈f3
 z1:z ∉ f1
 z2:z ∉ f2
 z3:z ∉ f3
 t1:TO ∉ f1
 t2:TO ∉ f2
 t3:TO ∉ f3
 i12:i1 ∉ f2
 i13:i1 ∉ f3
 i21:i2 ∉ f1
 i23:i2 ∉ f3
 i31:i3 ∉ f1
 i32:i3 ∉ f2
end L2
namespace Sru
open PySem PyProof.Rows Srt
set_option genInjectivity false in
structure SY where
 prog:Program
 w:World
 A:Around
 E:Value→Shared→Prop
 s:Shared
 κ:SortKind
 item:Nat→Keyed
 n:Nat
 rk:Nat→Int
 lt:∀ (i j:Nat),i<n→j<n→i≠j→∀ (Q:Bool→Shared→Prop) (E':Value→Shared→Prop),Q (decide (rk i<rk j)) s→wpAny (model prog w) A (keyLt' κ (item i).1 (item j).1) Q E' s
 inj:∀ i j,i<n→j<n→rk i=rk j→i=j
noncomputable def em (Y:SY) (q:Array Nat) (pd:Array (Nat×Nat×Nat)) (g:Nat):SortSt:=SortSt.mk' Y.κ (q.map Y.item) pd g none
noncomputable def ky (Y:SY) (q:Array Nat) (i:Nat):Int:=Y.rk (q.getD i 0)
def Up (Y:SY) (q:Array Nat) (k:Nat):Prop:=∀ i j,i<j→j<k→ky Y q i<ky Y q j
def Dn (Y:SY) (q:Array Nat) (k:Nat):Prop:=∀ i j,i<j→j<k→ky Y q j<ky Y q i
structure Pq (Y:SY) (q:Array Nat):Prop where
 p:q.toList.Perm (List.range Y.n)
section
variable {Y:SY} {q:Array Nat} {pd:Array (Nat×Nat×Nat)} {g:Nat}
theorem Pq.sz (h:Pq Y q):q.size=Y.n:=by
 have:=h.p.length_eq
 simpa using this
theorem Pq.at (h:Pq Y q) {i:Nat} (hi:i<Y.n):q[i]?=some (q.getD i 0)∧q.getD i 0<Y.n:=by
 have hz:=h.sz
 have e:q[i]?=some (q.getD i 0):=by
  rw[Array.getD_eq_getD_getElem?,Array.getElem?_eq_getElem (by exact Oz24 hi hz)]
  rfl
 refine⟨e,?_⟩
 have m:q.getD i 0∈q.toList:=by
  have:=Array.mem_of_getElem? e
  simpa using this
 exact List.mem_range.mp (h.p.mem_iff.mp m)
theorem Pq.ne (h:Pq Y q) {i j:Nat} (hi:i<Y.n) (hj:j<Y.n) (hn:i≠j):ky Y q i≠ky Y q j:=by
 intro e
 have hz:=h.sz
 have e1:=Y.inj _ _ (h.at hi).2 (h.at hj).2 e
 have nd:q.toList.Nodup:=h.p.nodup_iff.mpr List.nodup_range
 have a1:=(h.at hi).1
 have a2:=(h.at hj).1
 rw[e1,← a2] at a1
 rw[← Array.getElem?_toList,← Array.getElem?_toList] at a1
 exact hn ((List.getElem?_inj (by simpa using (by exact Oz24 hi hz:i<q.size)) nd).mp a1)
theorem Pq.ne2 (h:Pq Y q) {i j:Nat} (hi:i<Y.n) (hj:j<Y.n) (hn:i≠j):q.getD i 0≠q.getD j 0:=fun e=>h.ne hi hj hn (congrArg Y.rk e)
theorem Pq.mirror (h:Pq Y q) (i j d:Nat):Pq Y (mirror q i j d):=⟨(Array.perm_iff_toList_perm.mp (mirror_perm q i j d)).trans h.p⟩
theorem Pq.bubble (h:Pq Y q) (i d:Nat):Pq Y (bubble q i d):=⟨(Array.perm_iff_toList_perm.mp (bubble_perm q i d)).trans h.p⟩
theorem yQ {i j:Nat} {Q:Option Bool→SortSt→Prop} (h:Pq Y q) (hi:i<Y.n) (hj:j<Y.n) (hn:i≠j) (hq:Q (some (decide (ky Y q i<ky Y q j))) (em Y q pd g)):wpS (model Y.prog Y.w) Y.A Y.E Y.s (ltAt' i j) Q (em Y q pd g):=by
 have a1:=h.at hi
 have a2:=h.at hj
 rw[ltAt'_eq]
 refine wpS_bind (wpS_get ?_)
 have g1:(q.map Y.item)[i]?=some (Y.item (q.getD i 0)):=by rw[Array.getElem?_map,a1.1]; rfl
 have g2:(q.map Y.item)[j]?=some (Y.item (q.getD j 0)):=by rw[Array.getElem?_map,a2.1]; rfl
 show wpS _ _ _ _ (elem' (q.map Y.item) i >>= fun x=>elem' (q.map Y.item) j >>= fun y=>lt' x y) _ _
 rw[elem'_eq,elem'_eq,g1,g2]
 refine wpS_bind (wpS_pure (wpS_bind (wpS_pure ?_)))
 rw[lt'_eq]
 refine wpS_bind (wpS_get (wpS_bind (wpS_lift (wpAny_attempt (Y.lt _ _ a1.2 a2.2 (h.ne2 hi hj hn) _ _ ?_)))))
 exact⟨rfl,wpS_pure hq⟩
theorem w_rev {i j:Nat} {Q:Unit→SortSt→Prop} (hq:Q () (em Y (mirror q i j ((j-i) / 2)) pd g)):wpS (model Y.prog Y.w) Y.A Y.E Y.s (reverseSlice' i j) Q (em Y q pd g):=by
 refine wpS_modify ?_
 have:mirror (q.map Y.item) i j ((j-i) / 2)=(mirror q i j ((j-i) / 2)).map Y.item:=xh Y.item _ _ _ _
 show Q () (SortSt.mk' Y.κ (mirror (q.map Y.item) i j ((j-i) / 2)) pd g none)
 rw[this]
 exact hq
theorem J2 {i j:Nat} {Q:Unit→SortSt→Prop} (hq:Q () (em Y (bubble q i (i-j)) pd g)):wpS (model Y.prog Y.w) Y.A Y.E Y.s (moveDown' i j) Q (em Y q pd g):=by
 refine wpS_modify ?_
 have:bubble (q.map Y.item) i (i-j)=(bubble q i (i-j)).map Y.item:=xh Y.item _ _ _ _
 show Q () (SortSt.mk' Y.κ (bubble (q.map Y.item) i (i-j)) pd g none)
 rw[this]
 exact hq
theorem Ad {q':Array Nat} {i j:Nat} (h:q'[i]?=q[j]?):ky Y q' i=ky Y q j:=by
 unfold ky
 rw[Array.getD_eq_getD_getElem?,Array.getD_eq_getD_getElem?,h]
theorem Gy {n:Nat} (hz:n≤q.size) (h:Dn Y q n):Up Y (mirror q 0 n ((n-0) / 2)) n:=by
 intro i j hij hj
 have e1:ky Y (mirror q 0 n ((n-0) / 2)) i=ky Y q (n-1-i):=Ad (by rw[getElem?_mirror_all hz,if_pos ⟨by exact Oz93,by omega⟩]; congr 1; exact Oz13)
 have e2:ky Y (mirror q 0 n ((n-0) / 2)) j=ky Y q (n-1-j):=Ad (by rw[getElem?_mirror_all hz,if_pos ⟨by exact Oz93,by exact Oz19 hj⟩]; congr 1; exact Oz13)
 rw[e1,e2]
 exact h _ _ (by omega) (by omega)
theorem Jt {k:Nat} (h:Up Y q k) (hl:k=0∨ky Y q (k-1)<ky Y q k):Up Y q (k+1):=by
 intro i j hij hj
 rcases Nat.lt_or_ge j k with h1 | h1
 ·exact h i j hij h1
 ·have:j=k:=by exact Oz64 hj h1
  subst this
  rcases hl with rfl | hl
  ·exact Oz91 hij
  ·rcases Nat.lt_or_ge i (j-1) with h2 | h2
   ·exact Int.lt_trans (h i (j-1) h2 (by exact Oz65 hij)) hl
   ·rw[show i=j-1 by exact Oz60 hij h2]; exact hl
theorem Er {k:Nat} (h:Dn Y q k) (hl:ky Y q k<ky Y q (k-1)):Dn Y q (k+1):=by
 intro i j hij hj
 rcases Nat.lt_or_ge j k with h1 | h1
 ·exact h i j hij h1
 ·have:j=k:=by exact Oz64 hj h1
  subst this
  rcases Nat.lt_or_ge i (j-1) with h2 | h2
  ·exact Int.lt_trans hl (h i (j-1) h2 (by exact Oz65 hij))
  ·rw[show i=j-1 by exact Oz60 hij h2]; exact hl
theorem Hu {ρ:Type} {a:Nat} {Q:Option (Option Nat)×Nat→SortSt→Prop} (hp:Pq Y q) (h1:1≤a) (ha:a≤Y.n) (hu:Up Y q a)
  (hq:∀ k,a≤k→k≤Y.n→Up Y q k→(k=Y.n∨(k<Y.n∧ky Y q k<ky Y q (k-1)))→Q (none,k) (em Y q pd g)) :
  wpS (model Y.prog Y.w) Y.A Y.E Y.s (forIn [a:Y.n] ((none:Option (Option Nat)),a) fun _ r=>do
   let some smaller ← ltAt' (0+r.2) (0+r.2-1) | pure (ForInStep.done (some none,r.2))
   if smaller=true then pure (ForInStep.done (none,r.2)) else pure (ForInStep.yield (none,r.2+1))) Q (em Y q pd g):=by
 refine wpS_forRange (I:=fun i c st=>c=(none,i)∧st=em Y q pd g∧Up Y q i) (fun i c st h2 h3 hI=>?_) (fun c st hI=>?_) ⟨rfl,rfl,hu⟩
 ·obtain⟨rfl,rfl,hu⟩:=hI
  simp only [Nat.zero_add]
  refine wpS_bind (yQ hp (by exact Oz19 h3) (by exact Oz6 h3) (by omega) ?_)
  dsimp only
  by_cases hc:ky Y q i<ky Y q (i-1)
  ·rw[if_pos (by simpa using hc)]
   exact wpS_pure (hq i h2 (by exact Oz87 h3) hu (.inr ⟨h3,hc⟩))
  ·rw[if_neg (by simpa using hc)]
   refine wpS_pure ⟨rfl,rfl,Jt hu (.inr ?_)⟩
   have:=hp.ne (i:=i-1) (j:=i) (by exact Oz6 h3) h3 (by omega)
   exact Oz17 hc this
 ·obtain⟨rfl,rfl,hu⟩:=hI
  rw[show max a Y.n=Y.n by omega] at hu ⊢
  exact hq _ ha (Nat.le_refl _) hu (.inl rfl)
theorem w_count {Q:Option Nat→SortSt→Prop} (hp:Pq Y q) (h1:1≤Y.n) (hq:∀ q' k,Pq Y q'→1≤k→k≤Y.n→Up Y q' k→Q (some k) (em Y q' pd g)) :
  wpS (model Y.prog Y.w) Y.A Y.E Y.s (countRun' 0 Y.n) Q (em Y q pd g):=by
 rw[countRun'_eq]
 refine wpS_bind (Hu (ρ:=Nat) hp (Nat.le_refl 1) h1 (fun i j h2 h3=>by exact Oz74 h2 h3) fun k k1 kn hu hk=>?_)
 dsimp only
 rcases hk with rfl | ⟨kl,hd⟩
 ·rw[if_pos (by simp)]
  exact wpS_pure (hq q _ hp k1 (Nat.le_refl _) hu)
 rw[if_neg (by simp; omega)]
 by_cases k2:k > 1
 ·rw[if_pos k2]
  refine wpS_bind (yQ hp (by omega) (by omega) (by omega) ?_)
  dsimp only
  rw[if_pos (by rw[Nat.zero_add]; simpa using hu 0 (k-1) (by omega) (by omega))]
  exact wpS_pure (hq q k hp k1 kn hu)
 rw[if_neg k2]
 have:k=1:=by omega
 subst this
 refine wpS_bind (wpS_lift (wpAny_rule ⟨rfl,?_⟩))
 refine wpS_bind (wpS_mono (wpS_forRange (I:=fun i c st=>c=(none,i,0)∧st=em Y q pd g∧Dn Y q i) (Q:=fun c st=>∃ k,c=(none,k,0)∧st=em Y q pd g∧Dn Y q k∧2≤k∧k≤Y.n) (fun i c st h2 h3 hI=>?_) (fun c st hI=>?_) ⟨rfl,rfl,?_⟩) ?_)
 ·obtain⟨rfl,rfl,hu⟩:=hI
  simp only [Nat.zero_add]
  refine wpS_bind (yQ hp (by exact Oz19 h3) (by exact Oz6 h3) (by omega) ?_)
  dsimp only
  by_cases hc:ky Y q i<ky Y q (i-1)
  ·rw[if_pos (by simpa using hc),if_neg (by exact Oz106)]
   exact wpS_pure ⟨rfl,rfl,Er hu hc⟩
  ·rw[if_neg (by simpa using hc)]
   refine wpS_bind (yQ hp (by exact Oz6 h3) (by exact Oz19 h3) (by exact Oz58 h2) ?_)
   dsimp only
   have:=hp.ne (i:=i-1) (j:=i) (by exact Oz6 h3) h3 (by exact Oz58 h2)
   rw[if_pos (by simp; exact Oz17 hc this)]
   exact wpS_pure ⟨i,rfl,rfl,hu,by omega,by exact Oz87 h3⟩
 ·obtain⟨rfl,rfl,hu⟩:=hI
  rw[show max (1+1) Y.n=Y.n by omega] at hu ⊢
  exact⟨_,rfl,rfl,hu,by omega,Nat.le_refl _⟩
 ·exact Er (fun i j h2 h3=>by exact Oz74 h2 h3) hd
 ·rintro c st ⟨k,rfl,rfl,hD,k2',kn'⟩
  dsimp only
  rw[if_neg (by exact Oz106)]
  refine wpS_bind (w_rev ?_)
  rw[Nat.zero_add]
  have hp':=hp.mirror 0 k ((k-0) / 2)
  have hu':=Gy (by rw[hp.sz]; exact kn') hD
  refine wpS_bind (Hu (ρ:=Nat) hp' (by omega) kn' hu' fun k3 k31 k3n hu3 _=>?_)
  dsimp only
  exact wpS_pure (hq _ k3 hp' (by omega) k3n hu3)
theorem GW {k l:Nat} (hk:k<q.size) (hl:l≤k) (hu:Up Y q k) (h1:∀ i,i<l→ky Y q i<ky Y q k) (h2:∀ i,l≤i→i<k→ky Y q k<ky Y q i):Up Y (bubble q k (k-l)) (k+1):=by
 have at':∀ i,ky Y (bubble q k (k-l)) i=if i=l then ky Y q k else if l<i∧i≤k then ky Y q (i-1) else ky Y q i:=fun i=>by
  have:=getElem?_bubble hk (k-l) (by omega) i
  rw[show k-(k-l)=l by omega] at this
  split
  ·next h=>rw[if_pos h] at this; exact Ad this
  ·next h =>
   rw[if_neg h] at this
   split
   ·next h'=>rw[if_pos h'] at this; exact Ad this
   ·next h'=>rw[if_neg h'] at this; exact Ad this
 intro i j hij hj
 rw[at',at']
 by_cases e1:i=l
 ·rw[if_pos e1,if_neg (by omega),if_pos ⟨by omega,by exact Oz88 hj⟩]
  exact h2 _ (by omega) (by exact Oz18 hij hj)
 rw[if_neg e1]
 by_cases e2:j=l
 ·rw[if_pos e2,if_neg (by omega)]
  exact h1 i (by exact Oz79 hij e2)
 rw[if_neg e2]
 by_cases e3:l<i∧i≤k
 ·rw[if_pos e3,if_pos ⟨by omega,by exact Oz88 hj⟩]
  exact hu _ _ (by omega) (by exact Oz18 hij hj)
 rw[if_neg e3]
 by_cases e4:l<j∧j≤k
 ·rw[if_pos e4]
  exact hu _ _ (by omega) (by exact Oz18 hij hj)
 ·rw[if_neg e4]
  exact hu _ _ (by exact Oz19 hij) (by omega)
theorem KZ {ok:Nat} {Q:Bool→SortSt→Prop} (hp:Pq Y q) (h1:1≤ok) (hok:ok≤Y.n) (hu:Up Y q ok) (hq:∀ q',Pq Y q'→Up Y q' Y.n→Q true (em Y q' pd g)) :
  wpS (model Y.prog Y.w) Y.A Y.E Y.s (binarySort' 0 Y.n ok) Q (em Y q pd g):=by
 rw[binarySort'_eq]
 refine wpS_bind (wpS_mono (wpS_forRange (I:=fun i c st=>c=(none,())∧∃ q',st=em Y q' pd g∧Pq Y q'∧Up Y q' i) (Q:=fun c st=>c=(none,())∧∃ q',st=em Y q' pd g∧Pq Y q'∧Up Y q' Y.n) (fun k c st h2 h3 hI=>?_) (fun c st hI=>?_) ⟨rfl,q,rfl,hp,?_⟩) ?_)
 ·obtain⟨rfl,q1,rfl,hp1,hu1⟩:=hI
  simp only [Nat.zero_add]
  refine wpS_bind (wpS_mono (wpS_forRange (I:=fun i c st=>st=em Y q1 pd g∧∃ l r:Nat,c=(none,l,r)∧l≤r∧r≤k∧r-l≤k-i∧(∀ j,j<l→ky Y q1 j<ky Y q1 k)∧∀ j,r≤j→j<k→ky Y q1 k<ky Y q1 j) (Q:=fun c st=>st=em Y q1 pd g∧∃ l r:Nat,c=(none,l,r)∧l≤k∧(∀ j,j<l→ky Y q1 j<ky Y q1 k)∧∀ j,l≤j→j<k→ky Y q1 k<ky Y q1 j) (fun i c st h4 h5 hI=>?_) (fun c st hI=>?_) ⟨rfl,0,k,rfl,Nat.zero_le _,Nat.le_refl _,by omega,(fun j hj=>by exact Oz91 hj),fun j hj hj2=>by omega⟩) ?_)
  ·obtain⟨rfl,l,r,rfl,hlr,hrk,hm,ha,hb⟩:=hI
   dsimp only
   by_cases hge:l ≥ r
   ·rw[if_pos hge]
    exact wpS_pure ⟨rfl,l,r,rfl,by exact Oz67 hlr hrk,ha,fun j hj hj2=>hb j (by omega) hj2⟩
   rw[if_neg hge]
   refine wpS_bind (yQ hp1 (by exact Oz19 h3) (by exact Oz51 h3 hrk hge) (by omega) ?_)
   dsimp only
   by_cases hc:ky Y q1 k<ky Y q1 ((l+r) / 2)
   ·rw[if_pos (by simpa using hc)]
    refine wpS_pure ⟨rfl,l,(l+r) / 2,rfl,by omega,by omega,by omega,ha,fun j hj hj2=>?_⟩
    rcases Nat.eq_or_lt_of_le hj with e | h
    ·rw[← e]; exact hc
    ·exact Int.lt_trans hc (hu1 _ _ h hj2)
   ·rw[if_neg (by simpa using hc)]
    refine wpS_pure ⟨rfl,(l+r) / 2+1,r,rfl,by omega,hrk,by omega,fun j hj=>?_,hb⟩
    have ne:=hp1.ne (i:=(l+r) / 2) (j:=k) (by exact Oz51 h3 hrk hge) h3 (by omega)
    rcases Nat.eq_or_lt_of_le (show j≤(l+r) / 2 by omega) with e | h
    ·rw[e]; exact Oz17 hc ne
    ·have:=hu1 j ((l+r) / 2) h (by omega)
     omega
  ·obtain⟨rfl,l,r,rfl,hlr,hrk,hm,ha,hb⟩:=hI
   rw[show max 0 k=k by omega] at hm
   exact⟨rfl,l,r,rfl,by exact Oz67 hlr hrk,ha,fun j hj hj2=>hb j (by omega) hj2⟩
  ·rintro c st ⟨rfl,l,r,rfl,hl,ha,hb⟩
   dsimp only
   refine wpS_bind (J2 (wpS_pure ⟨rfl,_,rfl,hp1.bubble k (k-l),GW (by rw[hp1.sz]; exact h3) hl hu1 ha hb⟩))
 ·obtain⟨rfl,q1,rfl,hp1,hu1⟩:=hI
  rw[show max (max ok 1) Y.n=Y.n by omega] at hu1
  exact⟨rfl,q1,rfl,hp1,hu1⟩
 ·rw[show max ok 1=ok by omega]
  exact hu
 ·rintro c st ⟨rfl,q1,rfl,hp1,hu1⟩
  exact wpS_pure (hq q1 hp1 hu1)
theorem w_runs {Q:Unit→SortSt→Prop} (hp:Pq Y q) (h1:1≤Y.n) (h64:Y.n<64) (hq:∀ q' pd' g',Pq Y q'→Up Y q' Y.n→Q () (em Y q' pd' g')) :
  wpS (model Y.prog Y.w) Y.A Y.E Y.s sortRuns' Q (em Y q #[] g):=by
 rw[sortRuns'_eq]
 refine wpS_bind (wpS_get ?_)
 have hsz:(arrOf (em Y q #[] g)).size=Y.n:=by
  show (q.map Y.item).size=Y.n
  rw[Array.size_map,hp.sz]
 rw[hsz]
 have hmr:minRun' Y.n Y.n 0=Y.n:=by
  obtain⟨f,hf⟩:∃ f,Y.n=f+1:=⟨Y.n-1,by omega⟩
  have:=minRun'_succ f Y.n 0
  rw[← hf,if_pos h64] at this
  exact this
 dsimp only
 rw[hmr]
 refine wpS_bind (wpS_mono (wpS_forRange (I:=fun i c st=>(i=0∧c=(none,0)∧st=em Y q #[] g)∨(c=(none,Y.n)∧∃ q',st=em Y q' #[(0,Y.n,0)] g∧Pq Y q'∧Up Y q' Y.n)) (Q:=fun c st=>c=(none,Y.n)∧∃ q',st=em Y q' #[(0,Y.n,0)] g∧Pq Y q'∧Up Y q' Y.n) (fun i c st h2 h3 hI=>?_) (fun c st hI=>?_) (.inl ⟨rfl,rfl,rfl⟩)) ?_)
 ·rcases hI with ⟨rfl,rfl,rfl⟩ | ⟨rfl,q1,rfl,hp1,hu1⟩
  ·dsimp only
   rw[if_neg (by omega),Nat.sub_zero]
   refine wpS_bind (w_count hp h1 fun q1 k hp1 k1 kn hu1=>?_)
   dsimp only
   have fin:∀ q2,Pq Y q2→Up Y q2 Y.n→wpS (model Y.prog Y.w) Y.A Y.E Y.s (modify (fun s=>setPending s ((pendingOf s).push (0,Y.n,0))) >>= fun _=>pure (ForInStep.yield ((none:Option Unit),0+Y.n))) (fun r st'=>match r with | .done c'=>c'=(none,Y.n)∧∃ q',st'=em Y q' #[(0,Y.n,0)] g∧Pq Y q'∧Up Y q' Y.n | .yield c'=>(0+1=0∧c'=(none,0)∧st'=em Y q #[] g)∨(c'=(none,Y.n)∧∃ q',st'=em Y q' #[(0,Y.n,0)] g∧Pq Y q'∧Up Y q' Y.n)) (em Y q2 #[] g):=fun q2 hp2 hu2=>by
    refine wpS_bind (wpS_modify (wpS_pure (.inr ⟨by rw[Nat.zero_add],q2,rfl,hp2,hu2⟩)))
   by_cases hk:k<Y.n
   ·rw[if_pos hk]
    refine wpS_bind (wpS_lift (wpAny_rule ⟨rfl,?_⟩))
    rw[show min Y.n Y.n=Y.n by omega]
    refine wpS_bind (KZ hp1 k1 kn hu1 fun q2 hp2 hu2=>?_)
    rw[if_neg (by decide)]
    refine wpS_bind (wpS_get ?_)
    exact fin q2 hp2 hu2
   ·rw[if_neg hk]
    have:k=Y.n:=by exact Oz8 kn hk
    rw[this] at hu1 ⊢
    refine wpS_bind (wpS_get ?_)
    exact fin q1 hp1 hu1
  ·dsimp only
   rw[if_pos (Nat.le_refl _)]
   exact wpS_pure ⟨rfl,q1,rfl,hp1,hu1⟩
 ·rcases hI with ⟨z,rfl,rfl⟩ | h
  ·omega
  ·exact h
 ·rintro c st ⟨rfl,q1,rfl,hp1,hu1⟩
  dsimp only
  refine wpS_bind (wpS_mono (wpS_forRange (I:=fun i c st=>c=(none,())∧st=em Y q1 #[(0,Y.n,0)] g) (Q:=fun c st=>c=(none,())∧st=em Y q1 #[(0,Y.n,0)] g) (fun i c st h2 h3 hI=>?_) (fun c st hI=>hI) ⟨rfl,rfl⟩) ?_)
  ·obtain⟨rfl,rfl⟩:=hI
   refine wpS_bind (wpS_get ?_)
   rw[if_pos (show (pendingOf (em Y q1 #[(0,Y.n,0)] g)).size≤1 from Nat.le_refl 1)]
   exact wpS_pure ⟨rfl,rfl⟩
  ·rintro c st ⟨rfl,rfl⟩
   exact wpS_pure (hq _ _ _ hp1 hu1)
end
end Sru
namespace Sru
structure Ord (lt:Nat→Nat→Bool) (n:Nat):Prop where
 ir:∀ i,i<n→lt i i=false
 tr:∀ i j k,i<n→j<n→k<n→lt i j=true→lt j k=true→lt i k=true
 to:∀ i j,i<n→j<n→i≠j→lt i j=true∨lt j i=true
noncomputable def rank (lt:Nat→Nat→Bool) (n i:Nat):Int:=((List.range n).countP fun j=>lt j i:Nat)
theorem GH {l:List Nat} {p q:Nat→Bool} (h:∀ x∈l,p x=true→q x=true) {y:Nat} (hy:y∈l) (h1:p y=false) (h2:q y=true):l.countP p<l.countP q:=by
 induction l with
 | nil=>cases hy
 | cons x xs ih =>
  have hle:xs.countP p≤xs.countP q:=List.countP_mono_left fun z hz hp=>h z (.tail _ hz) hp
  rcases List.mem_cons.mp hy with e | hy
  ·subst e
   rw[List.countP_cons_of_neg (by rw[h1]; decide),List.countP_cons_of_pos h2]
   omega
  ·have:=ih (fun z hz=>h z (.tail _ hz)) hy
   cases hp:p x with
   | true =>
    rw[List.countP_cons_of_pos hp,List.countP_cons_of_pos (h x (.head _) hp)]
    exact Oz94 this
   | false =>
    rw[List.countP_cons_of_neg (by rw[hp]; decide)]
    have:xs.countP q≤(x::xs).countP q:=List.Sublist.countP_le (List.sublist_cons_self ..)
    omega
theorem zw {lt:Nat→Nat→Bool} {n i j:Nat} (o:Ord lt n) (hi:i<n) (hj:j<n) (h:lt i j=true):rank lt n i<rank lt n j:=by
 have:(List.range n).countP (fun x=>lt x i)<(List.range n).countP (fun x=>lt x j) :=
  GH (fun x hx hp=>o.tr x i j (List.mem_range.mp hx) hi hj hp h) (List.mem_range.mpr hi) (o.ir i hi) h
 unfold rank
 exact Oz38 this
theorem rank_iff {lt:Nat→Nat→Bool} {n i j:Nat} (o:Ord lt n) (hi:i<n) (hj:j<n):decide (rank lt n i<rank lt n j)=lt i j:=by
 cases h:lt i j with
 | true=>exact decide_eq_true (zw o hi hj h)
 | false =>
  refine decide_eq_false fun z=>?_
  by_cases e:i=j
  ·subst e; omega
  ·rcases o.to i j hi hj e with h' | h'
   ·rw[h] at h'; cases h'
   ·have:=zw o hj hi h'
    omega
theorem rank_inj {lt:Nat→Nat→Bool} {n i j:Nat} (o:Ord lt n) (hi:i<n) (hj:j<n) (h:rank lt n i=rank lt n j):i=j:=by
 by_cases e:i=j
 ·exact e
 ·rcases o.to i j hi hj e with h' | h'
  ·have:=zw o hi hj h'; omega
  ·have:=zw o hj hi h'; omega
noncomputable def lexI:List Int→List Int→Bool
 | _,[]=>false
 | [],_::_=>true
 | x::xs,y::ys=>if x=y then lexI xs ys else decide (x<y)
theorem Be:∀ xs,lexI xs xs=false
 | []=>rfl
 | x::xs=>by
  unfold lexI
  rw[if_pos rfl]
  exact Be xs
theorem Em:∀ {xs ys zs},lexI xs ys=true→lexI ys zs=true→lexI xs zs=true
 | _,[],_,h,_=>by unfold lexI at h; cases h
 | _,_::_,[],_,h=>by unfold lexI at h; cases h
 | [],_::_,_::_,_,_=>rfl
 | x::xs,y::ys,z::zs,h1,h2=>by
  unfold lexI at h1 h2 ⊢
  by_cases e1:x=y
  ·subst e1
   rw[if_pos rfl] at h1
   by_cases e2:x=z
   ·rw[if_pos e2] at h2 ⊢
    exact Em h1 h2
   ·rw[if_neg e2] at h2 ⊢
    exact h2
  ·rw[if_neg e1] at h1
   have h1:=of_decide_eq_true h1
   by_cases e2:y=z
   ·subst e2
    rw[if_neg e1]
    exact decide_eq_true h1
   ·rw[if_neg e2] at h2
    have h2:=of_decide_eq_true h2
    rw[if_neg (by omega)]
    exact decide_eq_true (by omega)
theorem Et:∀ {xs ys},xs≠ys→lexI xs ys=true∨lexI ys xs=true
 | [],[],h=>absurd rfl h
 | [],_::_,_=>.inl rfl
 | _::_,[],_=>.inr rfl
 | x::xs,y::ys,h=>by
  unfold lexI
  by_cases e:x=y
  ·subst e
   rw[if_pos rfl,if_pos rfl]
   exact Et fun z=>h (by rw[z])
  ·rw[if_neg e,if_neg (Ne.symm e)]
   rcases Int.lt_or_gt_of_ne e with h | h
   ·exact .inl (decide_eq_true h)
   ·exact .inr (decide_eq_true h)
theorem ord_lex {ks:List (List Int)} (nd:ks.Nodup):Ord (fun i j=>lexI (ks.getD i []) (ks.getD j [])) ks.length where
 ir:=fun i _=>Be _
 tr:=fun _ _ _ _ _ _=>Em
 to:=fun i j hi hj hn=>Et fun e=>hn ((List.getElem?_inj hi nd).mp (by
  rw[List.getElem?_eq_getElem hi,List.getElem?_eq_getElem hj]
  simpa [List.getD,hi,hj] using e))
end Sru
namespace L2
open PySem PySem.Spec PyProof.Rows
section
variable {X:Cx} {pins:List (Addr×Obj)} {σ:St} {H:Hp} {s:Shared}
theorem Ab (I:Inv X pins σ H s):∀ (ks:List V) (us:List Value),Vals ks us→(∀ k∈ks,∃ p n r,k=.ref p∧SqT X.K H p (.int n::r))→∃ fs,PySem.W.KatTups s.heap us fs∧fs.length=us.length∧∀ f∈fs,∃ n t,f=Value.int n t
 | _,_,.nil,_=>⟨[],PySem.W.KatTups.nil,rfl,fun _ h=>nomatch h⟩
 | _,_,.cons (a:=k) (l₁:=ks) rk r,h=>by
  obtain⟨fs,t,l,q⟩:=Ab I ks _ r fun k' hk'=>h k' (List.mem_cons_of_mem _ hk')
  obtain⟨p,n,rest,rfl,P1⟩:=h _ List.mem_cons_self
  cases rk
  obtain⟨it1,r1,t1,_⟩:=I.tuple P1
  cases r1 with
  | cons a1 a2 =>
   obtain⟨u1,rfl⟩:=a1
   obtain⟨o1,ho1,hc1,n1,hd1⟩:=id t1
   refine⟨.int n u1::fs,PySem.W.KatTups.cons ho1 hc1 hd1 rfl t,by simp [l],fun f hf=>?_⟩
   rcases List.mem_cons.mp hf with rfl | hf
   ·exact⟨_,_,rfl⟩
   ·exact q f hf
theorem DC {l:Addr} {xs:List V} {Q:VK} {E:Value→Shared→Prop} {lt:Nat→Nat→Bool} (I:Inv X pins σ H s) (hh:X.A.handled=none) (hl:SqL X.K H l xs) (h64:xs.length<64) (o:Sru.Ord lt xs.length)
  (first:∀ k∈xs,∃ p n r,k=.ref p∧SqT X.K H p (.int n::r))
  (cmp:∀ (s':Shared),Inv X pins σ H s'→∀ (i j:Nat) (x y:V) (u v:Value),i≠j→xs[i]?=some x→xs[j]?=some y→RelV x u→RelV y v→∀ (Q':Bool→Shared→Prop) (E':Value→Shared→Prop),Q' (lt i j) s'→wpAny (model X.prog X.w) X.A.in1.in1 (keyLt' (tuples' true) u v) Q' E' s')
  (h:∀ (D:Addr) (out:List Nat),H D=none→out.Perm (List.range xs.length)→(∀ (i j a b:Nat),i<j→out[i]?=some a→out[j]?=some b→lt a b=true)→Q (.ref D) (upd H D (.lst (out.map fun i=>xs.getD i .non)))) :
  wpAny (model X.prog X.w) X.A (call (.builtin "sorted") [.ref l]) (EP X pins σ Q) E s:=by
 obtain⟨its,rv,pl,hzz⟩:=I.list hl
 have len:=rv.length
 have hil:its.length≤1000:=by omega
 have hsl:its.length≤sizeLine:=by rw[sizeLine_eq]; omega
 have pl':s.heap.IsList l its.toArray:=pl.isList
 refine wpAny_call (codeAny_call_builtin plain_sorted entry_sorted (PySem.SortD.check_sorted ?_))
 unfold Builtin.«sorted»
 refine wpAny_bind (m:=checkCount "sorted" 1 1 _) (wpAny_pure ?_)
 refine wpAny_bind (collect_list pl' ?_ hsl)
 refine wpAny_bind (wpAny_newList ?_ hsl)
 have fT:FpOk X pins H s.heap.objs.size:=I.fpOk (Nat.le_refl _) (I.hok.fresh (Nat.le_refl _))
 have I0:Inv X pins σ H { s with heap:=s.heap.push (seqObj "list" #[] 0) }:=I.kept (t':=s.toks) fun b o e=>Heap.get?_push_of_some _ e
 have I1:Inv X pins σ H { s with heap:=(s.heap.push (seqObj "list" #[] 0)).update s.heap.objs.size (Obj.mapSeq (·++its.toArray)) }:=by
  obtain⟨f0,f1,f2,f3,f4,f5⟩:=fT
  exact I0.turned (t':=s.toks) (fun b o hb e=>(Heap.get?_update_other _ _ (Ne.symm hb)).trans e) f0 f1 f3 f4 f5
 obtain⟨s1,hs1⟩:∃ s1:Shared,s1={ s with heap:=(s.heap.push (seqObj "list" #[] 0)).update s.heap.objs.size (Obj.mapSeq (·++its.toArray)) }:=⟨_,rfl⟩
 rw[← hs1] at I1 ⊢
 have fD:FpOk X pins H s1.heap.objs.size:=I1.fpOk (Nat.le_refl _) (I1.hok.fresh (Nat.le_refl _))
 have I2:Inv X pins σ H { s1 with heap:=s1.heap.push { cls:=.type "list",data:=.seq its.toArray } }:=I1.kept (t':=s1.toks) fun b o e=>Heap.get?_push_of_some _ e
 have hoD:(s1.heap.push { cls:=.type "list",data:=.seq its.toArray }).get? s1.heap.objs.size=some (seqObj "list" its.toArray 0):=Heap.get?_push_size _ rfl
 obtain⟨D,hD⟩:∃ D,D=s1.heap.objs.size:=⟨_,rfl⟩
 obtain⟨s2,hs2⟩:∃ s2:Shared,s2={ s1 with heap:=s1.heap.push { cls:=.type "list",data:=.seq its.toArray } }:=⟨_,rfl⟩
 have hoD':s2.heap.get? D=some (seqObj "list" its.toArray 0):=by rw[hs2,hD]; exact hoD
 rw[← hs2] at I2 ⊢
 rw[← hD] at fD ⊢
 clear hoD
 refine wpAny_bind (wpAny_holding (wpAny_call (codeAny_call_builtin F.slot_list_sort.plain entry_list_sort (F.slot_list_sort.check _ _ _ _ _ _ _ _ ⟨_,hoD',rfl⟩ (args_list_sort _) ?_))))
 show wpAny (model X.prog X.w) X.A.in1.in1 (Builtin.«list.sort» ⟨[.ref D],[]⟩) _ _ _
 rw[list_sort_plain]
 refine wpAny_bind (listItems_at hoD' rfl ?_)
 obtain⟨e1,ho1⟩:∃ e1,(s2.heap.update D (Obj.mapSeq fun _=>(#[]:Array Value))).get? D=some (seqObj "list" #[] e1):=⟨_,get?_update_seq hoD' fun _=>#[]⟩
 refine wpAny_bind (listUpdate_at hoD' rfl ?_ (by rw[List.size_toArray]; exact hsl) (Nat.zero_le _))
 obtain⟨d0,d1,d2,d3,d4,d5⟩:=id fD
 have I3:Inv X pins σ H { s2 with heap:=s2.heap.update D (Obj.mapSeq fun _=>(#[]:Array Value)) }:=I2.turned (t':=s2.toks) (fun b o hb e=>(Heap.get?_update_other _ _ (Ne.symm hb)).trans e) d0 d1 d3 d4 d5
 refine wpAny_bind (seqEpoch_at ho1 rfl ?_)
 refine wpAny_bind (wpAny_newTuple ?_ hsl)
 show wpAny _ _ _ _ _ { s2 with heap:=(s2.heap.update D (Obj.mapSeq fun _=>(#[]:Array Value))).push { cls:=.type "tuple",data:=.seq its.toArray } }
 have I4:Inv X pins σ H { s2 with heap:=(s2.heap.update D (Obj.mapSeq fun _=>(#[]:Array Value))).push { cls:=.type "tuple",data:=.seq its.toArray } }:=I3.kept (t':=s2.toks) fun b o e=>Heap.get?_push_of_some _ e
 have ho2:=Heap.get?_push_of_some { cls:=.type "tuple",data:=.seq its.toArray } ho1
 obtain⟨s4,hs4⟩:∃ s4:Shared,s4={ s2 with heap:=(s2.heap.update D (Obj.mapSeq fun _=>(#[]:Array Value))).push { cls:=.type "tuple",data:=.seq its.toArray } }:=⟨_,rfl⟩
 have ho3:s4.heap.get? D=some (seqObj "list" #[] e1):=by rw[hs4]; exact ho2
 rw[← hs4] at I4 ⊢
 refine wpAny_bind (wpAny_newList ?_ (Nat.zero_le _))
 refine wpAny_holding ?_
 have I5:Inv X pins σ H { s4 with heap:=s4.heap.push { cls:=.type "list",data:=.seq ([]:List Value).toArray } }:=I4.kept (t':=s4.toks) fun b o e=>Heap.get?_push_of_some _ e
 have ho4:=Heap.get?_push_of_some { cls:=.type "list",data:=.seq ([]:List Value).toArray } ho3
 obtain⟨s5,hs5⟩:∃ s5:Shared,s5={ s4 with heap:=s4.heap.push { cls:=.type "list",data:=.seq ([]:List Value).toArray } }:=⟨_,rfl⟩
 have ho5:s5.heap.get? D=some (seqObj "list" #[] e1):=by rw[hs5]; exact ho4
 rw[← hs5] at I5 ⊢
 have tail:∀ out:List Nat,out.Perm (List.range xs.length)→(∀ (i j a b:Nat),i<j→out[i]?=some a→out[j]?=some b→lt a b=true)→∀ (tk:Nat),∃ v H',Inv X pins σ H' { s5 with heap:=s5.heap.update D (Obj.mapSeq fun _=>(out.map fun i=>its.getD i Value.none).toArray),toks:=tk }∧RelV v (Value.ref D)∧Q v H':=fun out hp hs tk=>by
  have I9:=I5.turned (t':=tk) (h':=s5.heap.update D (Obj.mapSeq fun _=>(out.map fun i=>its.getD i Value.none).toArray)) (fun b o hb e=>(Heap.get?_update_other _ _ (Ne.symm hb)).trans e) d0 d1 d3 d4 d5
  obtain⟨c2,hc2⟩:∃ c2,(s5.heap.update D (Obj.mapSeq fun _=>(out.map fun i=>its.getD i Value.none).toArray)).get? D=some (seqObj "list" (out.map fun i=>its.getD i Value.none).toArray c2):=⟨_,get?_update_seq ho5 fun _=>_⟩
  have lo:out.length=xs.length:=by rw[hp.length_eq,List.length_range]
  exact⟨.ref D,_,I9.heldO (u0:=.lst (out.map fun i=>xs.getD i .non)) d0 (by rw[hD]; exact Heap.get?_none_of_le I1.sz) d1 d4 d5 ⟨by rw[List.length_map,sizeLine_eq]; omega,out.map fun i=>its.getD i Value.none,c2,zf rv out,hc2⟩,rfl,h D out d0 hp hs⟩
 dsimp only
 by_cases h2:its.toArray.size<2
 ·rw[if_pos h2,if_pos h2]
  refine wpAny_bind (wpAny_pure ?_)
  rw[StateT.run_pure]
  refine wpAny_bind (wpAny_pure ?_)
  dsimp only
  have eo:(its.toArray.zip its.toArray).map (·.2)=((List.range xs.length).map fun i=>its.getD i Value.none).toArray:=by
   rw[List.zip_toArray,xV its its rfl,len]
   simp
  show wpAny _ _ (seqEpoch D >>= fun c=>Builtin.List.listUpdate (Value.ref D) (fun _=>(its.toArray.zip its.toArray).map (·.2)) >>= _) _ _ _
  rw[eo]
  refine wpAny_bind (seqEpoch_at ho5 rfl ?_)
  refine wpAny_bind (listUpdate_at ho5 rfl ?_ (Nat.zero_le _) (by rw[List.size_toArray,List.length_map,List.length_range,sizeLine_eq]; exact Oz55 h64))
  simp only [bne_self_eq_false,Bool.false_eq_true,if_false]
  refine wpAny_pure (wpAny_pure (tail _ (List.Perm.refl _) (fun i j a b hij ha hb=>?_) _))
  have h3:=(List.getElem?_eq_some_iff.mp hb).1
  rw[List.length_range] at h3
  rw[List.size_toArray] at h2
  omega
 ·rw[if_neg h2,if_neg h2]
  rw[List.size_toArray] at h2
  obtain⟨fs,tt,lf,hf⟩:=Ab I5 xs its rv first
  refine wpAny_bind (PySem.W.kat_kind tt (by omega) (fun v hv=>by obtain⟨n,t,rfl⟩:=hf v hv; exact PySem.W.Looks.of_pure rfl) rfl ?_)
  rw[show (Value.type "int" != Value.type "tuple")=true from by decide]
  have hlt:∀ (i j:Nat),i<xs.length→j<xs.length→i≠j→∀ (Q':Bool→Shared→Prop) (E':Value→Shared→Prop),Q' (decide (Sru.rank lt xs.length i<Sru.rank lt xs.length j)) s5→wpAny (model X.prog X.w) X.A.in1.in1 (keyLt' (tuples' true) (its.getD i Value.none) (its.getD j Value.none)) Q' E' s5:=by
   intro i j hi hj hn Q' E' hq'
   rw[Sru.rank_iff o hi hj] at hq'
   obtain⟨x,ex⟩:∃ x,xs[i]?=some x:=⟨_,List.getElem?_eq_getElem hi⟩
   obtain⟨y,ey⟩:∃ y,xs[j]?=some y:=⟨_,List.getElem?_eq_getElem hj⟩
   obtain⟨u,eu,ru⟩:=rv.get ex
   obtain⟨v,ev,rv'⟩:=rv.get ey
   have e1:its.getD i Value.none=u:=by simp [List.getD,eu]
   have e2:its.getD j Value.none=v:=by simp [List.getD,ev]
   rw[e1,e2]
   exact cmp s5 I5 i j x y u v hn ex ey ru rv' Q' E' hq'
  obtain⟨Y,hY⟩:∃ Y:Sru.SY,Y={ prog:=X.prog,w:=X.w,A:=X.A.in1.in1,E:=E,s:=s5,κ:=tuples' true,item:=fun i=>(its.getD i Value.none,its.getD i Value.none),n:=xs.length,rk:=Sru.rank lt xs.length,inj:=fun i j hi hj e=>Sru.rank_inj o hi hj e,lt:=hlt }:=⟨_,rfl⟩
  have est:SortSt.mk' (tuples' true) (its.toArray.zip its.toArray) #[] 7 none=Sru.em Y (Array.range xs.length) #[] 7:=by
   rw[hY]
   show SortSt.mk' _ _ _ _ _=SortSt.mk' _ _ _ _ _
   congr 1
   rw[List.zip_toArray,xV its its rfl]
   show _=(Array.range xs.length).map fun i=>(its.getD i Value.none,its.getD i Value.none)
   rw[len,← List.toArray_range,List.map_toArray]
  have hW:=Sru.w_runs (Y:=Y) (q:=Array.range xs.length) (g:=7) (Q:=fun _ st=>∃ q':Array Nat,Sru.Pq Y q'∧Sru.Up Y q' Y.n∧(arrOf st).map (·.2)=(q'.toList.map fun i=>its.getD i Value.none).toArray∧failedOf st=none) ⟨by rw[hY]; simp⟩ (by rw[hY]; show 1≤xs.length; omega) (by rw[hY]; exact h64) (fun q' pd' g' hp hu=>⟨q',hp,hu,by
   show (q'.map Y.item).map (·.2)=_
   rw[hY]
   cases q'
   simp,rfl⟩)
  rw[est]
  have hW':wpAny (model X.prog X.w) X.A.in1.in1 (sortRuns'.run (Sru.em Y (Array.range xs.length) #[] 7)) (fun r s2=>s2=s5∧∃ q':Array Nat,Sru.Pq Y q'∧Sru.Up Y q' Y.n∧(arrOf r.2).map (·.2)=(q'.toList.map fun i=>its.getD i Value.none).toArray∧failedOf r.2=none) E s5:=by
   have:=hW
   rw[hY] at this ⊢
   exact this
  refine wpAny_bind (wpAny_mono hW' ?_ fun _ _ e=>e)
  rintro⟨⟨⟩,st'⟩ s'' ⟨rfl,q',hp,hu,eo,ef⟩
  dsimp only at eo ef ⊢
  rw[eo]
  have hpp:q'.toList.Perm (List.range xs.length):=by
   have:=hp.p
   rw[hY] at this
   exact this
  refine wpAny_bind (seqEpoch_at ho5 rfl ?_)
  refine wpAny_bind (listUpdate_at ho5 rfl ?_ (Nat.zero_le _) (by rw[List.size_toArray,List.length_map,hpp.length_eq,List.length_range,sizeLine_eq]; exact Oz55 h64))
  rw[ef]
  simp only [bne_self_eq_false,Bool.false_eq_true,if_false]
  refine wpAny_pure (wpAny_pure (tail _ hpp (fun i j a b hij ha hb=>?_) _))
  have hb':=(List.getElem?_eq_some_iff.mp hb).1
  rw[hpp.length_eq,List.length_range] at hb'
  have hu':=hu i j hij (by rw[hY]; exact hb')
  have ka:Sru.ky Y q' i=Sru.rank lt xs.length a:=by
   unfold Sru.ky
   rw[Array.getD_eq_getD_getElem?,← Array.getElem?_toList,ha,hY]
   rfl
  have kb:Sru.ky Y q' j=Sru.rank lt xs.length b:=by
   unfold Sru.ky
   rw[Array.getD_eq_getD_getElem?,← Array.getElem?_toList,hb,hY]
   rfl
  rw[ka,kb] at hu'
  have la:a<xs.length:=List.mem_range.mp (hpp.mem_iff.mp (List.mem_of_getElem? ha))
  have lb:b<xs.length:=List.mem_range.mp (hpp.mem_iff.mp (List.mem_of_getElem? hb))
  rw[← Sru.rank_iff o la lb]
  exact decide_eq_true hu'
theorem Cz {prog:Program} {w:World} {A:Around} {b:Bool} {Q:Bool→Shared→Prop} {s:Shared}:∀ {us vs:List Value} {ks ks':List Int} (i:Nat) (fin:Bool),IntsAre us ks→IntsAre vs ks'→fin=decide (us.length<vs.length)→Q (Sru.lexI ks ks') s→PySem.W.KatLex prog w A b fin Q (us.zip vs) i s
 | _,_,_,_,i,_,.nil,.nil,rfl,h=>PySem.W.kat_nil h
 | _,_,_,_,i,_,.nil,.cons y u h2,rfl,h=>by
  rw[List.zip_nil_left]
  refine PySem.W.kat_nil ?_
  rw[decide_eq_true (by simp)]
  exact h
 | _,_,_,_,i,_,.cons x t h1,.nil,rfl,h=>by
  rw[List.zip_nil_right]
  refine PySem.W.kat_nil ?_
  rw[decide_eq_false (by simp)]
  exact h
 | _,_,_,_,i,_,.cons (ns:=ks) x t h1,.cons (ns:=ks') y u h2,rfl,h=>by
  rw[List.zip_cons_cons]
  refine PySem.W.kat_cons (SeqAt.EqAt.int_int _ t _ u _ _ _ _ ?_)
  unfold Sru.lexI at h
  by_cases e0:x=y
  ·rw[if_pos e0] at h
   rw[show (x == y)=true by simp [e0]]
   exact PySem.W.kat_yes (Cz (i+1) _ h1 h2 (by rw[List.length_cons,List.length_cons,decide_eq_decide]; omega) h)
  ·rw[if_neg e0] at h
   rw[show (x == y)=false by simp [e0]]
   refine PySem.W.kat_no ?_
   cases (b && i == 0) with
   | true=>exact oneLt_int h
   | false=>exact PySem.W.kat_one _ _ (P.lt_int h)
theorem Ic {A:Around} {p q:Addr} {ks ks':List Int} (I:Inv X pins σ H s) (P1:SqT X.K H p (ks.map V.int)) (P2:SqT X.K H q (ks'.map V.int)) (Q:Bool→Shared→Prop) (E:Value→Shared→Prop) (h:Q (Sru.lexI ks ks') s):wpAny (model X.prog X.w) A (keyLt' (tuples' true) (.ref p) (.ref q)) Q E s:=by
 obtain⟨it1,r1,t1,_⟩:=I.tuple P1
 obtain⟨it2,r2,t2,_⟩:=I.tuple P2
 obtain⟨o1,ho1,_,n1,hd1⟩:=id t1
 obtain⟨o2,ho2,_,n2,hd2⟩:=id t2
 refine PySem.W.kat_lt ho1 hd1 ho2 hd2 ?_
 exact Cz 0 _ (ints_are r1) (ints_are r2) (by rw[List.size_toArray,List.size_toArray]) h
def Nums (K:PySem.W.Frag) (H:Hp) (xs:List V) (ks:List (List Int)):Prop:=xs.length=ks.length∧∀ (i:Nat) (x:V) (k:List Int),xs[i]?=some x→ks[i]?=some k→∃ p,x=.ref p∧SqT K H p (k.map V.int)
end
section
variable {X:Cx}
theorem CD (hc:X.calm=true):vn X (.builtin "sorted") (fun xs H Q=>∃ (p:Addr) (vs:List V) (ks:List (List Int)),xs=[.ref p]∧SqL X.K H p vs∧Nums X.K H vs ks∧ks.Nodup∧(∀ k∈ks,k≠[])∧ks.length<64∧∀ (D:Addr) (out:List Nat),H D=none→out.Perm (List.range ks.length)→(out.map fun i=>ks.getD i []).Pairwise (fun a b=>Sru.lexI a b=true)→Q (.ref D) (upd H D (.lst (out.map fun i=>vs.getD i .non)))):=by
 intro pins s σ H xs us Q I r h
 obtain⟨p,vs,ks,rfl,hq,⟨ln,hn⟩,nd,ne,h64,q⟩:=h
 obtain⟨u,rfl,rx⟩:=vals1 r
 cases rx
 refine DC (lt:=fun i j=>Sru.lexI (ks.getD i []) (ks.getD j [])) I (I.ok.hd hc) hq (by omega) (by rw[ln]; exact Sru.ord_lex nd) (fun k hk=>?_) (fun s' I' i j x y u v hij ex ey ru rv Q' E' hq'=>?_) fun D out hD hp hs=>?_
 ·obtain⟨i,hi⟩:=List.mem_iff_getElem?.mp hk
  have li:=(List.getElem?_eq_some_iff.mp hi).1
  obtain⟨z,hz⟩:∃ z,ks[i]?=some z:=⟨_,List.getElem?_eq_getElem (by exact Oz11 ln li)⟩
  obtain⟨p',rfl,hp'⟩:=hn i k z hi hz
  cases z with
  | nil=>exact absurd rfl (ne _ (List.mem_of_getElem? hz))
  | cons n r=>exact⟨p',n,_,rfl,hp'⟩
 ·have li:=(List.getElem?_eq_some_iff.mp ex).1
  have lj:=(List.getElem?_eq_some_iff.mp ey).1
  obtain⟨k1,z1⟩:∃ z,ks[i]?=some z:=⟨_,List.getElem?_eq_getElem (by exact Oz11 ln li)⟩
  obtain⟨k2,z2⟩:∃ z,ks[j]?=some z:=⟨_,List.getElem?_eq_getElem (by exact Oz11 ln lj)⟩
  obtain⟨p1,rfl,h1⟩:=hn i x k1 ex z1
  obtain⟨p2,rfl,h2⟩:=hn j y k2 ey z2
  cases ru
  cases rv
  have e1:ks.getD i []=k1:=by rw[List.getD,z1]; rfl
  have e2:ks.getD j []=k2:=by rw[List.getD,z2]; rfl
  rw[e1,e2] at hq'
  exact Ic I' h1 h2 Q' E' hq'
 ·refine q D out hD (by rw[← ln]; exact hp) ?_
  rw[List.pairwise_map]
  exact List.pairwise_iff_getElem.mpr fun i j hi hj hij=>hs i j _ _ hij (List.getElem?_eq_getElem hi) (List.getElem?_eq_getElem hj)
end
def Ew (tk tv:TE):TE:=fun σ H Q=>∀ p,H p=none→tk σ (upd H p (.dT [])) fun x H1=>tv σ H1 fun y H2=>∃ (b:Addr) (k:List Key),x=.ref b∧H2 b=some (.tup (k.map kV))∧H2 p=some (.dT [])∧Q (.ref p) (upd H2 p (.dT [(k,y)]))
theorem GQ {X:Cx} {ke ve:Expr} {tk tv:TE} {pos:Pos} (hu:X.A.units+1<cLine) (hk:PE X ke tk) (hv:PE X ve tv):PE X (.Dict [some ke] [ve] pos) (Ew tk tv):=by
 intro pins s σ H Q I h
 have hn:=I.hok.fresh (Nat.le_refl s.heap.objs.size)
 have I1:=I.laid (a:=s.heap.objs.size) (o:=.dT []) (h':=s.heap.push { cls:=.type "dict",data:=.dict #[] }) (t':=s.toks) (fun _ _ q=>Heap.get?_push_of_some _ q) (Nat.le_refl _) (BZ s.heap I.big)
 refine wpAny_Dict_any rfl rfl (by simp) (show 1≤15 by decide) (pairTrees_cons_walk ?_)
 refine thn (hk pins _ σ _ _ I1 (h _ hn)) fun u s1 ⟨x,H1,I2,rx,q1⟩=>?_
 refine thn (hv pins s1 σ H1 _ I2 q1) fun w s2 ⟨y,H2,I3,ry,b,k,ex,eb,ep,q⟩=>?_
 subst ex
 cases rx
 refine evalPairs_nil ?_
 obtain⟨z,hd,xs,rel,dd⟩:=IE I3.hok ep
 cases rel
 unfold storeAll
 rw[List.forIn_cons]
 refine wpAny_bind (wpAny_bind (wpAny_dictSet_heap (knd:=tupleKind (uI X.prog X.w)) (Nat.lt_of_succ_lt hu) (Ae I3.hok eb) dd fun h' dd' hs=>wpAny_pure ?_))
 show wpAny (model X.prog X.w) X.A (pure PUnit.unit) _ _ _
 refine wpAny_pure ?_
 obtain⟨o',es,ep',ho',h2,h3,h4,h6,h5⟩:=dd'
 refine⟨.ref s.heap.objs.size,_,?_,rfl,q⟩
 refine AV I3 (by rw[ep]; exact True.intro) hs ⟨o',ho'⟩ ⟨show 1≤sizeLine by decide,hd,_,((KT.put (H:=H2) (kvs:=[]) (xs:=[]) .nil k eb ry)).keeps fun c ys ec=>?_,o',es,ep',ho',h2,h3,h4,h5⟩
 rw[gS (BQ ec ep (fun z=>nomatch z))]
 exact ec
end L2
namespace Tb
open PySem L2 PyProof.Rows
abbrev Dc:=List (Str×Int)
noncomputable def ks (d:Dc):List Str:=d.map (·.1)
noncomputable def gt:Dc→Str→Int
 | [],_=>0
 | p::d,k=>if p.1=k then p.2 else gt d k
noncomputable def sm (d:Dc):Int:=(d.map (·.2)).sum
noncomputable def cs (rows:Dc) (s:Str):Int:=(rows.map fun p=>if p.1=s then p.2 else 0).sum
end Tb
namespace MthL
noncomputable def pk (ws:List Int) (w:Int) (i:Nat):Bool:=decide (0<ws.getD i 0∧ws.getD i 0≤w∧∀ j,j<i→ws.getD j 0≠ws.getD i 0)
noncomputable def rk (ws:List Int) (w:Int):Nat:=((List.range ws.length).filter (pk ws w)).length
theorem pk_true {ws:List Int} {w:Int} {i:Nat}:pk ws w i=true↔0<ws.getD i 0∧ws.getD i 0≤w∧∀ j,j<i→ws.getD j 0≠ws.getD i 0:=decide_eq_true_iff
noncomputable def look (ws:List Int):List Int:=ws.map fun w=>(rk ws w:Int)
theorem look_len (ws:List Int):(look ws).length=ws.length:=List.length_map ..
end MthL
namespace Mth
noncomputable def cell (ns:List Int) (k:Int):Int :=
 if k<(ns.length:Int) then ns.getD k.toNat 0 % 10 ^ 60
 else (if 0<(ns.length:Int) then ns.getD (k * 7 % (ns.length:Int)).toNat 0 % 10 ^ 60 * 48271+k * k * 69621 else 7919 * k+5) % 2147483647 * 16807 % 2147483629
noncomputable def gcd (a b:Int):Int:=(Int.gcd a b:Nat)
structure IsShare (t b x y:Int):Prop where
 pos:0<y
 low:gcd x y=1
 eq:x * b=t * y
 le1:x.natAbs≤t.natAbs
 le2:y.natAbs≤b.natAbs
noncomputable def tot (s r:Int×Int):Int×Int:=(s.1 * r.2+r.1 * s.2,s.2 * r.2)
structure Low (T:Int×Int) (x y:Int):Prop where
 pos:0<y
 low:gcd x y=1
 eq:x * T.2=T.1 * y
end Mth
set_option maxHeartbeats 4000000
open PySem L2
local macro_rules | `(tactic| trivial)=>`(tactic| simp only [IG,GA,IV,Hq,JL,Ew,JP,Km,Fc,G6,GV,HU,Cu,Gs,G0,JN,iOr,rIx,KM,Kf,rJoin,HN,wY,slots,Option.getD_some,Option.getD_none,HA,ze,E8,As,tOp,tUn,tC,CB,tCB,FH,HY,Aq,rI,rI0,rU,Hy,KG,FZ,tB,KL,tOr,JK,IS,JT,IM,CN,IU,IC,Ko,KN,ID,tSl,IT,Eo,G5,Ip,IB,JU,Kw,IW,tBM,D8,rEq,rNe,Kx,FE,FJ,Iw,J7,EB,Dj,Dl,DV,De,GP,FP,Fw,Fx,Ft,EV,Dk,Du,DR,C8,FN,Dd,Df,DB,DP,Fy,Di,DI,DQ,Dp,FF,Dt,Dy,Dw,Dm,Fi,DW,DG,Do,C9,JJ,KW,JV,JQ,EA,Fd,FD,G3,GK,FW,EE,ER,Ik,EY,Ez,EK,Gn,G1,decide_true,decide_false,JA,II,J0,IJ,HU,JF,HK,JE,HJ,GF,L2.start,cxK,Int.reduceToNat,List.map_cons,List.map_nil,List.length_cons,List.length_nil,Nat.reduceAdd,Nat.reduceSub,Nat.zero_add,List.replicate_succ,List.replicate_zero,List.cons_append,List.nil_append,List.append_nil,List.getElem?_cons_zero,List.getElem?_cons_succ,List.set_cons_zero,List.set_cons_succ,Option.some.injEq,V.int.injEq,V.bl.injEq,V.ref.injEq,V.str.injEq,V.ty.injEq,List.cons.injEq,exists_eq_left',exists_eq_left,exists_eq_right,exists_and_left,exists_and_right,and_true,true_and,and_assoc,exists_const,decide_eq_true_eq,Bool.not_eq_true',Bool.not_true,Bool.not_false,Bool.not_not,decide_eq_false_iff_not,ite_not,Bool.false_eq_true,if_true,if_false,reduceCtorEq,and_false,false_and,exists_false,or_false,false_or,↓reduceIte,eq_self,reduceIte])
local macro_rules | `(tactic| decreasing_trivial)=>`(tactic| first | exact Or.inl rfl | exact Or.inr (Or.inl rfl) | exact Or.inr (Or.inr rfl))
namespace My
open PySem L2
def BO (K:PySem.W.Frag):Sp:=fun vs H Q _=>∃ (a:Addr) (ns:List Int),vs=[.ref a]∧SqL K H a (ns.map V.int)∧ns.length≤63∧∀ H',Q (.bl true) H'
theorem zk {ns:List Int} {k:Int} (h0:0≤k) (h1:k<ns.length):atI (ns.map V.int) k=some (.int (ns.getD k.toNat 0)):=by
 have e:k=((k.toNat:Nat):Int):=by exact Oz2 h0
 have h2:k.toNat<ns.length:=by omega
 have q:(ns.map V.int)[k.toNat]?=some (.int (ns.getD k.toNat 0)):=by
  rw[List.getElem?_map,List.getElem?_eq_getElem h2]
  simp [List.getD,h2]
 have:=um q
 rw[← e] at this
 exact this
theorem EJ {n:Nat} {i:Int} (lo:-(10 ^ 61)≤i) (hi:i≤10 ^ 61) (hn:204≤n:=by decide):Bits n i:=(Bits.of (n:=204) (b:=10 ^ 61) lo hi (by decide)).mono hn
theorem gI {H:Hp} {p:Addr} (h:H p=none) (o:HO):Same H (upd H p o):=fun b u q=>by rw[gS (kB q h)]; exact q
theorem Same.tup {K:PySem.W.Frag} {H H':Hp} {a:Addr} {xs:List V} (e:Same H H') (h:SqT K H a xs):SqT K H' a xs:=by
 rcases h with (h | ⟨o,h⟩) | h
 ·exact .inl (.inl (e _ _ h))
 ·exact .inl (.inr ⟨o,e _ _ h⟩)
 ·exact .inr h
theorem Lb {n:Int} (h0:0≤n:=by decide) (h1:n≤1000000:=by decide):JX 10 n:=⟨h0,h1,by decide⟩
theorem C6 {i j:Int} (a:-(10 ^ 61)≤i) (b:i≤10 ^ 61) (c:-(10 ^ 61)≤j) (d:j≤10 ^ 61):CMulB i j:=⟨EJ a b,EJ c d⟩
theorem cdiv {i j:Int} (a:0<j) (b:j≤10 ^ 61):CDivB i j:=⟨a,EJ (by omega) b⟩
theorem getD_at {α:Type} {ws:List α} {j:Nat} {d:α} (h:j<ws.length):ws.getD j d=ws[j]:=by simp only [List.getD,List.getElem?_eq_getElem h,Option.getD_some]
theorem Ja {n j:Nat} (h:j<n):ixN n (j:Int)=some j:=by
 unfold ixN
 rw[if_pos (by exact Oz30),if_pos (by exact Oz38 h)]
 rfl
theorem oR {K:PySem.W.Frag} {H:Hp} {p:Addr} (h:H p=none) (xs:List V):∃ H1,H1=upd H p (.tup xs)∧Same H H1∧SqT K H1 p xs:=⟨_,rfl,gI h _,SqT.of fj⟩
theorem pI {H H':Hp} {l:Addr} (e:Same H H') (h:H l=none) (o:HO):Same H (upd H' l o):=fun b u hb=>by rw[gS (kB hb h)]; exact e _ _ hb
noncomputable def top (i:Nat):Stmt:=PySem.Challenge.pw_tariffgate_k43_looked.main.body.getD i (.Pass ⟨0,0,0,0⟩)
theorem az:(("thing":Str) == ("__debug__":Str))=false:=by decide
theorem aA:(("thing":Str) == ("__classdict__":Str))=false:=by decide
theorem aD:(("isinstance":Str) == ("__debug__":Str))=false:=by decide
theorem aE:("isinstance":Str)≠"__name__":=by decide
theorem rL:(("int":Str) == ("__debug__":Str))=false:=by decide
theorem rM:("int":Str)≠"__name__":=by decide
theorem oF:(("bool":Str) == ("__debug__":Str))=false:=by decide
theorem oG:("bool":Str)≠"__name__":=by decide
theorem iq:(("all":Str) == ("__debug__":Str))=false:=by decide
theorem ir:("all":Str)≠"__name__":=by decide
theorem kQ:(("str":Str) == ("__debug__":Str))=false:=by decide
theorem kR:("str":Str)≠"__name__":=by decide
theorem ao:(("len":Str) == ("__debug__":Str))=false:=by decide
theorem aq:("len":Str)≠"__name__":=by decide
theorem dg:(("tuple":Str) == ("__debug__":Str))=false:=by decide
theorem dh:("tuple":Str)≠"__name__":=by decide
theorem tG:(("is_whole":Str) == ("__debug__":Str))=false:=by decide
theorem rN:(("is_prefix":Str) == ("__debug__":Str))=false:=by decide
theorem hJ:(("is_name":Str) == ("__debug__":Str))=false:=by decide
theorem eR:(("list":Str) == ("__debug__":Str))=false:=by decide
theorem eT:("list":Str)≠"__name__":=by decide
theorem oH:(("kind":Str) == ("__debug__":Str))=false:=by decide
theorem oJ:(("kind":Str) == ("__classdict__":Str))=false:=by decide
theorem hU:(("is_kind":Str) == ("__debug__":Str))=false:=by decide
theorem tZ:(("some":Str) == ("__debug__":Str))=false:=by decide
theorem t5:(("some":Str) == ("__classdict__":Str))=false:=by decide
theorem rO:(("are_kinds":Str) == ("__debug__":Str))=false:=by decide
theorem av:(("_law_script":Str) == ("__debug__":Str))=false:=by decide
theorem aw:(("_law_script":Str) == ("__classdict__":Str))=false:=by decide
theorem cJ:(("_law_k":Str) == ("__debug__":Str))=false:=by decide
theorem cK:(("_law_k":Str) == ("__classdict__":Str))=false:=by decide
theorem ar:(("_law_cell":Str) == ("__debug__":Str))=false:=by decide
theorem au:(("_law_cell":Str) == ("__classdict__":Str))=false:=by decide
theorem bp:(("_law_more":Str) == ("__debug__":Str))=false:=by decide
theorem bq:(("_law_more":Str) == ("__classdict__":Str))=false:=by decide
theorem br:(("_law_some":Str) == ("__debug__":Str))=false:=by decide
theorem bu:(("_law_some":Str) == ("__classdict__":Str))=false:=by decide
theorem gk:(("_law_signs":Str) == ("__debug__":Str))=false:=by decide
theorem gm:(("_law_signs":Str) == ("__classdict__":Str))=false:=by decide
theorem iu:(("_law_size":Str) == ("__debug__":Str))=false:=by decide
theorem iw:(("_law_size":Str) == ("__classdict__":Str))=false:=by decide
theorem oK:(("_law_stuffs":Str) == ("__debug__":Str))=false:=by decide
theorem oM:(("_law_stuffs":Str) == ("__classdict__":Str))=false:=by decide
theorem rQ:(("_law_uses":Str) == ("__debug__":Str))=false:=by decide
theorem rR:(("_law_uses":Str) == ("__classdict__":Str))=false:=by decide
theorem eZ:(("_law_many":Str) == ("__debug__":Str))=false:=by decide
theorem e7:(("_law_many":Str) == ("__classdict__":Str))=false:=by decide
theorem rT:(("_law_step":Str) == ("__debug__":Str))=false:=by decide
theorem rV:(("_law_step":Str) == ("__classdict__":Str))=false:=by decide
theorem aG:(("_law_cell_at":Str) == ("__debug__":Str))=false:=by decide
theorem j4:(("_law_names":Str) == ("__debug__":Str))=false:=by decide
theorem kU:(("_law_spot":Str) == ("__debug__":Str))=false:=by decide
theorem kW:(("_law_spot":Str) == ("__classdict__":Str))=false:=by decide
abbrev cf:Stmt:=top 7
theorem tH:FnScope ["thing"] ["thing"] (defScope cf):=⟨rfl,rfl,rfl,by decide +kernel,rfl,by decide +kernel,by decide +kernel⟩
theorem kX:Vis (defScope cf) "thing":=by decreasing_trivial
theorem eU:(defScope cf).names.lookup ("isinstance":Str)=some .globalImplicit:=by rfl
theorem oN:(defScope cf).names.lookup ("int":Str)=some .globalImplicit:=by rfl
theorem nz:(defScope cf).names.lookup ("bool":Str)=some .globalImplicit:=by rfl
abbrev cw:Stmt:=top 9
theorem uq:FnScope ["thing"] ["thing"] (defScope cw):=⟨rfl,rfl,rfl,by decide +kernel,rfl,by decide +kernel,by decide +kernel⟩
theorem i8:Vis (defScope cw) "thing":=by decreasing_trivial
theorem jI:(defScope cw).names.lookup ("isinstance":Str)=some .globalImplicit:=by rfl
theorem pX:(defScope cw).names.lookup ("str":Str)=some .globalImplicit:=by rfl
theorem pY:(defScope cw).names.lookup ("len":Str)=some .globalImplicit:=by rfl
theorem pZ:(defScope cw).names.lookup ("all":Str)=some .globalImplicit:=by rfl
abbrev bI:Stmt:=top 10
theorem rW:FnScope ["thing"] ["thing"] (defScope bI):=⟨rfl,rfl,rfl,by decide +kernel,rfl,by decide +kernel,by decide +kernel⟩
theorem gn:Vis (defScope bI) "thing":=by decreasing_trivial
theorem i9:(defScope bI).names.lookup ("isinstance":Str)=some .globalImplicit:=by rfl
theorem mf:(defScope bI).names.lookup ("tuple":Str)=some .globalImplicit:=by rfl
theorem nA:(defScope bI).names.lookup ("len":Str)=some .globalImplicit:=by rfl
theorem nB:(defScope bI).names.lookup ("all":Str)=some .globalImplicit:=by rfl
abbrev ci:Stmt:=top 11
theorem rX:FnScope ["thing"] ["thing"] (defScope ci):=⟨rfl,rfl,rfl,by decide +kernel,rfl,by decide +kernel,by decide +kernel⟩
theorem j5:Vis (defScope ci) "thing":=by decreasing_trivial
theorem jn:(defScope ci).names.lookup ("is_prefix":Str)=some .globalImplicit:=by rfl
theorem nC:(defScope ci).names.lookup ("len":Str)=some .globalImplicit:=by rfl
abbrev cx:Stmt:=top 13
theorem ur:FnScope ["thing"] ["thing"] (defScope cx):=⟨rfl,rfl,rfl,by decide +kernel,rfl,by decide +kernel,by decide +kernel⟩
theorem fP:Vis (defScope cx) "thing":=by decreasing_trivial
theorem jJ:(defScope cx).names.lookup ("isinstance":Str)=some .globalImplicit:=by rfl
theorem nD:(defScope cx).names.lookup ("tuple":Str)=some .globalImplicit:=by rfl
theorem qc:(defScope cx).names.lookup ("len":Str)=some .globalImplicit:=by rfl
theorem gP:(defScope cx).names.lookup ("is_name":Str)=some .globalImplicit:=by rfl
abbrev bJ:Stmt:=top 14
theorem rY:FnScope ["thing"] ["thing"] (defScope bJ):=⟨rfl,rfl,rfl,by decide +kernel,rfl,by decide +kernel,by decide +kernel⟩
theorem eK:Vis (defScope bJ) "thing":=by decreasing_trivial
theorem ja:(defScope bJ).names.lookup ("isinstance":Str)=some .globalImplicit:=by rfl
theorem mP:(defScope bJ).names.lookup ("list":Str)=some .globalImplicit:=by rfl
theorem nE:(defScope bJ).names.lookup ("len":Str)=some .globalImplicit:=by rfl
theorem iU:(defScope bJ).names.lookup ("all":Str)=some .globalImplicit:=by rfl
abbrev cH:Stmt:=top 15
theorem tI:FnScope ["some"] ["some"] (defScope cH):=⟨rfl,rfl,rfl,by decide +kernel,rfl,by decide +kernel,by decide +kernel⟩
theorem kY:Vis (defScope cH) "some":=by decreasing_trivial
theorem jK:(defScope cH).names.lookup ("are_kinds":Str)=some .globalImplicit:=by rfl
theorem nF:(defScope cH).names.lookup ("list":Str)=some .globalImplicit:=by rfl
abbrev bL:Stmt:=top 52
theorem oO:FnScope ["_law_script","_law_k"] ["_law_script","_law_k"] (defScope bL):=⟨rfl,rfl,rfl,by decide +kernel,rfl,by decide +kernel,by decide +kernel⟩
theorem iV:Vis (defScope bL) "_law_script":=by decreasing_trivial
theorem iW:Vis (defScope bL) "_law_k":=by decreasing_trivial
theorem mh:(defScope bL).names.lookup ("len":Str)=some .globalImplicit:=by rfl
abbrev aI:Stmt:=top 53
theorem cz:FnScope ["_law_cell","_law_more","_law_letters","_law_primes","_law_some","_law_k","_law_signs","_law_size"] ["_law_cell","_law_more"] (defScope aI):=⟨rfl,rfl,rfl,by decide +kernel,rfl,by decide +kernel,by decide +kernel⟩
theorem dM:Vis (defScope aI) "_law_more":=by decreasing_trivial
theorem qd:Loc (defScope aI) "_law_letters":=by first | exact Or.inl rfl | exact Or.inr rfl
theorem qe:Loc (defScope aI) "_law_primes":=by first | exact Or.inl rfl | exact Or.inr rfl
theorem j6:Vis (defScope aI) "_law_some":=by decreasing_trivial
theorem qg:Loc (defScope aI) "_law_some":=by first | exact Or.inl rfl | exact Or.inr rfl
theorem j7:Vis (defScope aI) "_law_k":=by decreasing_trivial
theorem qh:Loc (defScope aI) "_law_k":=by first | exact Or.inl rfl | exact Or.inr rfl
theorem gp:Vis (defScope aI) "_law_signs":=by decreasing_trivial
theorem qi:Loc (defScope aI) "_law_signs":=by first | exact Or.inl rfl | exact Or.inr rfl
theorem gq:Vis (defScope aI) "_law_size":=by decreasing_trivial
theorem j8:Loc (defScope aI) "_law_size":=by first | exact Or.inl rfl | exact Or.inr rfl
theorem gQ:(defScope aI).names.lookup ("range":Str)=some .globalImplicit:=by rfl
abbrev ah:Stmt:=top 54
theorem bT:FnScope ["_law_script","_law_cell","_law_stuffs","_law_uses","_law_many","_law_step","_law_some","_law_k","_law_spot"] ["_law_script"] (defScope ah):=⟨rfl,rfl,rfl,by decide +kernel,rfl,by decide +kernel,by decide +kernel⟩
theorem dN:Vis (defScope ah) "_law_script":=by decreasing_trivial
theorem gu:Vis (defScope ah) "_law_cell":=by decreasing_trivial
theorem qj:Loc (defScope ah) "_law_cell":=by first | exact Or.inl rfl | exact Or.inr rfl
theorem qk:Vis (defScope ah) "_law_stuffs":=by decreasing_trivial
theorem ql:Loc (defScope ah) "_law_stuffs":=by first | exact Or.inl rfl | exact Or.inr rfl
theorem qm:Vis (defScope ah) "_law_uses":=by decreasing_trivial
theorem qo:Loc (defScope ah) "_law_uses":=by first | exact Or.inl rfl | exact Or.inr rfl
theorem qp:Vis (defScope ah) "_law_many":=by decreasing_trivial
theorem qr:Loc (defScope ah) "_law_many":=by first | exact Or.inl rfl | exact Or.inr rfl
theorem qt:Vis (defScope ah) "_law_step":=by decreasing_trivial
theorem qu:Loc (defScope ah) "_law_step":=by first | exact Or.inl rfl | exact Or.inr rfl
theorem j9:Vis (defScope ah) "_law_some":=by decreasing_trivial
theorem qv:Loc (defScope ah) "_law_some":=by first | exact Or.inl rfl | exact Or.inr rfl
theorem qw:Vis (defScope ah) "_law_k":=by decreasing_trivial
theorem qx:Loc (defScope ah) "_law_k":=by first | exact Or.inl rfl | exact Or.inr rfl
theorem ka:Vis (defScope ah) "_law_spot":=by decreasing_trivial
theorem qy:Loc (defScope ah) "_law_spot":=by first | exact Or.inl rfl | exact Or.inr rfl
theorem bB:(defScope ah).names.lookup ("_law_cell_at":Str)=some .globalImplicit:=by rfl
theorem eG:(defScope ah).names.lookup ("_law_names":Str)=some .globalImplicit:=by rfl
theorem ml:(defScope ah).names.lookup ("range":Str)=some .globalImplicit:=by rfl
noncomputable def cellAt (ns:List Int) (k:Int):Int:=if k<(ns.length:Int) then ns.getD k.toNat 0 else 0
def wO (K:PySem.W.Frag):Sp:=fun vs H Q _=>∃ (a:Addr) (ns:List Int) (k:Int),vs=[.ref a,.int k]∧SqL K H a (ns.map V.int)∧0≤k∧Q (.int (cellAt ns k)) H
theorem r9 {K:PySem.W.Frag} {H:Hp} {a:Addr} {ns:List Int} {k:Int} {Q:VK} {E:XK} (h:SqL K H a (ns.map V.int)) (h0:0≤k) (q:Q (.int (cellAt ns k)) H):wO K [.ref a,.int k] H Q E:=⟨a,ns,k,rfl,h,h0,q⟩
section
variable {P:Program} {w:World} {K:PySem.W.Frag} {mg:Str→Option Value} {base:Heap} {f:Addr} {fd:FuncData}
theorem AR (F:Fun K "_law_cell_at" "_law_cell_at" bL f fd) (M:Mg mg):FnOk P w K mg base CX0 1 f fd ["_law_script","_law_k"] (wO K):=by
 refine F.ok oO (fun vs H Q E h=>?_) (fun cdv A outer s H vs Q E hr h=>?_)
 ·obtain⟨a,ns,k,rfl,_⟩:=h
  rfl
 obtain⟨a,ns,k,rfl,hS,h0,q⟩:=h
 refine⟨_,(@fz _ _ _ _ _ (@pG _ _ _ _ _ _ _ _ (@mL _ _ _ _ _ _ _ _ (@E3 _) (@eF _ 1 _ _ rfl iW cJ cK) (@ki _ _ _ _ _ _ _ _ _ m9 mh M.m_len qZ (@cg _ _ _ _ _ (@eF _ 0 _ _ rfl iV av aw) (@eY _) (cT rfl)) aq ao (cT rfl) gj) (nj _)) (@fS _ _ _ (@jm _ _ _ _ (@kZ _ _ _ _ _ _ _ (@ix_list _) (@eF _ 0 _ _ rfl iV av aw) (@eF _ 1 _ _ rfl iW cJ cK) (fun _ _=>rfl)))) (@mO _)) (@fS _ _ _ (@jm _ _ _ _ (@ff _ _ _ _)))),?_⟩
 unfold cellAt at q
 trivial
 refine⟨_,.inl hS,?_⟩
 rw[List.length_map]
 by_cases hk:k<(ns.length:Int)
 ·rw[if_pos hk]
  rw[if_pos hk] at q
  exact⟨_,hS,_,zk h0 hk,q⟩
 ·rw[if_neg hk]
  rw[if_neg hk] at q
  exact q
end
noncomputable def Ak:Kn→Bool
 | .int=>true
 | _=>false
def xU (K:PySem.W.Frag):Sp:=fun vs H Q _=>∃ v k,vs=[v]∧Kd K H v k∧Q (.bl (Ak k)) H
theorem zh {K:PySem.W.Frag} {H:Hp} {v:V} {k:Kn} {Q:VK} {E:XK} (h:Kd K H v k) (q:Q (.bl (Ak k)) H):xU K [v] H Q E:=⟨v,k,rfl,h,q⟩
theorem KH {K:PySem.W.Frag} {H:Hp} {v:V} (h:Kd K H v .int):∃ i,v=.int i:=by
 cases v with
 | int i=>exact⟨i,rfl⟩
 | ref a=>rcases h with ⟨z,_⟩ | ⟨z,_⟩ | ⟨z,_⟩ <;> cases z
 | non=>cases h
 | bl b=>cases h
 | str x=>cases h
 | byt b=>exact h.elim
 | flt b=>exact h.elim
 | ty n=>exact h.elim
theorem AN {K:PySem.W.Frag} {H H':Hp} {v:V} {k:Kn} (e:Same H H') (h:Kd K H v k):Kd K H' v k:=by
 cases v with
 | ref a =>
  rcases h with ⟨z,xs,h⟩ | ⟨z,xs,h⟩ | ⟨z,h⟩
  ·exact .inl ⟨z,xs,e.seq h⟩
  ·exact .inr (.inl ⟨z,xs,Same.tup e h⟩)
  ·exact .inr (.inr ⟨z,e _ _ h⟩)
 | _=>exact h
theorem Gq {k:Kn} (h:k≠.int):Ak k=false:=by
 cases k <;> first | rfl | exact absurd rfl h
section
variable {P:Program} {w:World} {K:PySem.W.Frag} {mg:Str→Option Value} {base:Heap} {f:Addr} {fd:FuncData}
theorem DF (F:Fun K "is_whole" "is_whole" cf f fd) (M:Mg mg):FnOk P w K mg base CX0 1 f fd ["thing"] (xU K):=by
 refine F.ok tH (fun vs H Q E h=>?_) (fun cdv A outer s H vs Q E hr h=>?_)
 ·obtain⟨v,k,rfl,_⟩:=h
  rfl
 obtain⟨v,k,rfl,hk,q⟩:=h
 refine⟨_,(@fS _ _ _ (@jm _ _ _ _ (@vH _ _ _ _ _ _ _ (@ki _ _ _ _ _ _ _ _ _ uF eU M.m_isinstance qU (@cg _ _ _ _ _ (@eF _ 0 _ _ rfl kX az aA) (@cg _ _ _ _ _ (@uT _ _ (.ty "int") _ _ oN M.m_int IR rfl rM rL) (@eY _) (cT rfl)) (cT rfl)) aE aD (cT rfl) (iT rfl gj)) (@vz _ _ _ _ _ (@Cc _ _ _ _ (@ki _ _ _ _ _ _ _ _ _ uF eU M.m_isinstance qU (@cg _ _ _ _ _ (@eF _ 0 _ _ rfl kX az aA) (@cg _ _ _ _ _ (@uT _ _ (.ty "bool") _ _ nz M.m_bool GG rfl oG oF) (@eY _) (cT rfl)) (cT rfl)) aE aD (cT rfl) (iT rfl gj))))))),?_⟩
 trivial
 refine⟨_,hk,?_⟩
 cases k with
 | int=>exact⟨_,hk,q⟩
 | bl=>exact⟨_,hk,q⟩
 | _=>exact q
end
noncomputable def nameB (cs:List Nat):Bool:=decide (1≤cs.length∧cs.length≤8) && cs.all yy
abbrev asc (cs:List Nat):Prop:=cs.all (fun c=>decide (c<128))=true
inductive NameV (K:PySem.W.Frag) (H:Hp):V→Bool→Prop
 | no {v:V} {k:Kn}:Kd K H v k→k≠.str→NameV K H v false
 | txt {cs:List Nat}:asc cs→cs.length≤1000→NameV K H (.str (txt cs)) (nameB cs)
def yx (K:PySem.W.Frag):Sp:=fun vs H Q _=>∃ v b,vs=[v]∧NameV K H v b∧∀ H',Same H H'→Q (.bl b) H'
theorem Ff {k:Kn} (h:k≠.str):qq k .str=false:=by
 cases k <;> first | rfl | exact absurd rfl h
theorem Jw (cs:List Nat):(txt cs).length=cs.length:=List.size_toArray ..
section
variable {P:Program} {w:World} {K:PySem.W.Frag} {mg:Str→Option Value} {base:Heap} {f:Addr} {fd:FuncData}
theorem EW (F:Fun K "is_name" "is_name" cw f fd) (M:Mg mg):FnOk P w K mg base CX0 1 f fd ["thing"] (yx K):=by
 refine F.ok uq (fun vs H Q E h=>?_) (fun cdv A outer s H vs Q E hr h=>?_)
 ·obtain⟨v,b,rfl,_⟩:=h
  rfl
 obtain⟨v,b,rfl,N,q⟩:=h
 refine⟨_,(@fz _ _ _ _ _ (@pG _ _ _ _ _ _ _ _ (@PW.pt _ _ _ (@wR _ _ _ _ _ _ _ (@tw _ _ _ _ (@qY _ _ _ (@ki _ _ _ _ _ _ _ _ _ uF jI M.m_isinstance qU (@cg _ _ _ _ _ (@eF _ 0 _ _ rfl i8 az aA) (@cg _ _ _ _ _ (@uT _ _ (.ty "str") _ _ pX M.m_str Fk rfl kR kQ) (@eY _) (cT rfl)) (cT rfl)) aE aD (cT rfl) (iT rfl gj)) (rS rfl))) (@wC _ _ _ _ (@tw _ _ _ _ (@yC _ _ _ _ _ _ _ _ _ _ _ _ xB xB (@ff _ _ _ _) (@ki _ _ _ _ _ _ _ _ _ Cs pY M.m_len qZ (@cg _ _ _ _ _ (@eF _ 0 _ _ rfl i8 az aA) (@eY _) (cT rfl)) aq ao (cT rfl) gj) (@ff _ _ _ _) (by with_unfolding_all rfl)))))) (@fS _ _ _ (@jm _ _ _ _ (@sf _ _ _ _))) (@mO _)) (@fS _ _ _ (@jm _ _ _ _ (@ki _ _ _ _ _ _ _ _ _ (wg rfl) pZ M.m_all zu (@cg _ _ _ _ _ (@rZ _ _ _ _ _ _ _ _ _ _ _ _ _ _ _ rfl (CompOk.make (N':=["letter"]) (ix:=[]) (nl:=1) (by rfl) fm0 (by rfl) (by decide +kernel) rfl (by decide +kernel) rfl True.intro) (@J5 _ _ _ _ (@eF _ 0 _ _ rfl i8 az aA)) (fun _ _ _ _ _=>(@pF _ _ 0 _ (show List.Nodup (["letter"]:List Str) from by decide) rfl (Or.inl rfl) (by first | exact .inl rfl | exact .inr rfl | assumption))) (fun _ _ _ _ _=>(@uU _)) (fun _ _ _ _ _=>(@CL _ _ _ _ _ _ _ _ _ _ _ _ GE GE (@nS _ _ _ _) (@pv _ 0 _ _ (by rfl) (by decreasing_trivial) (by decide) (by decide)) (@nS _ _ _ _) (by with_unfolding_all rfl))) (by intro _; rfl)) (@eY _) (cT rfl)) ir iq (cT rfl) gj)))),?_⟩
 cases N with
 | no kd hk =>
  trivial
  refine⟨_,kd,?_⟩
  rw[if_pos (Ff hk)]
  exact q _ (Same.refl _)
 | @txt cs ha hn =>
  trivial
  rw[Jw]
  have sl:cs.length≤sizeLine:=Nat.le_trans hn (by decide)
  refine⟨sl,?_⟩
  by_cases h1:1≤(cs.length:Int)
  ·rw[if_pos h1]
   by_cases h2:(cs.length:Int)≤8
   ·rw[if_pos h2]
    refine⟨_,rfl,ha,fun D hD=>?_⟩
    obtain⟨Pc,hC⟩:∃ Pc:Nat→St→Hp→Prop,Pc=fun i τ H'=>∃ z,H' D=some (.lst (((cs.map yy).take i).map V.bl))∧Same H H'∧τ=[z]:=⟨_,rfl⟩
    refine GR cs Pc ?_ ?_ ?_
    ·rw[hC]
     exact⟨_,fj,gI hD _,rfl⟩
    ·intro i c τ H' R hc h next
     rw[hC] at h
     obtain⟨z,d1,d2,rfl⟩:=h
     have li:i<cs.length:=(List.getElem?_eq_some_iff.mp hc).1
     have key:∃ ys,H' D=some (.lst ys)∧ys.length<sizeLine∧R [some (sgn c)] (upd H' D (.lst (ys++[.bl (yy c)]))):=by
      refine⟨_,d1,?_,next _ _ ?_⟩
      ·rw[List.length_map,List.length_take,List.length_map]
       exact Nat.lt_of_lt_of_le (m:=64) (by omega) (by decide)
      ·rw[hC]
       refine⟨_,?_,fun b o hb=>by rw[gS (kB hb hD)]; exact d2 _ _ hb,rfl⟩
       rw[fj,List.take_add_one,List.getElem?_map,hc,List.map_append]
       rfl
     trivial
     refine⟨97,rfl,_,rfl,?_⟩
     unfold yy at key
     by_cases hc1:97≤c
     ·rw[decide_eq_true hc1,Bool.true_and] at key
      rw[if_pos hc1]
      exact⟨_,rfl,122,rfl,key⟩
     ·rw[decide_eq_false hc1,Bool.false_and] at key
      rw[if_neg hc1]
      exact key
    ·intro τ H' h
     rw[hC] at h
     obtain⟨z,d1,d2,rfl⟩:=h
     rw[List.take_of_length_le (by rw[List.length_map]; exact Nat.le_refl _)] at d1
     refine⟨_,rfl,_,SqL.of d1,?_⟩
     have e:nameB cs=(cs.map yy).all id:=by
      unfold nameB
      rw[decide_eq_true ⟨by omega,by omega⟩,Bool.true_and,List.all_map]
      rfl
     rw[← e]
     exact q _ d2
   ·rw[if_neg h2]
    have e:nameB cs=false:=by
     unfold nameB
     rw[decide_eq_false (by omega)]
     rfl
    rw[← e]
    exact q _ (Same.refl _)
  ·rw[if_neg h1]
   have e:nameB cs=false:=by
    unfold nameB
    rw[decide_eq_false (by omega)]
    rfl
   rw[← e]
   exact q _ (Same.refl _)
end
noncomputable def itB:V→Bool
 | .int i=>decide (1≤i∧i≤99)
 | _=>false
noncomputable def prefB (xs:List V):Bool:=decide (xs.length≤4) && xs.all itB
def Knd (K:PySem.W.Frag) (H:Hp) (x:V):Prop:=∃ k,Kd K H x k
theorem Knd.same {K:PySem.W.Frag} {H H':Hp} {x:V} (h:Knd K H x) (e:Same H H'):Knd K H' x:=by
 obtain⟨k,h⟩:=h
 exact⟨k,AN e h⟩
inductive PrefV (K:PySem.W.Frag) (H:Hp):V→Bool→Prop
 | no {v:V} {k:Kn}:Kd K H v k→k≠.tup→PrefV K H v false
 | tup {p:Addr} {xs:List V}:SqT K H p xs→(∀ x∈xs,Knd K H x)→PrefV K H (.ref p) (prefB xs)
inductive NumV (K:PySem.W.Frag) (H:Hp):V→Bool→Prop
 | no {v:V} {k:Kn}:Kd K H v k→k≠.tup→NumV K H v false
 | tup {p:Addr} {xs:List V}:SqT K H p xs→(∀ x∈xs,Knd K H x)→NumV K H (.ref p) (prefB xs && decide (1≤xs.length))
def ym (K:PySem.W.Frag):Sp:=fun vs H Q _=>∃ v b,vs=[v]∧PrefV K H v b∧∀ H',Same H H'→Q (.bl b) H'
def yz (K:PySem.W.Frag):Sp:=fun vs H Q _=>∃ v b,vs=[v]∧NumV K H v b∧∀ H',Same H H'→Q (.bl b) H'
theorem Fb {k:Kn} (h:k≠.tup):qq k .tup=false:=by
 cases k <;> first | rfl | exact absurd rfl h
theorem Hz {K:PySem.W.Frag} {H:Hp} {x:V} {k:Kn} (h:Kd K H x k):(k=.int∧∃ i,x=.int i)∨(Ak k=false∧itB x=false):=by
 by_cases e:k=.int
 ·subst e
  exact .inl ⟨rfl,KH h⟩
 ·refine .inr ⟨Gq e,?_⟩
  cases x with
  | int i=>exact absurd h e
  | _=>rfl
section
variable {P:Program} {w:World} {K:PySem.W.Frag} {mg:Str→Option Value} {base:Heap} {f:Addr} {fd:FuncData}
theorem C0 (F:Fun K "is_prefix" "is_prefix" bI f fd) (M:Mg mg) (jL:Cal P w K mg base CX0 "is_whole" 1 ["thing"] (xU K)):FnOk P w K mg base CX0 2 f fd ["thing"] (ym K):=by
 refine F.ok rW (fun vs H Q E h=>?_) (fun cdv A outer s H vs Q E hr h=>?_)
 ·obtain⟨v,b,rfl,_⟩:=h
  rfl
 obtain⟨v,b,rfl,N,q⟩:=h
 refine⟨_,(@fz _ _ _ _ _ (@pG _ _ _ _ _ _ _ _ (@PW.pt _ _ _ (@wR _ _ _ _ _ _ _ (@tw _ _ _ _ (@qY _ _ _ (@ki _ _ _ _ _ _ _ _ _ uF i9 M.m_isinstance qU (@cg _ _ _ _ _ (@eF _ 0 _ _ rfl gn az aA) (@cg _ _ _ _ _ (@uT _ _ (.ty "tuple") _ _ mf M.m_tuple wL rfl dh dg) (@eY _) (cT rfl)) (cT rfl)) aE aD (cT rfl) (iT rfl gj)) (rS rfl))) (@wC _ _ _ _ (@mL _ _ _ _ _ _ _ _ (@Ac _) (@ki _ _ _ _ _ _ _ _ _ m9 nA M.m_len qZ (@cg _ _ _ _ _ (@eF _ 0 _ _ rfl gn az aA) (@eY _) (cT rfl)) aq ao (cT rfl) gj) (@ff _ _ _ _) (nj _))))) (@fS _ _ _ (@jm _ _ _ _ (@sf _ _ _ _))) (@mO _)) (@fS _ _ _ (@jm _ _ _ _ (@ki _ _ _ _ _ _ _ _ _ (wg rfl) nB M.m_all zu (@cg _ _ _ _ _ (@rZ _ _ _ _ _ _ _ _ _ _ _ _ _ _ _ rfl (CompOk.make (N':=["part"]) (ix:=[]) (nl:=1) (by rfl) fm0 (by rfl) (by decide +kernel) rfl (by decide +kernel) rfl True.intro) (@Gi _ _ _ _ (@eF _ 0 _ _ rfl gn az aA)) (fun _ _ _ _ _=>(@pF _ _ 0 _ (show List.Nodup (["part"]:List Str) from by decide) rfl (Or.inl rfl) (by first | exact .inl rfl | exact .inr rfl | assumption))) (fun _ _ _ _ _=>(@uU _)) (fun _ _ _ _ _=>(@vH _ _ _ _ _ _ _ (@gY _ _ _ _ _ _ _ _ _ _ _ jL hr rfl (@cg _ _ _ _ _ (@pv _ 0 _ _ (by rfl) (by decreasing_trivial) (by decide) (by decide)) (@eY _) (cT rfl)) (by decide) tG (cT rfl) gj) (@vz _ _ _ _ _ (@CL _ _ _ _ _ _ _ _ _ _ _ _ xB xB (@ff _ _ _ _) (@pv _ 0 _ _ (by rfl) (by decreasing_trivial) (by decide) (by decide)) (@ff _ _ _ _) (by with_unfolding_all rfl))))) (by intro _; rfl)) (@eY _) (cT rfl)) ir iq (cT rfl) gj)))),?_⟩
 cases N with
 | no kd hk =>
  trivial
  refine⟨_,kd,?_⟩
  rw[if_pos (Fb hk)]
  exact q _ (Same.refl _)
 | @tup p xs T kn =>
  trivial
  refine⟨_,Kd.tup T,?_⟩
  rw[if_neg (by decide)]
  refine⟨_,.inr T,?_⟩
  by_cases h4:4<(xs.length:Int)
  ·rw[if_pos h4]
   have e:prefB xs=false:=by
    unfold prefB
    rw[decide_eq_false (by omega)]
    rfl
   rw[← e]
   exact q _ (Same.refl _)
  rw[if_neg h4]
  refine⟨⟨_,T⟩,fun D hD=>?_⟩
  obtain⟨Pc,hC⟩:∃ Pc:Nat→St→Hp→Prop,Pc=fun i τ H'=>∃ z,H' D=some (.lst (((xs.map itB).take i).map V.bl))∧Same H H'∧τ=[z]:=⟨_,rfl⟩
  refine yX xs Pc ?_ (fun i τ H' _ h=>by rw[hC] at h; obtain⟨z,_,e,_⟩:=h; exact Same.tup e T) ?_ ?_
  ·rw[hC]
   exact⟨_,fj,gI hD _,rfl⟩
  ·intro i x τ H' R hx h next
   rw[hC] at h
   obtain⟨z,d1,d2,rfl⟩:=h
   have li:i<xs.length:=(List.getElem?_eq_some_iff.mp hx).1
   have key:∃ ys,H' D=some (.lst ys)∧ys.length<sizeLine∧R [some x] (upd H' D (.lst (ys++[.bl (itB x)]))):=by
    refine⟨_,d1,?_,next _ _ ?_⟩
    ·rw[List.length_map,List.length_take,List.length_map]
     exact Nat.lt_of_lt_of_le (m:=64) (by omega) (by decide)
    ·rw[hC]
     refine⟨_,?_,fun b o hb=>by rw[gS (kB hb hD)]; exact d2 _ _ hb,rfl⟩
     rw[fj,List.take_add_one,List.getElem?_map,hx,List.map_append]
     rfl
   obtain⟨k,kd⟩:=(kn x (List.mem_of_getElem? hx)).same d2
   rcases Hz kd with ⟨rfl,j,rfl⟩ | ⟨e1,e2⟩
   ·trivial
    refine zh kd ⟨_,rfl,?_⟩
    rw[if_pos (by decide)]
    have ei:itB (.int j)=(decide (1≤j) && decide (j≤99)):=by
     show decide (1≤j∧j≤99)=_
     by_cases a:1≤j <;> by_cases b:j≤99 <;> simp [a,b]
    rw[ei] at key
    by_cases h1:1≤j
    ·rw[decide_eq_true h1,Bool.true_and] at key
     rw[if_pos h1]
     exact key
    ·rw[decide_eq_false h1,Bool.false_and] at key
     rw[if_neg h1]
     exact key
   ·trivial
    refine zh kd ⟨_,rfl,?_⟩
    rw[e1,if_neg (by decide)]
    rw[e2] at key
    exact key
  ·intro τ H' h
   rw[hC] at h
   obtain⟨z,d1,d2,rfl⟩:=h
   rw[List.take_of_length_le (by rw[List.length_map]; exact Nat.le_refl _)] at d1
   refine⟨_,rfl,_,SqL.of d1,?_⟩
   have e:prefB xs=(xs.map itB).all id:=by
    unfold prefB
    rw[decide_eq_true (by omega),Bool.true_and,List.all_map]
    rfl
   rw[← e]
   exact q _ d2
theorem Cd (F:Fun K "is_number" "is_number" ci f fd) (M:Mg mg) (jb:Cal P w K mg base CX0 "is_prefix" 2 ["thing"] (ym K)):FnOk P w K mg base CX0 3 f fd ["thing"] (yz K):=by
 refine F.ok rX (fun vs H Q E h=>?_) (fun cdv A outer s H vs Q E hr h=>?_)
 ·obtain⟨v,b,rfl,_⟩:=h
  rfl
 obtain⟨v,b,rfl,N,q⟩:=h
 refine⟨_,(@fS _ _ _ (@jm _ _ _ _ (@vH _ _ _ _ _ _ _ (@gY _ _ _ _ _ _ _ _ _ _ _ jb hr jn (@cg _ _ _ _ _ (@eF _ 0 _ _ rfl j5 az aA) (@eY _) (cT rfl)) (by decide) rN (cT rfl) gj) (@vz _ _ _ _ _ (@vV _ _ _ _ _ _ _ _ (@IF _) (@ki _ _ _ _ _ _ _ _ _ m9 nC M.m_len qZ (@cg _ _ _ _ _ (@eF _ 0 _ _ rfl j5 az aA) (@eY _) (cT rfl)) aq ao (cT rfl) gj) (@ff _ _ _ _) (nj _)))))),?_⟩
 cases N with
 | no kd hk =>
  trivial
  refine⟨_,_,rfl,.no kd hk,fun H' e=>⟨_,rfl,?_⟩⟩
  exact q _ e
 | @tup p xs T kn =>
  trivial
  refine⟨_,_,rfl,.tup T kn,fun H' e=>⟨_,rfl,?_⟩⟩
  cases hp:prefB xs with
  | false =>
   rw[if_neg (by decide)]
   rw[hp] at q
   exact q _ e
  | true =>
   rw[if_pos rfl]
   refine⟨_,.inr (Same.tup e T),?_⟩
   rw[hp,Bool.true_and] at q
   have:decide (1≤(xs.length:Int))=decide (1≤xs.length):=by
    by_cases h:1≤xs.length
    ·rw[decide_eq_true h,decide_eq_true (by exact Oz56 h)]
    ·rw[decide_eq_false h,decide_eq_false (by omega)]
   rw[this]
   exact q _ e
end
inductive KindV (K:PySem.W.Frag) (H:Hp):V→Bool→Prop
 | no {v:V} {k:Kn}:Kd K H v k→k≠.tup→KindV K H v false
 | len {p:Addr} {xs:List V}:SqT K H p xs→xs.length≠2→KindV K H (.ref p) false
 | two {p:Addr} {x y:V} {b c:Bool}:SqT K H p [x,y]→NameV K H x b→NameV K H y c→KindV K H (.ref p) (b && c)
theorem NameV.same {K:PySem.W.Frag} {H H':Hp} {v:V} {b:Bool} (h:NameV K H v b) (e:Same H H'):NameV K H' v b:=by
 cases h with
 | no a c=>exact .no (AN e a) c
 | txt a c=>exact .txt a c
theorem KindV.same {K:PySem.W.Frag} {H H':Hp} {v:V} {b:Bool} (h:KindV K H v b) (e:Same H H'):KindV K H' v b:=by
 cases h with
 | no a c=>exact .no (AN e a) c
 | len a c=>exact .len (Same.tup e a) c
 | two a c d=>exact .two (Same.tup e a) (c.same e) (d.same e)
def xO (K:PySem.W.Frag):Sp:=fun vs H Q _=>∃ v b,vs=[v]∧KindV K H v b∧∀ H',Same H H'→Q (.bl b) H'
theorem Dg {k:Kn} (h:k≠.tup):qq k .tup=false:=by
 cases k <;> first | rfl | exact absurd rfl h
section
variable {P:Program} {w:World} {K:PySem.W.Frag} {mg:Str→Option Value} {base:Heap} {f:Addr} {fd:FuncData}
theorem EF (F:Fun K "is_kind" "is_kind" cx f fd) (M:Mg mg) (dU:Cal P w K mg base CX0 "is_name" 1 ["thing"] (yx K)):FnOk P w K mg base CX0 2 f fd ["thing"] (xO K):=by
 refine F.ok ur (fun vs H Q E h=>?_) (fun cdv A outer s H vs Q E hr h=>?_)
 ·obtain⟨v,b,rfl,_⟩:=h
  rfl
 obtain⟨v,b,rfl,N,q⟩:=h
 refine⟨_,(@fz _ _ _ _ _ (@pG _ _ _ _ _ _ _ _ (@PW.pt _ _ _ (@wR _ _ _ _ _ _ _ (@tw _ _ _ _ (@qY _ _ _ (@ki _ _ _ _ _ _ _ _ _ uF jJ M.m_isinstance qU (@cg _ _ _ _ _ (@eF _ 0 _ _ rfl fP az aA) (@cg _ _ _ _ _ (@uT _ _ (.ty "tuple") _ _ nD M.m_tuple wL rfl dh dg) (@eY _) (cT rfl)) (cT rfl)) aE aD (cT rfl) (iT rfl gj)) (rS rfl))) (@wC _ _ _ _ (@mL _ _ _ _ _ _ _ _ (@zx _) (@ki _ _ _ _ _ _ _ _ _ m9 qc M.m_len qZ (@cg _ _ _ _ _ (@eF _ 0 _ _ rfl fP az aA) (@eY _) (cT rfl)) aq ao (cT rfl) gj) (@ff _ _ _ _) (nj _))))) (@fS _ _ _ (@jm _ _ _ _ (@sf _ _ _ _))) (@mO _)) (@fS _ _ _ (@jm _ _ _ _ (@vH _ _ _ _ _ _ _ (@gY _ _ _ _ _ _ _ _ _ _ _ dU hr gP (@cg _ _ _ _ _ (@kZ _ _ _ _ _ _ _ (@ix_tup _) (@eF _ 0 _ _ rfl fP az aA) (@ff _ _ _ _) (fun _ _=>rfl)) (@eY _) (cT rfl)) (by decide) hJ (cT rfl) gj) (@vz _ _ _ _ _ (@gY _ _ _ _ _ _ _ _ _ _ _ dU hr gP (@cg _ _ _ _ _ (@kZ _ _ _ _ _ _ _ (@ix_tup _) (@eF _ 0 _ _ rfl fP az aA) (@ff _ _ _ _) (fun _ _=>rfl)) (@eY _) (cT rfl)) (by decide) hJ (cT rfl) gj)))))),?_⟩
 trivial
 cases N with
 | no kd hk =>
  refine⟨_,kd,?_⟩
  rw[if_pos (Dg hk)]
  exact q _ (Same.refl _)
 | len T hl =>
  refine⟨_,Kd.tup T,?_⟩
  rw[if_neg (by decide)]
  refine⟨_,rfl,_,.inr T,?_⟩
  rw[if_neg (by omega)]
  exact q _ (Same.refl _)
 | @two p x y b c T n1 n2 =>
  refine⟨_,Kd.tup T,?_⟩
  rw[if_neg (by decide)]
  refine⟨_,rfl,_,.inr T,?_⟩
  rw[if_pos (show (([x,y].length:Nat):Int)=2 from rfl)]
  refine⟨_,rfl,_,T,_,rfl,_,_,rfl,n1,fun H1 e1=>⟨_,rfl,?_⟩⟩
  cases b with
  | true =>
   rw[if_pos rfl]
   exact⟨_,rfl,_,Same.tup e1 T,_,rfl,_,_,rfl,n2.same e1,fun H2 e2=>q _ (e1.trans e2)⟩
  | false =>
   rw[if_neg (by decide)]
   exact q _ e1
end
noncomputable abbrev lettersS:Str:="abcdefghijklmnopqrstuvwxyz"
theorem An:∀ r:Nat,r<26→lettersS.cps.toList[r]?=some (97+r):=by decide +kernel
noncomputable def primes:List Int:=[10007,10009,10037,10039,10061,10067,10069,10079]
noncomputable def uY (c:Int):List Int:=(List.range 8).map fun j:Nat=>c * (48271+7919 * (0+(j:Int))) % primes.getD j 0 % 26
noncomputable def vg (m:Int) (k:Nat):Nat:=if m / 8 % 3=1 then (1+(m+(0+(k:Int))) % 8).toNat else (1+m % 8).toNat
noncomputable def signs (c m:Int) (k:Nat):List Int:=if m / 8 % 3=1 then uY c else (uY c).set (m / 24 % (1+m % 8)).toNat (((uY c).getD (m / 24 % (1+m % 8)).toNat 0+(0+(k:Int))) % 26)
noncomputable def nameOf (c m:Int) (k:Nat):List Nat:=((signs c m k).take (vg m k)).map fun i=>97+i.toNat
theorem xS (c:Int):(uY c).length=8:=by unfold uY; rw[List.length_map,List.length_range]
theorem C7 (c:Int):∀ i∈uY c,0≤i∧i<26:=fun i hi=>by
 obtain⟨j,_,rfl⟩:=List.mem_map.mp hi
 exact⟨Int.emod_nonneg _ (by decide),Int.emod_lt_of_pos _ (by decide)⟩
theorem zb (c m:Int) (k:Nat):(signs c m k).length=8:=by
 unfold signs
 split
 ·exact xS c
 ·rw[List.length_set,xS]
theorem z5 (c m:Int) (k:Nat):∀ i∈signs c m k,0≤i∧i<26:=fun i hi=>by
 unfold signs at hi
 split at hi
 ·exact C7 c i hi
 ·rcases List.mem_or_eq_of_mem_set hi with hi | rfl
  ·exact C7 c i hi
  ·exact⟨Int.emod_nonneg _ (by decide),Int.emod_lt_of_pos _ (by decide)⟩
theorem yJ (m:Int) (k:Nat):1≤vg m k∧vg m k≤8:=by
 have a:=Int.emod_nonneg (m+(0+(k:Int))) (show (8:Int)≠0 by decide)
 have b:=Int.emod_lt_of_pos (m+(0+(k:Int))) (show (0:Int)<8 by decide)
 have a':=Int.emod_nonneg m (show (8:Int)≠0 by decide)
 have b':=Int.emod_lt_of_pos m (show (0:Int)<8 by decide)
 unfold vg
 split <;> omega
theorem uS (c m:Int) (k:Nat):(nameOf c m k).length=vg m k:=by
 have:=yJ m k
 unfold nameOf
 rw[List.length_map,List.length_take,zb]
 omega
theorem Dh (c m:Int) (k:Nat):nameB (nameOf c m k)=true:=by
 have:=yJ m k
 unfold nameB
 rw[uS,decide_eq_true this,Bool.true_and,List.all_eq_true]
 intro x hx
 unfold nameOf at hx
 obtain⟨i,hi,rfl⟩:=List.mem_map.mp hx
 have:=z5 c m k i (List.mem_of_mem_take hi)
 unfold yy
 rw[decide_eq_true (by omega),decide_eq_true (by omega)]
 rfl
theorem Ci {c m:Int} {i j:Nat} (hi:i<4) (hj:j<4) (h:nameOf c m i=nameOf c m j):i=j:=by
 have hl:=congrArg List.length h
 rw[uS,uS] at hl
 have a':=Int.emod_nonneg m (show (8:Int)≠0 by decide)
 have b':=Int.emod_lt_of_pos m (show (0:Int)<8 by decide)
 by_cases hA:m / 8 % 3=1
 ·unfold vg at hl
  rw[if_pos hA,if_pos hA] at hl
  omega
 ·have p0:=Int.emod_nonneg (m / 24) (show (1+m % 8:Int)≠0 by exact Oz54)
  have p1:=Int.emod_lt_of_pos (m / 24) (show (0:Int)<1+m % 8 by exact Oz9)
  have sz:∀ k,vg m k=(1+m % 8).toNat:=fun k=>by unfold vg; rw[if_neg hA]
  have bl:=xS c
  obtain⟨p,hp⟩:∃ p:Nat,m / 24 % (1+m % 8)=(p:Int):=⟨_,(Int.toNat_of_nonneg p0).symm⟩
  rw[hp] at p1
  have pick:∀ k,(nameOf c m k)[p]?=some (97+(((uY c).getD p 0+(0+(k:Int))) % 26).toNat):=fun k=>by
   unfold nameOf signs
   rw[if_neg hA,sz,hp,Int.toNat_natCast,List.getElem?_map,List.getElem?_take,if_pos (by omega),List.getElem?_set_self (by omega)]
   rfl
  have e:=pick i
  rw[h,pick j,Option.some.injEq] at e
  have r1:=Int.emod_nonneg ((uY c).getD p 0+(0+(i:Int))) (show (26:Int)≠0 by decide)
  have r2:=Int.emod_nonneg ((uY c).getD p 0+(0+(j:Int))) (show (26:Int)≠0 by decide)
  omega
structure Four (ns:List (List Nat)):Prop where
 len:ns.length=4
 name:∀ cs∈ns,nameB cs=true
 apart:∀ i j,i<4→j<4→ns.getD i []=ns.getD j []→i=j
def Aw (K:PySem.W.Frag):Sp:=fun vs H Q _=>∃ c m:Int,vs=[.int c,.int m]∧∀ (l:Addr) (ns:List (List Nat)) (H':Hp),Same H H'→H l=none→H' l=some (.lst (ns.map fun cs=>V.str (txt cs)))→Four ns→Q (.ref l) H'
section
variable {P:Program} {w:World} {K:PySem.W.Frag} {mg:Str→Option Value} {base:Heap} {f:Addr} {fd:FuncData}
theorem Co (F:Fun K "_law_names" "_law_names" aI f fd) (M:Mg mg):FnOk P w K mg base CX0 1 f fd ["_law_cell","_law_more"] (Aw K):=by
 refine F.ok cz (fun vs H Q E h=>?_) (fun cdv A outer s H vs Q E hr h=>?_)
 ·obtain⟨c,m,rfl,_⟩:=h
  rfl
 obtain⟨c,m,rfl,q⟩:=h
 refine⟨_,(@fz _ _ _ _ _ (@ni _ _ 2 _ _ _ _ cz.nd rfl qd (@nS _ _ _ _) (mj rfl) (.inl rfl)) (@fz _ _ _ _ _ (@ni _ _ 3 _ _ _ _ cz.nd rfl qe (@vY _ _ _ _ (@cg _ _ _ _ _ (@ff _ _ _ _) (@cg _ _ _ _ _ (@ff _ _ _ _) (@cg _ _ _ _ _ (@ff _ _ _ _) (@cg _ _ _ _ _ (@ff _ _ _ _) (@cg _ _ _ _ _ (@ff _ _ _ _) (@cg _ _ _ _ _ (@ff _ _ _ _) (@cg _ _ _ _ _ (@ff _ _ _ _) (@cg _ _ _ _ _ (@ff _ _ _ _) (@eY _) (cT rfl)) (cT rfl)) (cT rfl)) (cT rfl)) (cT rfl)) (cT rfl)) (cT rfl)) (cT rfl))) (mj rfl) (.inl rfl)) (@fz _ _ _ _ _ (@ni _ _ 4 _ _ _ _ cz.nd rfl qg (@vY _ _ _ _ (@eY _)) (mj rfl) (.inl rfl)) (@fz _ _ _ _ _ (@vZ _ _ _ _ _ _ _ _ PassesOwn.never rfl (@vP _ _ _ _ _ _ gQ M.m_range (@cg _ _ _ _ _ (@ff _ _ _ _) (@eY _) (cT rfl)) (star1' rfl)) (@pF _ _ 5 _ cz.nd rfl qh (.inl rfl)) (@fz _ _ _ _ _ (@yH _ _ _ _ _ _ _ _ _ _ _ _ _ _ _ 6 _ _ _ cz.nd rfl qi rfl (CompOk.make (N':=["_law_cell","_law_primes","_law_j"]) (ix:=[0,3]) (nl:=1) (by rfl) (fm1 rfl (fm1 rfl fm0)) (by rfl) (by decide +kernel) rfl (by decide +kernel) rfl (And.intro ⟨rfl,.inl rfl,.inl rfl⟩ (And.intro ⟨rfl,.inl rfl,.inl rfl⟩ True.intro))) (@vP _ _ _ _ _ _ gQ M.m_range (@cg _ _ _ _ _ (@ff _ _ _ _) (@eY _) (cT rfl)) (star1' rfl)) (fun _ _ _ _ _=>(@pF _ _ 2 _ (show List.Nodup (["_law_cell","_law_primes","_law_j"]:List Str) from by decide) rfl (Or.inl rfl) (by first | exact .inl rfl | exact .inr rfl | assumption))) (fun _ _ _ _ _=>(@uU _)) (fun _ _ _ _ _=>(@kT _ _ _ _ _ _ _ _ (@p5 _) (@kT _ _ _ _ _ _ _ _ (@p5 _) (@kT _ _ _ _ _ _ _ _ (@Gx _) (@pv _ 0 _ _ (by rfl) (by decreasing_trivial) (by decide) (by decide)) (@kT _ _ _ _ _ _ _ _ (@vv _) (@ff _ _ _ _) (@kT _ _ _ _ _ _ _ _ (@yf _) (@ff _ _ _ _) (@pv _ 2 _ _ (by rfl) (by decreasing_trivial) (by decide) (by decide))))) (@kZ _ _ _ _ _ _ _ (@HZ _ K rfl) (@pv _ 1 _ _ (by rfl) (by decreasing_trivial) (by decide) (by decide)) (@pv _ 2 _ _ (by rfl) (by decreasing_trivial) (by decide) (by decide)) (fun _ _=>rfl))) (@ff _ _ _ _))) (by rfl) (by intro _; rfl) (by first | exact .inl rfl | exact .inr rfl | assumption)) (@fz _ _ _ _ _ (@ni _ _ 7 _ _ _ _ cz.nd rfl j8 (@kT _ _ _ _ _ _ _ _ (@vv _) (@ff _ _ _ _) (@kT _ _ _ _ _ _ _ _ (@p5 _) (@eF _ 1 _ _ rfl dM bp bq) (@ff _ _ _ _))) (mj rfl) (.inl rfl)) (@fz _ _ _ _ _ (@pG _ _ _ _ _ _ _ _ (@mL _ _ _ _ _ _ _ _ (@qb _) (@kT _ _ _ _ _ _ _ _ (@p5 _) (@kT _ _ _ _ _ _ _ _ (@rC _) (@eF _ 1 _ _ rfl dM bp bq) (@ff _ _ _ _)) (@ff _ _ _ _)) (@ff _ _ _ _) (nj _)) (@fS _ _ _ (@ni _ _ 7 _ _ _ _ cz.nd rfl j8 (@kT _ _ _ _ _ _ _ _ (@vv _) (@ff _ _ _ _) (@kT _ _ _ _ _ _ _ _ (@p5 _) (@kT _ _ _ _ _ _ _ _ (@vv _) (@eF _ 1 _ _ rfl dM bp bq) (@eF _ 5 _ _ rfl j7 cJ cK)) (@ff _ _ _ _))) (mj rfl) (.inl rfl))) (@fS _ _ _ (@G2 _ _ _ _ _ _ (@kT _ _ _ _ _ _ _ _ (@p5 _) (@kT _ _ _ _ _ _ _ _ (@vv _) (@kZ _ _ _ _ _ _ _ (@ix_list _) (@eF _ 6 _ _ rfl gp gk gm) (@kT _ _ _ _ _ _ _ _ (@p5 _) (@kT _ _ _ _ _ _ _ _ (@rC _) (@eF _ 1 _ _ rfl dM bp bq) (@ff _ _ _ _)) (@eF _ 7 _ _ rfl gq iu iw)) (fun _ _=>rfl)) (@eF _ 5 _ _ rfl j7 cJ cK)) (@ff _ _ _ _)) (@Ku _ _ _ _ _ _ _ (@eF _ 6 _ _ rfl gp gk gm) (@kT _ _ _ _ _ _ _ _ (@p5 _) (@kT _ _ _ _ _ _ _ _ (@rC _) (@eF _ 1 _ _ rfl dM bp bq) (@ff _ _ _ _)) (@eF _ 7 _ _ rfl gq iu iw)) set_list (by intro _; rfl)) (by rfl) (by rfl) (by rfl)))) (@fS _ _ _ (@wH _ _ _ _ (@wD _ _ _ _ _ _ _ _ _ _ _ _ PySem.F.plainAttrs_list PySem.F.slot_list_append PySem.F.type_list_append we (@eF _ 4 _ _ rfl j6 br bu) (@cg _ _ _ _ _ (@wD _ _ _ _ _ _ _ _ _ _ _ _ PySem.F.plainAttrs_str PySem.F.slot_str_join PySem.F.type_str_join Jg (@nS _ _ _ _) (@cg _ _ _ _ _ (@rZ _ _ _ _ _ _ _ _ _ _ _ _ _ _ _ rfl (CompOk.make (N':=["_law_letters","_law_sign"]) (ix:=[2]) (nl:=1) (by rfl) (fm1 rfl fm0) (by rfl) (by decide +kernel) rfl (by decide +kernel) rfl (And.intro ⟨rfl,.inl rfl,.inl rfl⟩ True.intro)) (@uo _ _ _ _ (@wM _ _ _ _ _ _ _ _ _ _ (@AO _) (@eF _ 6 _ _ rfl gp gk gm) (@xH _) (@xC _ _ _ (@eF _ 7 _ _ rfl gq iu iw)))) (fun _ _ _ _ _=>(@pF _ _ 1 _ (show List.Nodup (["_law_letters","_law_sign"]:List Str) from by decide) rfl (Or.inl rfl) (by first | exact .inl rfl | exact .inr rfl | assumption))) (fun _ _ _ _ _=>(@uU _)) (fun _ _ _ _ _=>(@kZ _ _ _ _ _ _ _ Gr (@pv _ 0 _ _ (by rfl) (by decreasing_trivial) (by decide) (by decide)) (@pv _ 1 _ _ (by rfl) (by decreasing_trivial) (by decide) (by decide)) (fun _ _=>rfl))) (by intro _; rfl)) (@eY _) (cT rfl)) (by rfl) (by rfl) (by rfl) (by rfl) (by rfl)) (@eY _) (cT rfl)) (by rfl) (by rfl) (by rfl) (by rfl) (by rfl)) (mj rfl)))))) (by intro _; rfl)) (@fS _ _ _ (@jm _ _ _ _ (@eF _ 4 _ _ rfl j6 br bu))))))),?_⟩
 trivial
 refine⟨by decide,fun pr hpr=>?_⟩
 obtain⟨H1,g1,S1,L1⟩:∃ H1,H1=upd H pr (.lst [V.int 10007,V.int 10009,V.int 10037,V.int 10039,V.int 10061,V.int 10067,V.int 10069,V.int 10079])∧Same H H1∧SqL K H1 pr (primes.map V.int):=⟨_,rfl,gI hpr _,SqL.of fj⟩
 rw[← g1]
 clear g1
 refine⟨by decide,fun l hl=>⟨by decide,by decide,?_⟩⟩
 have hlH:H l=none:=S1.free hl
 have bl:=xS c
 have a':=Int.emod_nonneg m (show (8:Int)≠0 by decide)
 have b':=Int.emod_lt_of_pos m (show (0:Int)<8 by decide)
 obtain⟨Pv,hP⟩:∃ Pv:Nat→St→Hp→Prop,Pv=fun k σ H'=>∃ x y z,H' l=some (.lst (((List.range k).map (nameOf c m)).map fun cs=>V.str (txt cs)))∧Same H1 H'∧σ=[some (.int c),some (.int m),some (.str lettersS),some (.ref pr),some (.ref l),x,y,z]:=⟨_,rfl⟩
 refine wA Pv ?_ ?_ ?_
 ·rw[hP]
  exact⟨_,_,_,fj,gI hl _,rfl⟩
 ·intro k σ H' hk h
  rw[hP] at h
  obtain⟨x,y,z,dl,e,rfl⟩:=h
  trivial
  refine⟨by decide,by decide,fun D hD=>?_⟩
  obtain⟨Pc,hC⟩:∃ Pc:Nat→St→Hp→Prop,Pc=fun j τ H2=>∃ z,H2 D=some (.lst (((uY c).take j).map V.int))∧Same H' H2∧τ=[some (.int c),some (.ref pr),z]:=⟨_,rfl⟩
  refine zF Pc ?_ ?_ ?_
  ·rw[hC]
   exact⟨_,fj,gI hD _,rfl⟩
  ·intro j τ H2 R' hj h next
   rw[hC] at h
   obtain⟨z,c1,c2,rfl⟩:=h
   have pj:∃ v,primes.getD j 0=v∧0<v:=by
    have:j=0∨j=1∨j=2∨j=3∨j=4∨j=5∨j=6∨j=7:=by exact Oz7 hj
    rcases this with rfl | rfl | rfl | rfl | rfl | rfl | rfl | rfl <;> exact⟨_,rfl,by decide⟩
   obtain⟨v,ev,v0⟩:=pj
   have atp:atI (primes.map V.int) (0+(j:Int))=some (.int v):=by
    have:=zk (ns:=primes) (k:=0+(j:Int)) (by omega) (by show 0+(j:Int)<8; omega)
    rwa [show (0+(j:Int)).toNat=j by omega,ev] at this
   have eb:(uY c)[j]?=some (c * (48271+7919 * (0+(j:Int))) % v % 26):=by
    unfold uY
    rw[List.getElem?_map,List.getElem?_range hj,← ev]
    rfl
   trivial
   refine⟨C6 (by omega) (by omega) (by exact Oz41) (by omega),.inr ⟨by omega,by omega⟩,_,(e.trans c2).seq L1,_,atp,_,rfl,v0,by decide,_,c1,by rw[List.length_map,List.length_take]; exact Nat.lt_of_lt_of_le (m:=64) (by omega) (by decide),next _ _ ?_⟩
   rw[hC]
   refine⟨_,?_,pI c2 hD _,rfl⟩
   rw[fj,List.take_add_one,eb,List.map_append]
   rfl
  intro τ H2 h
  rw[hC] at h
  obtain⟨z',dD,S2,rfl⟩:=h
  rw[List.take_of_length_le (by omega)] at dD
  have DL:l≠D:=kB dl hD
  replace dl:=S2 _ _ dl
  trivial
  refine⟨by decide,cdiv (by decide) (by decide),by decide,?_⟩
  by_cases hA:m / 8 % 3=1
  ·rw[if_pos hA]
   refine⟨by decide,?_⟩
   have es:signs c m k=uY c:=by unfold signs; rw[if_pos hA]
   have q0:=Int.emod_nonneg (m+(0+(k:Int))) (show (8:Int)≠0 by decide)
   have esz:(1+(m+(0+(k:Int))) % 8)=((vg m k:Nat):Int):=by
    unfold vg
    rw[if_pos hA]
    omega
   rw[← es] at dD
   have EX:=e.trans S2
   refine⟨.inl ⟨rfl,_,SqL.of dl⟩,rfl,_,SqL.of dD,fun s1 hs1=>?_⟩
   rw[esz,Al]
   have sin:=yJ m k
   have sle:=zb c m k
   obtain⟨H4,g4,S4,L4⟩:∃ H4,H4=upd H2 s1 (.lst (((signs c m k).map V.int).take (vg m k)))∧Same H2 H4∧H4 s1=some (.lst (((signs c m k).take (vg m k)).map V.int)):=⟨_,rfl,gI hs1 _,by rw[fj,List.map_take]⟩
   rw[← g4]
   clear g4
   refine⟨⟨_,SqL.of L4⟩,fun D2 hD2=>?_⟩
   obtain⟨Pd,hQ⟩:∃ Pd:Nat→St→Hp→Prop,Pd=fun j τ H5=>∃ z,H5 D2=some (.lst (((nameOf c m k).take j).map sgn))∧Same H4 H5∧τ=[some (.str lettersS),z]:=⟨_,rfl⟩
   refine se (((signs c m k).take (vg m k)).map V.int) Pd ?_ (fun j τ H5 _ h=>by rw[hQ] at h; obtain⟨z,_,e,_⟩:=h; exact SqL.of (e _ _ L4)) ?_ ?_
   ·rw[hQ]
    exact⟨_,fj,gI hD2 _,rfl⟩
   ·intro j v τ H5 R' hv h next
    rw[hQ] at h
    obtain⟨z,c1,c2,rfl⟩:=h
    rw[List.getElem?_map] at hv
    obtain⟨o,ho,rfl⟩:=Option.map_eq_some_iff.mp hv
    have oi:=z5 c m k o (List.mem_of_mem_take (List.mem_of_getElem? ho))
    have lj:=(List.getElem?_eq_some_iff.mp ho).1
    rw[List.length_take] at lj
    obtain⟨r,hr'⟩:∃ r:Nat,o=(r:Int):=⟨o.toNat,by exact Oz43 oi⟩
    subst hr'
    have en:(nameOf c m k)[j]?=some (97+r):=by
     unfold nameOf
     rw[List.getElem?_map,ho]
     rfl
    trivial
    refine⟨by decide,97+r,um (An r (by exact Oz77 oi)),_,c1,by rw[List.length_map,List.length_take,uS]; exact Nat.lt_of_lt_of_le (m:=64) (by omega) (by decide),next _ _ ?_⟩
    rw[hQ]
    refine⟨_,?_,pI c2 hD2 _,rfl⟩
    rw[fj,List.take_add_one,en,List.map_append]
    rfl
   ·intro τ H5 h
    rw[hQ] at h
    obtain⟨z,c1,c2,rfl⟩:=h
    rw[List.length_map,List.length_take,sle,List.take_of_length_le (by rw[uS]; omega)] at c1
    have dl5:=(S4.trans c2) _ _ dl
    refine⟨_,rfl,_,SqL.of c1,by rw[uS]; omega,_,dl5,by rw[List.length_map,List.length_map,List.length_range]; exact Nat.lt_of_lt_of_le (m:=64) (by exact Oz83 hk) (by decide),?_⟩
    rw[hP]
    refine⟨_,_,_,?_,pI (EX.trans (S4.trans c2)) hl _,rfl⟩
    rw[fj,List.range_succ,List.map_append,List.map_append]
    rfl
  ·rw[if_neg hA]
   have p0:=Int.emod_nonneg (m / 24) (show (1+m % 8:Int)≠0 by exact Oz54)
   have p1:=Int.emod_lt_of_pos (m / 24) (show (0:Int)<1+m % 8 by exact Oz9)
   obtain⟨p,hp⟩:∃ p:Nat,m / 24 % (1+m % 8)=(p:Int):=⟨_,(Int.toNat_of_nonneg p0).symm⟩
   have p1':=p1
   rw[hp] at p1'
   have atp:atI ((uY c).map V.int) (m / 24 % (1+m % 8))=some (.int ((uY c).getD p 0)):=by
    rw[hp]
    have:=zk (ns:=uY c) (k:=(p:Int)) (by exact Oz30) (by omega)
    rwa [Int.toNat_natCast] at this
   refine⟨cdiv (by decide) (by decide),by exact Oz9,_,SqL.of dD,_,atp,_,rfl,by decide,cdiv (by decide) (by decide),by exact Oz9,_,dD,p,by rw[hp,List.length_map]; exact Ja (by omega),?_⟩
   have es:signs c m k=(uY c).set p (((uY c).getD p 0+(0+(k:Int))) % 26):=by
    unfold signs
    rw[if_neg hA,hp,Int.toNat_natCast]
   rw[← List.map_set,← es]
   have esz:(1+m % 8)=((vg m k:Nat):Int):=by
    unfold vg
    rw[if_neg hA]
    omega
   have HDn:H1 D=none:=e.free hD
   obtain⟨H3,g3,S3,dD3⟩:∃ H3,H3=upd H2 D (.lst ((signs c m k).map V.int))∧Same H1 H3∧H3 D=some (.lst ((signs c m k).map V.int)):=⟨_,rfl,pI (e.trans S2) HDn _,fj⟩
   have dl3:H3 l=some (.lst (((List.range k).map (nameOf c m)).map fun cs=>V.str (txt cs))):=by rw[g3,gS DL]; exact dl
   rw[← g3]
   clear g3 dD dl
   have dD:=dD3
   have dl:=dl3
   have EX:=S3
   refine⟨.inl ⟨rfl,_,SqL.of dl⟩,rfl,_,SqL.of dD,fun s1 hs1=>?_⟩
   rw[esz,Al]
   have sin:=yJ m k
   have sle:=zb c m k
   obtain⟨H4,g4,S4,L4⟩:∃ H4,H4=upd H3 s1 (.lst (((signs c m k).map V.int).take (vg m k)))∧Same H3 H4∧H4 s1=some (.lst (((signs c m k).take (vg m k)).map V.int)):=⟨_,rfl,gI hs1 _,by rw[fj,List.map_take]⟩
   rw[← g4]
   clear g4
   refine⟨⟨_,SqL.of L4⟩,fun D2 hD2=>?_⟩
   obtain⟨Pd,hQ⟩:∃ Pd:Nat→St→Hp→Prop,Pd=fun j τ H5=>∃ z,H5 D2=some (.lst (((nameOf c m k).take j).map sgn))∧Same H4 H5∧τ=[some (.str lettersS),z]:=⟨_,rfl⟩
   refine se (((signs c m k).take (vg m k)).map V.int) Pd ?_ (fun j τ H5 _ h=>by rw[hQ] at h; obtain⟨z,_,e,_⟩:=h; exact SqL.of (e _ _ L4)) ?_ ?_
   ·rw[hQ]
    exact⟨_,fj,gI hD2 _,rfl⟩
   ·intro j v τ H5 R' hv h next
    rw[hQ] at h
    obtain⟨z,c1,c2,rfl⟩:=h
    rw[List.getElem?_map] at hv
    obtain⟨o,ho,rfl⟩:=Option.map_eq_some_iff.mp hv
    have oi:=z5 c m k o (List.mem_of_mem_take (List.mem_of_getElem? ho))
    have lj:=(List.getElem?_eq_some_iff.mp ho).1
    rw[List.length_take] at lj
    obtain⟨r,hr'⟩:∃ r:Nat,o=(r:Int):=⟨o.toNat,by exact Oz43 oi⟩
    subst hr'
    have en:(nameOf c m k)[j]?=some (97+r):=by
     unfold nameOf
     rw[List.getElem?_map,ho]
     rfl
    trivial
    refine⟨by decide,97+r,um (An r (by exact Oz77 oi)),_,c1,by rw[List.length_map,List.length_take,uS]; exact Nat.lt_of_lt_of_le (m:=64) (by omega) (by decide),next _ _ ?_⟩
    rw[hQ]
    refine⟨_,?_,pI c2 hD2 _,rfl⟩
    rw[fj,List.take_add_one,en,List.map_append]
    rfl
   ·intro τ H5 h
    rw[hQ] at h
    obtain⟨z,c1,c2,rfl⟩:=h
    rw[List.length_map,List.length_take,sle,List.take_of_length_le (by rw[uS]; omega)] at c1
    have dl5:=(S4.trans c2) _ _ dl
    refine⟨_,rfl,_,SqL.of c1,by rw[uS]; omega,_,dl5,by rw[List.length_map,List.length_map,List.length_range]; exact Nat.lt_of_lt_of_le (m:=64) (by exact Oz83 hk) (by decide),?_⟩
    rw[hP]
    refine⟨_,_,_,?_,pI (EX.trans (S4.trans c2)) hl _,rfl⟩
    rw[fj,List.range_succ,List.map_append,List.map_append]
    rfl
 ·intro σ H' h
  rw[hP] at h
  obtain⟨x,y,z,dl,e,rfl⟩:=h
  trivial
  refine q _ _ _ (S1.trans e) hlH dl ⟨by rw[List.length_map,List.length_range],fun cs hcs=>?_,fun i j hi hj h=>?_⟩
  ·obtain⟨k,_,rfl⟩:=List.mem_map.mp hcs
   exact Dh c m k
  ·have gi:∀ n:Nat,n<4→((List.range 4).map (nameOf c m)).getD n []=nameOf c m n:=fun n hn=>by
    rw[List.getD,List.getElem?_map,List.getElem?_range hn]
    rfl
   rw[gi i hi,gi j hj] at h
   exact Ci hi hj h
end
inductive TpD (H:Hp):List V→List (List V)→Prop
 | nil:TpD H [] []
 | cons {p:Addr} {r:List V} {xs:List V} {rs:List (List V)}:H p=some (.tup r)→TpD H xs rs→TpD H (.ref p::xs) (r::rs)
theorem TpD.same {H H':Hp} {xs:List V} {rs:List (List V)} (h:TpD H xs rs) (e:Same H H'):TpD H' xs rs:=by
 induction h with
 | nil=>exact .nil
 | cons a _ ih=>exact .cons (e _ _ a) ih
theorem TpD.upd {H:Hp} {l:Addr} {ys zs:List V} {xs:List V} {rs:List (List V)} (h:TpD H xs rs) (hl:H l=some (.lst ys)):TpD (upd H l (.lst zs)) xs rs:=by
 induction h with
 | nil=>exact .nil
 | @cons p r xs rs a _ ih =>
  refine .cons ?_ ih
  have n:p≠l:=fun e=>by rw[e,hl] at a; cases a
  rw[gS n]
  exact a
theorem TpD.snoc {H:Hp} {xs:List V} {rs:List (List V)} {p:Addr} {r:List V} (h:TpD H xs rs) (e:H p=some (.tup r)):TpD H (xs++[.ref p]) (rs++[r]):=by
 induction h with
 | nil=>exact .cons e .nil
 | cons a _ ih=>exact .cons a ih
theorem TpD.length {H:Hp} {xs:List V} {rs:List (List V)} (h:TpD H xs rs):xs.length=rs.length:=by
 induction h with
 | nil=>rfl
 | cons _ _ ih=>rw[List.length_cons,List.length_cons,ih]
abbrev Kd2:Type:=List Nat×List Nat
noncomputable def kRow (k:Kd2):List V:=[.str (txt k.1),.str (txt k.2)]
structure KsOk (ks:List Kd2):Prop where
 l1:1≤ks.length
 l4:ks.length≤4
 name:∀ k∈ks,nameB k.1=true∧nameB k.2=true
 nd:ks.Nodup
def AJ (K:PySem.W.Frag):Sp:=fun vs H Q _=>∃ (a:Addr) (ns:List Int),vs=[.ref a]∧SqL K H a (ns.map V.int)∧∀ (l:Addr) (xs:List V) (ks:List Kd2) (H':Hp),Same H H'→H l=none→H' l=some (.lst xs)→TpD H' xs (ks.map kRow)→KsOk ks→Q (.ref l) H'
noncomputable def sE (c st:Int) (k:Nat):Nat:=((c / 64+st * (0+(k:Int))) % 16).toNat
theorem xG (c st:Int) (k:Nat):sE c st k<16∧((c / 64+st * (0+(k:Int))) % 16)=((sE c st k:Nat):Int):=by
 have a:=Int.emod_nonneg (c / 64+st * (0+(k:Int))) (show (16:Int)≠0 by decide)
 have b:=Int.emod_lt_of_pos (c / 64+st * (0+(k:Int))) (show (0:Int)<16 by decide)
 unfold sE
 omega
theorem EU {c st:Int} (h:st=1∨st=4∨st=5∨st=7) {i j:Nat} (hi:i<4) (hj:j<4) (e:sE c st i=sE c st j):i=j:=by
 have a:=(xG c st i).2
 have b:=(xG c st j).2
 rw[e] at a
 rcases h with rfl | rfl | rfl | rfl <;> omega
section
variable {P:Program} {w:World} {K:PySem.W.Frag} {mg:Str→Option Value} {base:Heap} {f:Addr} {fd:FuncData}
theorem CU (F:Fun K "_law_kinds" "_law_kinds" ah f fd) (M:Mg mg) (aB:Cal P w K mg base CX0 "_law_cell_at" 1 ["_law_script","_law_k"] (wO K)) (fQ:Cal P w K mg base CX0 "_law_names" 1 ["_law_cell","_law_more"] (Aw K)):FnOk P w K mg base CX0 2 f fd ["_law_script"] (AJ K):=by
 refine F.ok bT (fun vs H Q E h=>?_) (fun cdv A outer s H vs Q E hr h=>?_)
 ·obtain⟨a,ns,rfl,_⟩:=h
  rfl
 obtain⟨a,ns,rfl,hS,q⟩:=h
 refine⟨_,(@fz _ _ _ _ _ (@ni _ _ 1 _ _ _ _ bT.nd rfl qj (@gY _ _ _ _ _ _ _ _ _ _ _ aB hr bB (@cg _ _ _ _ _ (@eF _ 0 _ _ rfl dN av aw) (@cg _ _ _ _ _ (@ff _ _ _ _) (@eY _) (cT rfl)) (cT rfl)) (by decide) aG (cT rfl) (iT rfl gj)) (mj rfl) (.inl rfl)) (@fz _ _ _ _ _ (@ni _ _ 2 _ _ _ _ bT.nd rfl ql (@gY _ _ _ _ _ _ _ _ _ _ _ fQ hr eG (@cg _ _ _ _ _ (@gY _ _ _ _ _ _ _ _ _ _ _ aB hr bB (@cg _ _ _ _ _ (@eF _ 0 _ _ rfl dN av aw) (@cg _ _ _ _ _ (@ff _ _ _ _) (@eY _) (cT rfl)) (cT rfl)) (by decide) aG (cT rfl) (iT rfl gj)) (@cg _ _ _ _ _ (@gY _ _ _ _ _ _ _ _ _ _ _ aB hr bB (@cg _ _ _ _ _ (@eF _ 0 _ _ rfl dN av aw) (@cg _ _ _ _ _ (@ff _ _ _ _) (@eY _) (cT rfl)) (cT rfl)) (by decide) aG (cT rfl) (iT rfl gj)) (@eY _) (cT rfl)) (cT rfl)) (by decide) j4 (cT rfl) (iT rfl gj)) (mj rfl) (.inl rfl)) (@fz _ _ _ _ _ (@ni _ _ 3 _ _ _ _ bT.nd rfl qo (@gY _ _ _ _ _ _ _ _ _ _ _ fQ hr eG (@cg _ _ _ _ _ (@gY _ _ _ _ _ _ _ _ _ _ _ aB hr bB (@cg _ _ _ _ _ (@eF _ 0 _ _ rfl dN av aw) (@cg _ _ _ _ _ (@ff _ _ _ _) (@eY _) (cT rfl)) (cT rfl)) (by decide) aG (cT rfl) (iT rfl gj)) (@cg _ _ _ _ _ (@gY _ _ _ _ _ _ _ _ _ _ _ aB hr bB (@cg _ _ _ _ _ (@eF _ 0 _ _ rfl dN av aw) (@cg _ _ _ _ _ (@ff _ _ _ _) (@eY _) (cT rfl)) (cT rfl)) (by decide) aG (cT rfl) (iT rfl gj)) (@eY _) (cT rfl)) (cT rfl)) (by decide) j4 (cT rfl) (iT rfl gj)) (mj rfl) (.inl rfl)) (@fz _ _ _ _ _ (@ni _ _ 4 _ _ _ _ bT.nd rfl qr (@xD _ _ _ _ _ _ _ (@cg _ _ _ _ _ (@ff _ _ _ _) (@cg _ _ _ _ _ (@ff _ _ _ _) (@cg _ _ _ _ _ (@ff _ _ _ _) (@cg _ _ _ _ _ (@ff _ _ _ _) (@cg _ _ _ _ _ (@ff _ _ _ _) (@cg _ _ _ _ _ (@ff _ _ _ _) (@cg _ _ _ _ _ (@ff _ _ _ _) (@cg _ _ _ _ _ (@ff _ _ _ _) (@cg _ _ _ _ _ (@ff _ _ _ _) (@cg _ _ _ _ _ (@ff _ _ _ _) (@cg _ _ _ _ _ (@ff _ _ _ _) (@cg _ _ _ _ _ (@ff _ _ _ _) (@cg _ _ _ _ _ (@ff _ _ _ _) (@cg _ _ _ _ _ (@ff _ _ _ _) (@cg _ _ _ _ _ (@ff _ _ _ _) (@cg _ _ _ _ _ (@ff _ _ _ _) (@eY _) (cT rfl)) (cT rfl)) (cT rfl)) (cT rfl)) (cT rfl)) (cT rfl)) (cT rfl)) (cT rfl)) (cT rfl)) (cT rfl)) (cT rfl)) (cT rfl)) (cT rfl)) (cT rfl)) (cT rfl)) (cT rfl)) (@kT _ _ _ _ _ _ _ _ (@p5 _) (@eF _ 1 _ _ rfl gu ar au) (@ff _ _ _ _)) (fun _ _=>rfl)) (mj rfl) (.inl rfl)) (@fz _ _ _ _ _ (@ni _ _ 5 _ _ _ _ bT.nd rfl qu (@xD _ _ _ _ _ _ _ (@cg _ _ _ _ _ (@ff _ _ _ _) (@cg _ _ _ _ _ (@ff _ _ _ _) (@cg _ _ _ _ _ (@ff _ _ _ _) (@cg _ _ _ _ _ (@ff _ _ _ _) (@eY _) (cT rfl)) (cT rfl)) (cT rfl)) (cT rfl)) (@kT _ _ _ _ _ _ _ _ (@p5 _) (@kT _ _ _ _ _ _ _ _ (@rC _) (@eF _ 1 _ _ rfl gu ar au) (@ff _ _ _ _)) (@ff _ _ _ _)) (fun _ _=>rfl)) (mj rfl) (.inl rfl)) (@fz _ _ _ _ _ (@ni _ _ 6 _ _ _ _ bT.nd rfl qv (@vY _ _ _ _ (@eY _)) (mj rfl) (.inl rfl)) (@fz _ _ _ _ _ (@vZ _ _ _ _ _ _ _ _ PassesOwn.never rfl (@vP _ _ _ _ _ _ ml M.m_range (@cg _ _ _ _ _ (@eF _ 4 _ _ rfl qp eZ e7) (@eY _) (cT rfl)) (star1' rfl)) (@pF _ _ 7 _ bT.nd rfl qx (.inl rfl)) (@fz _ _ _ _ _ (@ni _ _ 8 _ _ _ _ bT.nd rfl qy (@kT _ _ _ _ _ _ _ _ (@p5 _) (@kT _ _ _ _ _ _ _ _ (@vv _) (@kT _ _ _ _ _ _ _ _ (@rC _) (@eF _ 1 _ _ rfl gu ar au) (@ff _ _ _ _)) (@kT _ _ _ _ _ _ _ _ (@yf _) (@eF _ 5 _ _ rfl qt rT rV) (@eF _ 7 _ _ rfl qw cJ cK))) (@ff _ _ _ _)) (mj rfl) (.inl rfl)) (@fS _ _ _ (@wH _ _ _ _ (@wD _ _ _ _ _ _ _ _ _ _ _ _ PySem.F.plainAttrs_list PySem.F.slot_list_append PySem.F.type_list_append we (@eF _ 6 _ _ rfl j9 br bu) (@cg _ _ _ _ _ (@nP _ _ _ _ _ (@cg _ _ _ _ _ (@kZ _ _ _ _ _ _ _ (@ix_list _) (@eF _ 2 _ _ rfl qk oK oM) (@kT _ _ _ _ _ _ _ _ (@p5 _) (@eF _ 8 _ _ rfl ka kU kW) (@ff _ _ _ _)) (fun _ _=>rfl)) (@cg _ _ _ _ _ (@kZ _ _ _ _ _ _ _ (@ix_list _) (@eF _ 3 _ _ rfl qm rQ rR) (@kT _ _ _ _ _ _ _ _ (@rC _) (@eF _ 8 _ _ rfl ka kU kW) (@ff _ _ _ _)) (fun _ _=>rfl)) (@eY _) (cT rfl)) (cT rfl))) (@eY _) (cT rfl)) (by rfl) (by rfl) (by rfl) (by rfl) (by rfl)) (mj rfl)))) (by intro _; rfl)) (@fS _ _ _ (@jm _ _ _ _ (@eF _ 6 _ _ rfl j9 br bu)))))))))),?_⟩
 trivial
 refine r9 hS (by decide) ?_
 trivial
 refine r9 hS (by decide) (r9 hS (by decide) ⟨_,_,rfl,fun s1 fs H1 S1 hs1 L1 F1=>?_⟩)
 trivial
 refine r9 (S1.seq hS) (by decide) (r9 (S1.seq hS) (by decide) ⟨_,_,rfl,fun s2 gs H2 S2 hs2 L2' F2=>?_⟩)
 trivial
 have S02:=S1.trans S2
 replace L1:=S2 _ _ L1
 generalize cellAt ns 0=c at *
 have m0:=Int.emod_nonneg c (show (16:Int)≠0 by decide)
 have m1:=Int.emod_lt_of_pos c (show (0:Int)<16 by decide)
 have t0:=Int.emod_nonneg (c / 16) (show (4:Int)≠0 by decide)
 have t1:=Int.emod_lt_of_pos (c / 16) (show (0:Int)<4 by decide)
 obtain⟨many,hmany,em⟩:=DZ (xs:=[1,1,2,2,2,2,2,2,2,2,3,3,3,3,3,4]) m0 m1
 obtain⟨st,hst,et⟩:=DZ (xs:=[1,4,5,7]) t0 t1
 have mi:1≤many∧many≤4:=by
  simp only [List.mem_cons,List.not_mem_nil,or_false] at hmany
  omega
 simp only [List.mem_cons,List.not_mem_nil,or_false] at hst
 have si:1≤st∧st≤7:=by omega
 refine⟨by decide,by decide,m0,_,em,by decide,cdiv (by decide) (by decide),by decide,t0,_,et,by decide,fun l hl=>⟨_,rfl,by omega,by omega,?_⟩⟩
 have hlH:H l=none:=S02.free hl
 obtain⟨kOf,hkOf⟩:∃ kOf:Nat→Kd2,kOf=fun k=>(fs.getD (sE c st k % 4) [],gs.getD (sE c st k / 4) []):=⟨_,rfl⟩
 have l1s:=F1.len
 have l2s:=F2.len
 obtain⟨Pv,hP⟩:∃ Pv:Nat→St→Hp→Prop,Pv=fun k σ H'=>∃ xs y z,H' l=some (.lst xs)∧TpD H' xs (((List.range k).map kOf).map kRow)∧Same H2 H'∧σ=[some (.ref a),some (.int c),some (.ref s1),some (.ref s2),some (.int many),some (.int st),some (.ref l),y,z]:=⟨_,rfl⟩
 refine wA Pv ?_ ?_ ?_
 ·rw[hP]
  exact⟨[],_,_,fj,.nil,gI hl _,rfl⟩
 ·intro k σ H' hk h
  rw[hP] at h
  obtain⟨xs,y,z,dl,td,e,rfl⟩:=h
  obtain⟨sp1,sp2⟩:=xG c st k
  have a1:atI (fs.map fun cs=>V.str (txt cs)) ((sE c st k:Nat) % 4:Int)=some (.str (txt (kOf k).1)):=by
   rw[show ((sE c st k:Nat):Int) % 4=((sE c st k % 4:Nat):Int) by omega]
   refine um ?_
   rw[List.getElem?_map,List.getElem?_eq_getElem (show sE c st k % 4<fs.length by exact Oz25 l1s),hkOf]
   show some _=some (V.str (txt (fs.getD (sE c st k % 4) [])))
   rw[getD_at (show sE c st k % 4<fs.length by exact Oz25 l1s)]
  have a2:atI (gs.map fun cs=>V.str (txt cs)) ((sE c st k:Nat) / 4:Int)=some (.str (txt (kOf k).2)):=by
   rw[show ((sE c st k:Nat):Int) / 4=((sE c st k / 4:Nat):Int) by omega]
   refine um ?_
   rw[List.getElem?_map,List.getElem?_eq_getElem (show sE c st k / 4<gs.length by exact Oz44 l2s sp2),hkOf]
   show some _=some (V.str (txt (gs.getD (sE c st k / 4) [])))
   rw[getD_at (show sE c st k / 4<gs.length by exact Oz44 l2s sp2)]
  have len:=td.length
  rw[List.length_map,List.length_map,List.length_range] at len
  trivial
  refine⟨cdiv (by decide) (by decide),C6 (by omega) (by omega) (by exact Oz41) (by omega),by decide,?_⟩
  rw[sp2]
  refine⟨.inl ⟨rfl,_,SqL.of dl⟩,by decide,_,SqL.of (e _ _ L1),_,a1,cdiv (by decide) (by decide),_,SqL.of (e _ _ L2'),_,a2,by decide,fun p hp=>?_⟩
  obtain⟨H3,g3,S3,T3⟩:∃ H3,H3=upd H' p (.tup (kRow (kOf k)))∧Same H' H3∧H3 p=some (.tup (kRow (kOf k))):=⟨_,rfl,gI hp _,fj⟩
  have g3':H3=upd H' p (.tup [V.str (txt (kOf k).1),V.str (txt (kOf k).2)]):=g3
  rw[← g3']
  clear g3 g3'
  have d3:=S3 _ _ dl
  refine⟨_,d3,Nat.lt_of_lt_of_le (m:=64) (by omega) (by decide),?_⟩
  rw[hP]
  refine⟨_,_,_,fj,?_,pI (e.trans S3) hl _,rfl⟩
  rw[List.range_succ,List.map_append,List.map_append]
  exact ((td.same S3).snoc T3).upd d3
 ·intro σ H' h
  rw[hP] at h
  obtain⟨xs,y,z,dl,td,e,rfl⟩:=h
  trivial
  refine q _ _ _ _ (S02.trans e) hlH dl td ⟨?_,?_,fun k hk=>?_,?_⟩
  ·rw[List.length_map,List.length_range]
   omega
  ·rw[List.length_map,List.length_range]
   omega
  ·obtain⟨i,hi,rfl⟩:=List.mem_map.mp hk
   obtain⟨sp1,_⟩:=xG c st i
   rw[hkOf]
   constructor
   ·show nameB (fs.getD (sE c st i % 4) [])=true
    rw[getD_at (show sE c st i % 4<fs.length by omega)]
    exact F1.name _ (List.getElem_mem _)
   ·show nameB (gs.getD (sE c st i / 4) [])=true
    rw[getD_at (show sE c st i / 4<gs.length by omega)]
    exact F2.name _ (List.getElem_mem _)
  ·rw[List.nodup_iff_pairwise_ne,List.pairwise_map]
   refine List.Pairwise.imp_of_mem (fun {i j} hi hj hne he=>?_) List.nodup_range
   have hi':=List.mem_range.mp hi
   have hj':=List.mem_range.mp hj
   obtain⟨u1,_⟩:=xG c st i
   obtain⟨u2,_⟩:=xG c st j
   rw[hkOf] at he
   have e1:sE c st i % 4=sE c st j % 4:=F1.apart _ _ (by omega) (by omega) (congrArg Prod.fst he)
   have e2:sE c st i / 4=sE c st j / 4:=F2.apart _ _ (by omega) (by omega) (congrArg Prod.snd he)
   have e3:sE c st i=sE c st j:=by
    have:=Nat.div_add_mod (sE c st i) 4
    have:=Nat.div_add_mod (sE c st j) 4
    omega
   exact hne (EU hst (by exact Oz61 mi hi') (by exact Oz61 mi hj') e3)
end
abbrev okKind (k:Kd2):Prop:=nameB k.1=true∧nameB k.2=true
theorem xN {cs:List Nat} (h:nameB cs=true):asc cs∧cs.length≤8:=by
 unfold nameB at h
 rw[Bool.and_eq_true,decide_eq_true_iff] at h
 refine⟨List.all_eq_true.mpr fun c hc=>decide_eq_true ?_,h.1.2⟩
 have:=List.all_eq_true.mp h.2 c hc
 unfold yy at this
 rw[Bool.and_eq_true,decide_eq_true_iff,decide_eq_true_iff] at this
 omega
theorem wz {K:PySem.W.Frag} {H:Hp} {cs:List Nat} (h:nameB cs=true):NameV K H (.str (txt cs)) true:=by
 have a:=xN h
 have:=NameV.txt (K:=K) (H:=H) a.1 (show cs.length≤1000 by omega)
 rwa [h] at this
noncomputable def kD (k:Kd2):PyData:=.tuple [.str (txt k.1),.str (txt k.2)]
theorem vF {K:PySem.W.Frag} {H:Hp} {p:Addr} {k:Kd2} (h:SqT K H p (kRow k)):Rep K H (.ref p) (kD k):=.tup h (.cons (.str _) (.cons (.str _) .nil))
theorem xg {k:Kd2} (h:okKind k):vQ (kD k):=by
 have sk:∀ {cs:List Nat},nameB cs=true→PyData.canLay0 (.str (txt cs))=true:=fun {cs} hn=>by
  have a:=(xN hn).1
  show (txt cs).cps.all (·<0x110000)=true
  rw[List.all_toArray,List.all_eq_true]
  intro c hc
  have:=of_decide_eq_true (List.all_eq_true.mp a c hc)
  exact decide_eq_true (by exact Oz104 this)
 refine⟨?_,by show max 0 (max 0 0)+1≤40; decide⟩
 show (PyData.canLay0 (.str (txt k.1)) && (PyData.canLay0 (.str (txt k.2)) && true))=true
 rw[sk h.1,sk h.2]
 rfl
theorem zy {a b:List Nat}:(txt a == txt b)=decide (a=b):=by
 by_cases h:a=b
 ·subst h
  rw[decide_eq_true rfl]
  exact beq_self_eq_true _
 ·rw[decide_eq_false h]
  refine beq_false_of_ne fun e=>h ?_
  have:=congrArg (fun s:Str=>s.cps.toList) e
  simpa using this
theorem wI (k k':Kd2):PyData.eqv (kD k) (kD k')=decide (k=k'):=by
 obtain⟨a,b⟩:=k
 obtain⟨c,d⟩:=k'
 show ((txt a == txt c) && ((txt b == txt d) && true))=_
 rw[zy,zy]
 by_cases h1:a=c <;> by_cases h2:b=d <;> simp [h1,h2]
inductive KnA (K:PySem.W.Frag) (H:Hp):List V→List Kd2→Prop
 | nil:KnA K H [] []
 | cons {p:Addr} {k:Kd2} {xs:List V} {ks:List Kd2}:SqT K H p (kRow k)→KnA K H xs ks→KnA K H (.ref p::xs) (k::ks)
theorem KnA.same {K:PySem.W.Frag} {H H':Hp} {xs:List V} {ks:List Kd2} (h:KnA K H xs ks) (e:Same H H'):KnA K H' xs ks:=by
 induction h with
 | nil=>exact .nil
 | cons a _ ih=>exact .cons (Same.tup e a) ih
theorem KnA.length {K:PySem.W.Frag} {H:Hp} {xs:List V} {ks:List Kd2} (h:KnA K H xs ks):xs.length=ks.length:=by
 induction h with
 | nil=>rfl
 | cons _ _ ih=>rw[List.length_cons,List.length_cons,ih]
theorem KnA.at {K:PySem.W.Frag} {H:Hp} {xs:List V} {ks:List Kd2} (h:KnA K H xs ks):∀ {i:Nat} {x:V},xs[i]?=some x→∃ p k,x=.ref p∧ks[i]?=some k∧SqT K H p (kRow k):=by
 induction h with
 | nil=>intro i x e; simp at e
 | cons a _ ih =>
  intro i x e
  cases i with
  | zero=>cases e; exact⟨_,_,rfl,rfl,a⟩
  | succ i=>exact ih e
theorem KnA.rep {K:PySem.W.Frag} {H:Hp} {xs:List V} {ks:List Kd2} (h:KnA K H xs ks):RepAll K H xs (ks.map kD):=by
 induction h with
 | nil=>exact .nil
 | cons a _ ih=>exact .cons (vF a) ih
theorem TpD.kna {K:PySem.W.Frag} {H:Hp}:∀ {ks:List Kd2} {xs:List V},TpD H xs (ks.map kRow)→KnA K H xs ks
 | [],_,.nil=>.nil
 | k::ks,_,.cons a t=>.cons (SqT.of a) (TpD.kna t)
theorem wF:∀ {ks:List Kd2},(∀ k∈ks,okKind k)→PyData.canLayAll0 (ks.map kD)=true∧PyData.depthAll (ks.map kD)≤1
 | [],_=>⟨rfl,by decide⟩
 | k::ks,h=>by
  obtain⟨a,b⟩:=wF fun k' hk=>h k' (List.mem_cons_of_mem _ hk)
  have f:=xg (h k (List.mem_cons_self ..))
  refine⟨?_,?_⟩
  ·show (PyData.canLay0 (kD k) && PyData.canLayAll0 (ks.map kD))=true
   rw[f.1,a]
   rfl
  ·show max (max 0 (max 0 0)+1) (PyData.depthAll (ks.map kD))≤1
   omega
theorem Cb (k:Kd2):∀ ks:List Kd2,((ks.map kD).any fun y=>PyData.eqv y (kD k))=decide (k∈ks)
 | []=>rfl
 | c::ks=>by
  rw[List.map_cons,List.any_cons,Cb k ks,wI]
  by_cases h:c=k
  ·subst h
   simp
  ·rw[decide_eq_false h,Bool.false_or]
   by_cases h2:k∈ks
   ·rw[decide_eq_true h2,decide_eq_true (List.mem_cons_of_mem _ h2)]
   ·rw[decide_eq_false h2,decide_eq_false (by simp only [List.mem_cons,not_or]; exact⟨fun e=>h e.symm,h2⟩)]
theorem Bp {K:PySem.W.Frag} {H:Hp} {p l:Addr} {k:Kd2} {xs:List V} {ks:List Kd2} {neg:Bool} {Q:VK} (h1:SqT K H p (kRow k)) (o1:okKind k) (L:SqL K H l xs) (A:KnA K H xs ks) (ok:∀ k∈ks,okKind k) (hq:Q (.bl (if neg then !decide (k∈ks) else decide (k∈ks))) H):HV K neg (.ref p) (.ref l) H Q:=by
 obtain⟨f1,f2⟩:=wF ok
 refine⟨l,kD k,ks.map kD,rfl,vF h1,.inl (.lst L A.rep),xg o1,⟨f1,?_⟩,?_⟩
 ·show PyData.depthAll (ks.map kD)+1≤40
  exact Oz21 f2
 ·rw[Cb]
  exact hq
inductive KindV2 (K:PySem.W.Frag) (H:Hp):List V→List Bool→Prop
 | nil:KindV2 K H [] []
 | cons {x:V} {b:Bool} {xs:List V} {bs:List Bool}:KindV K H x b→KindV2 K H xs bs→KindV2 K H (x::xs) (b::bs)
theorem KindV2.length {K:PySem.W.Frag} {H:Hp} {xs:List V} {bs:List Bool} (h:KindV2 K H xs bs):xs.length=bs.length:=by
 induction h with
 | nil=>rfl
 | cons _ _ ih=>rw[List.length_cons,List.length_cons,ih]
theorem KindV2.at {K:PySem.W.Frag} {H:Hp} {xs:List V} {bs:List Bool} (h:KindV2 K H xs bs):∀ {i:Nat} {x:V},xs[i]?=some x→∃ b,bs[i]?=some b∧KindV K H x b:=by
 induction h with
 | nil=>intro i x e; simp at e
 | cons a _ ih =>
  intro i x e
  cases i with
  | zero=>cases e; exact⟨_,rfl,a⟩
  | succ i=>exact ih e
theorem KnA.v2 {K:PySem.W.Frag} {H:Hp} {xs:List V} {ks:List Kd2} (h:KnA K H xs ks) (ok:∀ k∈ks,okKind k):KindV2 K H xs (ks.map fun _=>true):=by
 induction h with
 | nil=>exact .nil
 | @cons p k xs ks a _ ih =>
  have o:=ok k (List.mem_cons_self ..)
  exact .cons (KindV.two a (wz o.1) (wz o.2)) (ih fun k' hk=>ok k' (List.mem_cons_of_mem _ hk))
inductive KindsV (K:PySem.W.Frag) (H:Hp):V→Bool→Prop
 | no {v:V} {k:Kn}:Kd K H v k→k≠.lst→KindsV K H v false
 | len {l:Addr} {xs:List V}:SqL K H l xs→¬(1≤xs.length∧xs.length≤4)→KindsV K H (.ref l) false
 | bad {l:Addr} {xs:List V} {bs:List Bool}:SqL K H l xs→1≤xs.length→xs.length≤4→KindV2 K H xs bs→bs.all id=false→KindsV K H (.ref l) false
 | good {l:Addr} {xs:List V} {ks:List Kd2}:SqL K H l xs→1≤xs.length→xs.length≤4→KnA K H xs ks→(∀ k∈ks,okKind k)→KindsV K H (.ref l) (decide ks.Nodup)
def yo (K:PySem.W.Frag):Sp:=fun vs H Q _=>∃ v b,vs=[v]∧KindsV K H v b∧∀ H',Same H H'→Q (.bl b) H'
def zJ (K:PySem.W.Frag):Sp:=fun vs H Q _=>∃ (l:Addr) (xs:List V) (ks:List Kd2),vs=[.ref l]∧SqL K H l xs∧KindsV K H (.ref l) true∧∀ (m:Addr) (H':Hp),Same H H'→H m=none→H' m=some (.lst xs)→Q (.ref m) H'
theorem Dv {k:Kn} (h:k≠.lst):qq k .lst=false:=by
 cases k <;> first | rfl | exact absurd rfl h
theorem D7 {K:PySem.W.Frag} {H:Hp} {l D:Addr} {xs:List V} {bs:List Bool} {Q:VK} {E:XK} (L:SqL K H l xs) (B:KindV2 K H xs bs) (hD:H D=none) (q:∀ H',Same H H'→SqL K H' D (bs.map V.bl)→Q (.ref D) H')
  (hl:xs.length≤40:=by omega):wu D (Itl K l) (As 0) HA (Aq (xO K) [] E (FH (CB 0) HY)) Q [none] (upd H D (.lst [])):=by
 obtain⟨Pc,hC⟩:∃ Pc:Nat→St→Hp→Prop,Pc=fun i τ H'=>∃ z,H' D=some (.lst ((bs.take i).map V.bl))∧Same H H'∧τ=[z]:=⟨_,rfl⟩
 refine se xs Pc ?_ (fun i τ H' _ h=>by rw[hC] at h; obtain⟨z,_,e,_⟩:=h; exact e.seq L) ?_ ?_
 ·rw[hC]
  exact⟨_,fj,gI hD _,rfl⟩
 ·intro i x τ H' R hx h next
  rw[hC] at h
  obtain⟨z,d1,d2,rfl⟩:=h
  obtain⟨b,hb,Bx⟩:=B.at hx
  have li:i<xs.length:=(List.getElem?_eq_some_iff.mp hx).1
  trivial
  refine⟨_,_,rfl,Bx.same d2,fun H2 e2=>⟨_,e2 _ _ d1,?_,next _ _ ?_⟩⟩
  ·rw[List.length_map,List.length_take]
   exact Nat.lt_of_lt_of_le (m:=64) (by omega) (by decide)
  ·rw[hC]
   refine⟨_,?_,pI (d2.trans e2) hD _,rfl⟩
   rw[fj,List.take_add_one,hb,List.map_append]
   rfl
 ·intro τ H' h
  rw[hC] at h
  obtain⟨z,d1,d2,rfl⟩:=h
  rw[List.take_of_length_le (by rw[B.length]; exact Nat.le_refl _)] at d1
  exact q _ d2 (SqL.of d1)
theorem Aj (k:Kd2):∀ ks:List Kd2,((ks.map kD).countP fun z=>PyData.eqv z (kD k))=ks.count k
 | []=>rfl
 | c::ks=>by
  rw[List.map_cons,List.countP_cons,Aj k ks,List.count_cons,wI]
  by_cases h:c=k
  ·rw[decide_eq_true h,if_pos rfl,if_pos (by rw[h]; exact beq_self_eq_true _)]
  ·rw[decide_eq_false h,if_neg (by decide),if_neg (by intro e; exact h (eq_of_beq e))]
theorem DX {K:PySem.W.Frag} {H:Hp} {l p:Addr} {k:Kd2} {xs:List V} {ks:List Kd2} {Q:VK} (h1:SqT K H p (kRow k)) (o1:okKind k) (L:SqL K H l xs) (A:KnA K H xs ks) (ok:∀ k∈ks,okKind k) (hq:Q (.int (ks.count k)) H):Ek K (.ref l) [.ref p] H Q:=by
 obtain⟨f1,f2⟩:=wF ok
 refine⟨l,.ref p,kD k,ks.map kD,rfl,rfl,vF h1,.lst L A.rep,xg o1,⟨f1,?_⟩,?_⟩
 ·show PyData.depthAll (ks.map kD)+1≤40
  exact Oz21 f2
 ·rw[Aj]
  exact hq
theorem Dz {ks:List Kd2}:(ks.map fun k=>decide ((ks.count k:Int)=1)).all id=decide ks.Nodup:=by
 by_cases h:ks.Nodup
 ·rw[decide_eq_true h,List.all_eq_true]
  intro b hb
  obtain⟨k,hk,rfl⟩:=List.mem_map.mp hb
  have:ks.count k=1:=by rw[h.count,if_pos hk]
  rw[this]
  rfl
 ·rw[decide_eq_false h]
  rw[Bool.eq_false_iff]
  intro e
  refine h (List.nodup_iff_count.mpr fun k=>?_)
  by_cases hk:k∈ks
  ·have:=List.all_eq_true.mp e _ (List.mem_map.mpr ⟨k,hk,rfl⟩)
   have:=of_decide_eq_true this
   omega
  ·rw[List.count_eq_zero_of_not_mem hk]
   exact Nat.zero_le _
section
variable {P:Program} {w:World} {K:PySem.W.Frag} {mg:Str→Option Value} {base:Heap} {f:Addr} {fd:FuncData}
theorem B6 (F:Fun K "are_kinds" "are_kinds" bJ f fd) (M:Mg mg) (dW:Cal P w K mg base CX0 "is_kind" 2 ["thing"] (xO K)):FnOk P w K mg base CX0 3 f fd ["thing"] (yo K):=by
 refine F.ok rY (fun vs H Q E h=>?_) (fun cdv A outer s H vs Q E hr h=>?_)
 ·obtain⟨v,b,rfl,_⟩:=h
  rfl
 obtain⟨v,b,rfl,N,q⟩:=h
 refine⟨_,(@fz _ _ _ _ _ (@pG _ _ _ _ _ _ _ _ (@PW.pt _ _ _ (@wR _ _ _ _ _ _ _ (@tw _ _ _ _ (@qY _ _ _ (@ki _ _ _ _ _ _ _ _ _ uF ja M.m_isinstance qU (@cg _ _ _ _ _ (@eF _ 0 _ _ rfl eK az aA) (@cg _ _ _ _ _ (@uT _ _ (.ty "list") _ _ mP M.m_list x9 rfl eT eR) (@eY _) (cT rfl)) (cT rfl)) aE aD (cT rfl) (iT rfl gj)) (rS rfl))) (@wC _ _ _ _ (@tw _ _ _ _ (@yC _ _ _ _ _ _ _ _ _ _ _ _ xB xB (@ff _ _ _ _) (@ki _ _ _ _ _ _ _ _ _ m9 nE M.m_len qZ (@cg _ _ _ _ _ (@eF _ 0 _ _ rfl eK az aA) (@eY _) (cT rfl)) aq ao (cT rfl) gj) (@ff _ _ _ _) (by with_unfolding_all rfl)))))) (@fS _ _ _ (@jm _ _ _ _ (@sf _ _ _ _))) (@mO _)) (@fz _ _ _ _ _ (@pG _ _ _ _ _ _ _ _ (@tw _ _ _ _ (@qY _ _ _ (@ki _ _ _ _ _ _ _ _ _ (wg rfl) iU M.m_all zu (@cg _ _ _ _ _ (@rZ _ _ _ _ _ _ _ _ _ _ _ _ _ _ _ rfl (CompOk.make (N':=["kind"]) (ix:=[]) (nl:=1) (by rfl) fm0 (by rfl) (by decide +kernel) rfl (by decide +kernel) rfl True.intro) (@uo _ _ _ _ (@eF _ 0 _ _ rfl eK az aA)) (fun _ _ _ _ _=>(@pF _ _ 0 _ (show List.Nodup (["kind"]:List Str) from by decide) rfl (Or.inl rfl) (by first | exact .inl rfl | exact .inr rfl | assumption))) (fun _ _ _ _ _=>(@uU _)) (fun _ _ _ _ _=>(@gY _ _ _ _ _ _ _ _ _ _ _ dW hr rfl (@cg _ _ _ _ _ (@pv _ 0 _ _ (by rfl) (by decreasing_trivial) (by decide) (by decide)) (@eY _) (cT rfl)) (by decide) hU (cT rfl) gj)) (by intro _; rfl)) (@eY _) (cT rfl)) ir iq (cT rfl) gj) (rS rfl))) (@fS _ _ _ (@jm _ _ _ _ (@sf _ _ _ _))) (@mO _)) (@fS _ _ _ (@jm _ _ _ _ (@ki _ _ _ _ _ _ _ _ _ (wg rfl) iU M.m_all zu (@cg _ _ _ _ _ (@rZ _ _ _ _ _ _ _ _ _ _ _ _ _ _ _ rfl (CompOk.make (N':=["thing","kind"]) (ix:=[0]) (nl:=1) (by rfl) (fm1 rfl fm0) (by rfl) (by decide +kernel) rfl (by decide +kernel) rfl (And.intro ⟨rfl,.inl rfl,.inl rfl⟩ True.intro)) (@uo _ _ _ _ (@eF _ 0 _ _ rfl eK az aA)) (fun _ _ _ _ _=>(@pF _ _ 1 _ (show List.Nodup (["thing","kind"]:List Str) from by decide) rfl (Or.inl rfl) (by first | exact .inl rfl | exact .inr rfl | assumption))) (fun _ _ _ _ _=>(@uU _)) (fun _ _ _ _ _=>(@vV _ _ _ _ _ _ _ _ (@qb _) (@Kl _ K _ _ _ _ _ _ _ _ _ _ _ rfl PySem.F.plainAttrs_list PySem.F.slot_list_count PySem.F.type_list_count (BB (K:=K) rfl (xQ hr)) (@pv _ 0 _ _ (by rfl) (by decreasing_trivial) (by decide) (by decide)) (@cg _ _ _ _ _ (@pv _ 1 _ _ (by rfl) (by decreasing_trivial) (by decide) (by decide)) (@eY _) (cT rfl)) (by rfl) (by rfl) (by rfl) (by rfl) (by rfl)) (@ff _ _ _ _) (nj _))) (by intro _; rfl)) (@eY _) (cT rfl)) ir iq (cT rfl) gj))))),?_⟩
 trivial
 cases N with
 | no kd hk =>
  refine⟨_,kd,?_⟩
  rw[if_pos (Dv hk)]
  exact q _ (Same.refl _)
 | @len l xs L hl =>
  refine⟨_,Kd.lst L,?_⟩
  rw[if_neg (by decide)]
  refine⟨_,rfl,_,.inl L,?_⟩
  by_cases h1:1≤(xs.length:Int)
  ·rw[if_pos h1,if_neg (by omega)]
   exact q _ (Same.refl _)
  ·rw[if_neg h1]
   exact q _ (Same.refl _)
 | @bad l xs bs L l1 l40 B ba =>
  refine⟨_,Kd.lst L,?_⟩
  rw[if_neg (by decide)]
  refine⟨_,rfl,_,.inl L,?_⟩
  rw[if_pos (by exact Oz56 l1),if_pos (by exact Oz103 l40)]
  refine⟨_,rfl,⟨_,L⟩,fun D hD=>D7 L B hD fun H1 S1 L1=>⟨_,rfl,_,L1,?_⟩⟩
  rw[if_pos ba]
  exact q _ S1
 | @good l xs ks L l1 l40 KA okk =>
  refine⟨_,Kd.lst L,?_⟩
  rw[if_neg (by decide)]
  refine⟨_,rfl,_,.inl L,?_⟩
  rw[if_pos (by exact Oz56 l1),if_pos (by exact Oz103 l40)]
  refine⟨_,rfl,⟨_,L⟩,fun D hD=>D7 L (KA.v2 okk) hD fun H1 S1 L1=>⟨_,rfl,_,L1,?_⟩⟩
  have at':(ks.map fun _=>true).all id=true:=by
   rw[List.all_map,List.all_eq_true]
   intro _ _
   rfl
  rw[if_neg (by rw[at']; decide)]
  have len:=KA.length
  refine⟨_,rfl,⟨_,S1.seq L⟩,fun D2 hD2=>?_⟩
  obtain⟨Pc,hC⟩:∃ Pc:Nat→St→Hp→Prop,Pc=fun i τ H'=>∃ z,H' D2=some (.lst (((ks.map fun k=>decide ((ks.count k:Int)=1)).take i).map V.bl))∧Same H1 H'∧τ=[some (.ref l),z]:=⟨_,rfl⟩
  refine se xs Pc ?_ (fun i τ H' _ h=>by rw[hC] at h; obtain⟨z,_,e,_⟩:=h; exact (S1.trans e).seq L) ?_ ?_
  ·rw[hC]
   exact⟨_,fj,gI hD2 _,rfl⟩
  ·intro i x τ H' R' hx h next
   rw[hC] at h
   obtain⟨z,d1,d2,rfl⟩:=h
   have KA':=KA.same (S1.trans d2)
   have L':=(S1.trans d2).seq L
   obtain⟨p,k,rfl,hk,Tk⟩:=KA'.at hx
   have li:i<xs.length:=(List.getElem?_eq_some_iff.mp hx).1
   trivial
   refine⟨.inl ⟨rfl,_,L'⟩,DX Tk (okk k (List.mem_of_getElem? hk)) L' KA' okk ⟨rfl,_,d1,?_,next _ _ ?_⟩⟩
   ·rw[List.length_map,List.length_take,List.length_map]
    exact Nat.lt_of_lt_of_le (m:=64) (by omega) (by decide)
   ·rw[hC]
    refine⟨_,?_,pI d2 hD2 _,rfl⟩
    have ed:decide (V.int (ks.count k:Int)=V.int 1)=decide ((ks.count k:Int)=1):=decide_eq_decide.mpr ⟨fun e=>by injection e,fun e=>by rw[e]⟩
    rw[fj,List.take_add_one,List.getElem?_map,hk,List.map_append,ed]
    rfl
  ·intro τ H' h
   rw[hC] at h
   obtain⟨z,d1,d2,rfl⟩:=h
   rw[List.take_of_length_le (by rw[List.length_map]; omega)] at d1
   refine⟨_,rfl,_,SqL.of d1,?_⟩
   rw[Dz]
   exact q _ (S1.trans d2)
theorem Ds (F:Fun K "kinds_of" "kinds_of" cH f fd) (M:Mg mg) (jc:Cal P w K mg base CX0 "are_kinds" 3 ["thing"] (yo K)):FnOk P w K mg base CX0 4 f fd ["some"] (zJ K):=by
 refine F.ok tI (fun vs H Q E h=>?_) (fun cdv A outer s H vs Q E hr h=>?_)
 ·obtain⟨l,xs,ks,rfl,_⟩:=h
  rfl
 obtain⟨l,xs,ks,rfl,L,N,q⟩:=h
 refine⟨_,(@fz _ _ _ _ _ (@pG _ _ _ _ _ _ _ _ (@tw _ _ _ _ (@qY _ _ _ (@gY _ _ _ _ _ _ _ _ _ _ _ jc hr jK (@cg _ _ _ _ _ (@eF _ 0 _ _ rfl kY tZ t5) (@eY _) (cT rfl)) (by decide) rO (cT rfl) gj) (rS rfl))) (@fS _ _ _ (@wc _ _)) (@mO _)) (@fS _ _ _ (@jm _ _ _ _ (@vC _ _ _ _ _ _ _ _ _ za nF M.m_list x9 (@cg _ _ _ _ _ (@eF _ 0 _ _ rfl kY tZ t5) (@eY _) (cT rfl)) eT eR (cT rfl) gj)))),?_⟩
 trivial
 refine⟨_,_,rfl,N,fun H1 S1=>⟨_,rfl,?_⟩⟩
 rw[if_neg (by decide)]
 exact⟨_,.inl (S1.seq L),fun m hm=>q _ _ (S1.trans (gI hm _)) (S1.free hm) fj⟩
end
end My
namespace MyB
open My PySem L2
noncomputable def top (i:Nat):Stmt:=PySem.Challenge.pw_tariffgate_k43_looked.main.body.getD i (.Pass ⟨0,0,0,0⟩)
theorem hV:(("weights":Str) == ("__debug__":Str))=false:=by decide
theorem hX:(("weights":Str) == ("__classdict__":Str))=false:=by decide
theorem vi:(("set":Str) == ("__debug__":Str))=false:=by decide
theorem vj:("set":Str)≠"__name__":=by decide
theorem ut:(("rank_in":Str) == ("__debug__":Str))=false:=by decide
theorem eV:(("places":Str) == ("__debug__":Str))=false:=by decide
theorem eW:(("places":Str) == ("__classdict__":Str))=false:=by decide
theorem oP:(("many":Str) == ("__debug__":Str))=false:=by decide
theorem oQ:(("many":Str) == ("__classdict__":Str))=false:=by decide
theorem im:(("rows":Str) == ("__debug__":Str))=false:=by decide
theorem io:(("rows":Str) == ("__classdict__":Str))=false:=by decide
theorem pS:(("longer":Str) == ("__debug__":Str))=false:=by decide
theorem pT:(("longer":Str) == ("__classdict__":Str))=false:=by decide
theorem jo:(("row":Str) == ("__debug__":Str))=false:=by decide
theorem jp:(("row":Str) == ("__classdict__":Str))=false:=by decide
theorem dz:(("number":Str) == ("__debug__":Str))=false:=by decide
theorem dA:(("number":Str) == ("__classdict__":Str))=false:=by decide
theorem iy:(("looks":Str) == ("__debug__":Str))=false:=by decide
theorem iA:(("looks":Str) == ("__classdict__":Str))=false:=by decide
theorem pU:(("sorted":Str) == ("__debug__":Str))=false:=by decide
theorem pV:("sorted":Str)≠"__name__":=by decide
theorem uJ:(("key_of":Str) == ("__debug__":Str))=false:=by decide
theorem uu:(("rows_of":Str) == ("__debug__":Str))=false:=by decide
theorem vk:(("any":Str) == ("__debug__":Str))=false:=by decide
theorem vm:("any":Str)≠"__name__":=by decide
theorem uv:(("look_of":Str) == ("__debug__":Str))=false:=by decide
abbrev cZ:Stmt:=top 17
theorem uw:FnScope ["weights","weight"] ["weights","weight"] (defScope cZ):=⟨rfl,rfl,rfl,by decide +kernel,rfl,by decide +kernel,by decide +kernel⟩
theorem tJ:Vis (defScope cZ) "weights":=by decreasing_trivial
theorem qz:(defScope cZ).names.lookup ("len":Str)=some .globalImplicit:=by rfl
theorem qA:(defScope cZ).names.lookup ("set":Str)=some .globalImplicit:=by rfl
abbrev dB:Stmt:=top 18
theorem ux:FnScope ["weights"] ["weights"] (defScope dB):=⟨rfl,rfl,rfl,by decide +kernel,rfl,by decide +kernel,by decide +kernel⟩
theorem tK:Vis (defScope dB) "weights":=by decreasing_trivial
theorem nG:(defScope dB).names.lookup ("tuple":Str)=some .globalImplicit:=by rfl
abbrev cF:Stmt:=top 19
theorem pW:FnScope ["weights","places"] ["weights"] (defScope cF):=⟨rfl,rfl,rfl,by decide +kernel,rfl,by decide +kernel,by decide +kernel⟩
theorem nH:Vis (defScope cF) "weights":=by decreasing_trivial
theorem jM:Vis (defScope cF) "places":=by decreasing_trivial
theorem uy:Loc (defScope cF) "places":=by first | exact Or.inl rfl | exact Or.inr rfl
theorem jq:(defScope cF).names.lookup ("tuple":Str)=some .globalImplicit:=by rfl
theorem fW:(defScope cF).names.lookup ("enumerate":Str)=some .globalImplicit:=by rfl
theorem sh:(defScope cF).names.lookup ("len":Str)=some .globalImplicit:=by rfl
abbrev bH:Stmt:=top 20
theorem d6:FnScope ["many","rows","place","longer","row"] ["many"] (defScope bH):=⟨rfl,rfl,rfl,by decide +kernel,rfl,by decide +kernel,by decide +kernel⟩
theorem mD:Vis (defScope bH) "many":=by decreasing_trivial
theorem mE:Vis (defScope bH) "rows":=by decreasing_trivial
theorem mF:Loc (defScope bH) "rows":=by first | exact Or.inl rfl | exact Or.inr rfl
theorem tL:Loc (defScope bH) "place":=by first | exact Or.inl rfl | exact Or.inr rfl
theorem mG:Vis (defScope bH) "longer":=by decreasing_trivial
theorem tM:Loc (defScope bH) "longer":=by first | exact Or.inl rfl | exact Or.inr rfl
theorem tN:Loc (defScope bH) "row":=by first | exact Or.inl rfl | exact Or.inr rfl
theorem iX:(defScope bH).names.lookup ("range":Str)=some .globalImplicit:=by rfl
abbrev bC:Stmt:=top 21
theorem lg:FnScope ["many","looks"] ["many"] (defScope bC):=⟨rfl,rfl,rfl,by decide +kernel,rfl,by decide +kernel,by decide +kernel⟩
theorem qB:Vis (defScope bC) "many":=by decreasing_trivial
theorem qC:Vis (defScope bC) "looks":=by decreasing_trivial
theorem qD:Loc (defScope bC) "looks":=by first | exact Or.inl rfl | exact Or.inr rfl
theorem kH:(defScope bC).names.lookup ("rows_of":Str)=some .globalImplicit:=by rfl
theorem lh:(defScope bC).names.lookup ("sorted":Str)=some .globalImplicit:=by rfl
theorem lm:(defScope bC).names.lookup ("key_of":Str)=some .globalImplicit:=by rfl
open PySem.SetL in
theorem El (ws:List Int) (w:Int):∀ i,i≤ws.length→(∀ k,(((ws.take i).filter fun o=>decide (0<o∧o≤w)).foldl addS (fun _=>false,0)).1 k=decide (k∈(ws.take i).filter fun o=>decide (0<o∧o≤w)))∧(((ws.take i).filter fun o=>decide (0<o∧o≤w)).foldl addS (fun _=>false,0)).2=((List.range i).filter (MthL.pk ws w)).length
 | 0,_=>⟨fun k=>by rw[List.take_zero]; rfl,by rw[List.take_zero]; rfl⟩
 | i+1,h=>by
  obtain⟨h1,h2⟩:=El ws w i (by omega)
  have li:i<ws.length:=h
  have et:ws.take (i+1)=ws.take i++[ws.getD i 0]:=by
   rw[List.take_add_one,List.getElem?_eq_getElem li,My.getD_at li]
   rfl
  rw[et,List.filter_append,List.range_succ,List.filter_append]
  generalize hx:ws.getD i 0=x at *
  have mem:∀ k,k∈ws.take i↔∃ j,j<i∧ws.getD j 0=k:=fun k=>by
   constructor
   ·intro hk
    obtain⟨j,hj,e⟩:=List.getElem_of_mem hk
    rw[List.length_take] at hj
    exact⟨j,by omega,by rw[My.getD_at (show j<ws.length by omega),← e,List.getElem_take]⟩
   ·intro ⟨j,hj,e⟩
    rw[← e,My.getD_at (show j<ws.length by omega)]
    exact List.mem_take_iff_getElem.mpr ⟨j,by omega,rfl⟩
  by_cases hf:0<x∧x≤w
  ·have ef:[x].filter (fun o=>decide (0<o∧o≤w))=[x]:=by
    rw[List.filter_cons_of_pos (by rw[decide_eq_true hf])]
    rfl
   rw[ef,List.foldl_append]
   generalize hq:((ws.take i).filter fun o=>decide (0<o∧o≤w)).foldl addS (fun _=>false,0)=p at *
   refine⟨fun k=>?_,?_⟩
   ·show (p.1 k || decide (k=x))=_
    rw[h1 k]
    by_cases a:k∈(ws.take i).filter fun o=>decide (0<o∧o≤w)
    ·rw[decide_eq_true a,decide_eq_true (List.mem_append_left _ a)]
     rfl
    ·rw[decide_eq_false a,Bool.false_or]
     by_cases b:k=x
     ·rw[decide_eq_true b,decide_eq_true (List.mem_append_right _ (List.mem_singleton.mpr b))]
     ·rw[decide_eq_false b,decide_eq_false]
      intro z
      rcases List.mem_append.mp z with z | z
      ·exact a z
      ·exact b (List.mem_singleton.mp z)
   ·show (if p.1 x=true then p.2 else p.2+1)=_
    rw[h1 x,h2,List.length_append]
    by_cases a:x∈(ws.take i).filter fun o=>decide (0<o∧o≤w)
    ·rw[if_pos (decide_eq_true a)]
     obtain⟨j,hj,e⟩:=(mem x).mp (List.mem_filter.mp a).1
     have:MthL.pk ws w i=false:=by
      cases e2:MthL.pk ws w i with
      | false=>rfl
      | true =>
       rw[MthL.pk_true,hx] at e2
       exact absurd e (e2.2.2 j hj)
     rw[List.filter_cons_of_neg (by rw[this]; decide)]
     rfl
    ·rw[if_neg (by rw[decide_eq_false a]; decide)]
     have:MthL.pk ws w i=true:=by
      rw[MthL.pk_true,hx]
      refine⟨hf.1,hf.2,fun j hj e=>a (List.mem_filter.mpr ⟨(mem x).mpr ⟨j,hj,e⟩,decide_eq_true hf⟩)⟩
     rw[List.filter_cons_of_pos this]
     rfl
  ·have ef:[x].filter (fun o=>decide (0<o∧o≤w))=[]:=by
    rw[List.filter_cons_of_neg (by rw[decide_eq_false hf]; decide)]
    rfl
   have:MthL.pk ws w i=false:=by
    cases e2:MthL.pk ws w i with
    | false=>rfl
    | true =>
     rw[MthL.pk_true,hx] at e2
     exact absurd ⟨e2.1,e2.2.1⟩ hf
   rw[ef,List.append_nil,List.filter_cons_of_neg (by rw[this]; decide),List.filter_nil,List.append_nil]
   exact⟨h1,h2⟩
def BY (K:PySem.W.Frag):Sp:=fun vs H Q _=>∃ (p:Addr) (ws:List Int) (w:Int),vs=[.ref p,.int w]∧Sq K H p (ws.map V.int)∧ws.length≤4∧∀ H',Same H H'→Q (.int (MthL.rk ws w:Nat)) H'
def zU (K:PySem.W.Frag):Sp:=fun vs H Q _=>∃ (p:Addr) (ws:List Int),vs=[.ref p]∧Sq K H p (ws.map V.int)∧ws.length≤4∧∀ (t:Addr) (H':Hp),Same H H'→H t=none→H' t=some (.tup ((MthL.look ws).map V.int))→Q (.ref t) H'
section
variable {P:Program} {w:World} {K:PySem.W.Frag} {mg:Str→Option Value} {base:Heap} {f:Addr} {fd:FuncData}
theorem Fv (F:Fun K "rank_in" "rank_in" cZ f fd) (M:Mg mg):FnOk P w K mg base CX0 1 f fd ["weights","weight"] (BY K):=by
 refine F.ok uw (fun vs H Q E h=>?_) (fun cdv A outer s H vs Q E hr h=>?_)
 ·obtain⟨p,ws,w',rfl,_⟩:=h
  rfl
 obtain⟨p,ws,w',rfl,hS,l4,q⟩:=h
 refine⟨_,(@fS _ _ _ (@jm _ _ _ _ (@ki _ _ _ _ _ _ _ _ _ BC qz M.m_len qZ (@cg _ _ _ _ _ (@vC _ _ _ _ _ _ _ _ _ (DK rfl) qA M.m_set KQ (@cg _ _ _ _ _ (@rZ _ _ _ _ _ _ _ _ _ _ _ _ _ _ _ rfl (CompOk.make (N':=["weight","other"]) (ix:=[1]) (nl:=1) (by rfl) (fm1 rfl fm0) (by rfl) (by decide +kernel) rfl (by decide +kernel) rfl (And.intro ⟨rfl,.inl rfl,.inl rfl⟩ True.intro)) (@GM _ _ _ _ (@eF _ 0 _ _ rfl tJ hV hX)) (fun _ _ _ _ _=>(@pF _ _ 1 _ (show List.Nodup (["weight","other"]:List Str) from by decide) rfl (Or.inl rfl) (by first | exact .inl rfl | exact .inr rfl | assumption))) (fun _ _ _ _ _=>(@wk _ _ _ (@yC _ _ _ _ _ _ _ _ _ _ _ _ (@E3 _) xB (@ff _ _ _ _) (@pv _ 1 _ _ (by rfl) (by decreasing_trivial) (by decide) (by decide)) (@pv _ 0 _ _ (by rfl) (by decreasing_trivial) (by decide) (by decide)) (by with_unfolding_all rfl)))) (fun _ _ _ _ _=>(@pv _ 1 _ _ (by rfl) (by decreasing_trivial) (by decide) (by decide))) (by intro _; rfl)) (@eY _) (cT rfl)) vj vi (cT rfl) gj) (@eY _) (cT rfl)) aq ao (cT rfl) gj))),?_⟩
 trivial
 obtain⟨Pc,hC⟩:∃ Pc:Addr→Nat→St→Hp→Prop,Pc=fun D i τ H'=>∃ z,H' D=some (.lst (((ws.take i).filter fun o=>decide (0<o∧o≤w')).map V.int))∧Same H H'∧τ=[some (.int w'),z]:=⟨_,rfl⟩
 refine Bh (ws.map V.int) hS _ Pc ?_ (fun D i τ H' hD h=>by rw[hC] at h; obtain⟨z,_,e,_⟩:=h; exact e) ?_ ?_
 ·intro D hD
  rw[hC]
  exact⟨_,fj,gI hD _,rfl⟩
 ·intro D i x τ H' R' hD hx h next
  rw[hC] at h
  obtain⟨z,d1,d2,rfl⟩:=h
  rw[List.getElem?_map] at hx
  obtain⟨o,ho,rfl⟩:=Option.map_eq_some_iff.mp hx
  have li:=(List.getElem?_eq_some_iff.mp ho).1
  have et:(ws.take (i+1)).filter (fun o=>decide (0<o∧o≤w'))=(ws.take i).filter (fun o=>decide (0<o∧o≤w'))++[o].filter (fun o=>decide (0<o∧o≤w')):=by
   rw[List.take_add_one,ho,List.filter_append]
   rfl
  have ll:((ws.take i).filter fun o=>decide (0<o∧o≤w')).length≤4:=by
   have:=List.length_filter_le (fun o:Int=>decide (0<o∧o≤w')) (ws.take i)
   rw[List.length_take] at this
   omega
  have no:¬(0<o∧o≤w')→R' [some (.int w'),some (.int o)] H':=fun hf=>by
   refine next _ _ ?_
   rw[hC]
   refine⟨_,?_,d2,rfl⟩
   rw[et,List.filter_cons_of_neg (by rw[decide_eq_false hf]; decide),List.filter_nil,List.append_nil]
   exact d1
  trivial
  by_cases h1:0<o
  ·rw[if_pos h1]
   by_cases h2:o≤w'
   ·rw[if_pos h2]
    refine⟨_,d1,by rw[List.length_map]; exact Nat.lt_of_lt_of_le (m:=64) (by exact Oz75 ll) (by decide),next _ _ ?_⟩
    rw[hC]
    refine⟨_,?_,pI d2 hD _,rfl⟩
    rw[fj,et,List.filter_cons_of_pos (by rw[decide_eq_true ⟨h1,h2⟩]),List.map_append]
    rfl
   ·rw[if_neg h2]
    exact no (by omega)
  ·rw[if_neg h1]
   exact no (by omega)
 ·intro D τ H' hD h
  rw[hC] at h
  obtain⟨z,d1,d2,rfl⟩:=h
  rw[List.length_map,List.take_of_length_le (Nat.le_refl _)] at d1
  refine⟨_,rfl,_,SqL.of d1,?_,fun l hl=>⟨_,_,fj,?_⟩⟩
  ·exact Nat.lt_of_le_of_lt (List.length_filter_le ..) (by omega)
  ·have:=(El ws w' ws.length (Nat.le_refl _)).2
   rw[List.take_of_length_le (Nat.le_refl _)] at this
   rw[this]
   exact q _ (d2.trans (gI hl _))
theorem Fo (F:Fun K "look_of" "look_of" dB f fd) (M:Mg mg) (lq:Cal P w K mg base CX0 "rank_in" 1 ["weights","weight"] (BY K)):FnOk P w K mg base CX0 2 f fd ["weights"] (zU K):=by
 refine F.ok ux (fun vs H Q E h=>?_) (fun cdv A outer s H vs Q E hr h=>?_)
 ·obtain⟨p,ws,rfl,_⟩:=h
  rfl
 obtain⟨p,ws,rfl,hS,l4,q⟩:=h
 refine⟨_,(@fS _ _ _ (@jm _ _ _ _ (@vC _ _ _ _ _ _ _ _ _ xZ nG M.m_tuple wL (@cg _ _ _ _ _ (@rZ _ _ _ _ _ _ _ _ _ _ _ _ _ _ _ rfl (CompOk.make (N':=["weights","weight"]) (ix:=[0]) (nl:=1) (by rfl) (fm1 rfl fm0) (by rfl) (by decide +kernel) rfl (by decide +kernel) rfl (And.intro ⟨rfl,.inl rfl,.inl rfl⟩ True.intro)) (@GM _ _ _ _ (@eF _ 0 _ _ rfl tK hV hX)) (fun _ _ _ _ _=>(@pF _ _ 1 _ (show List.Nodup (["weights","weight"]:List Str) from by decide) rfl (Or.inl rfl) (by first | exact .inl rfl | exact .inr rfl | assumption))) (fun _ _ _ _ _=>(@uU _)) (fun _ _ _ _ _=>(@gY _ _ _ _ _ _ _ _ _ _ _ lq hr rfl (@cg _ _ _ _ _ (@pv _ 0 _ _ (by rfl) (by decreasing_trivial) (by decide) (by decide)) (@cg _ _ _ _ _ (@pv _ 1 _ _ (by rfl) (by decreasing_trivial) (by decide) (by decide)) (@eY _) (cT rfl)) (cT rfl)) (by decide) ut (cT rfl) (iT rfl gj))) (by intro _; rfl)) (@eY _) (cT rfl)) dh dg (cT rfl) gj))),?_⟩
 trivial
 obtain⟨Pc,hC⟩:∃ Pc:Addr→Nat→St→Hp→Prop,Pc=fun D i τ H'=>∃ z,H' D=some (.lst (((MthL.look ws).take i).map V.int))∧Same H H'∧τ=[some (.ref p),z]:=⟨_,rfl⟩
 refine Bh (ws.map V.int) hS _ Pc ?_ (fun D i τ H' hD h=>by rw[hC] at h; obtain⟨z,_,e,_⟩:=h; exact e) ?_ ?_
 ·intro D hD
  rw[hC]
  exact⟨_,fj,gI hD _,rfl⟩
 ·intro D i x τ H' R' hD hx h next
  rw[hC] at h
  obtain⟨z,d1,d2,rfl⟩:=h
  rw[List.getElem?_map] at hx
  obtain⟨o,ho,rfl⟩:=Option.map_eq_some_iff.mp hx
  have li:=(List.getElem?_eq_some_iff.mp ho).1
  trivial
  refine⟨_,_,_,rfl,DY d2 hS,l4,fun H2 e2=>⟨_,e2 _ _ d1,?_,next _ _ ?_⟩⟩
  ·rw[List.length_map,List.length_take,MthL.look_len]
   exact Nat.lt_of_lt_of_le (m:=64) (by exact Oz53 l4) (by decide)
  ·rw[hC]
   refine⟨_,?_,pI (d2.trans e2) hD _,rfl⟩
   have el:(MthL.look ws)[i]?=some ((MthL.rk ws o:Nat):Int):=by
    unfold MthL.look
    rw[List.getElem?_map,ho]
    rfl
   rw[fj,List.take_add_one,el,List.map_append]
   rfl
 ·intro D τ H' hD h
  rw[hC] at h
  obtain⟨z,d1,d2,rfl⟩:=h
  rw[List.length_map,List.take_of_length_le (by rw[MthL.look_len]; exact Nat.le_refl _)] at d1
  refine⟨_,rfl,_,SqL.of d1,fun t ht=>?_⟩
  exact q _ _ (d2.trans (gI ht _)) (d2.free ht) fj
end
noncomputable def plN (ws:List Int):List Nat:=(List.range ws.length).filter fun i=>decide (ws.getD i 0≠0)
noncomputable def keyOf (ws:List Int):Int×List Int×List Int:=((plN ws).length,(plN ws).map fun i:Nat=>(i:Int),(plN ws).map fun i=>ws.getD i 0)
structure KeyAt (K:PySem.W.Frag) (H:Hp) (p:Addr) (k:Int×List Int×List Int):Prop where
 ex:∃ a b,SqT K H p [.int k.1,.ref a,.ref b]∧SqT K H a (k.2.1.map V.int)∧SqT K H b (k.2.2.map V.int)
theorem x6 {K:PySem.W.Frag} {H:Hp}:∀ ns:List Int,RepAll K H (ns.map V.int) (ns.map PyData.int)
 | []=>.nil
 | n::ns=>.cons (.int n) (x6 ns)
def zm (K:PySem.W.Frag):Sp:=fun vs H Q _=>∃ (p:Addr) (ws:List Int),vs=[.ref p]∧Sq K H p (ws.map V.int)∧ws.length≤4∧∀ (t:Addr) (H':Hp),Same H H'→KeyAt K H' t (keyOf ws)→Q (.ref t) H'
section
variable {P:Program} {w:World} {K:PySem.W.Frag} {mg:Str→Option Value} {base:Heap} {f:Addr} {fd:FuncData}
theorem Ht (F:Fun K "key_of" "key_of" cF f fd) (M:Mg mg):FnOk P w K mg base CX0 1 f fd ["weights"] (zm K):=by
 refine F.ok pW (fun vs H Q E h=>?_) (fun cdv A outer s H vs Q E hr h=>?_)
 ·obtain⟨p,ws,rfl,_⟩:=h
  rfl
 obtain⟨p,ws,rfl,hS,l4,q⟩:=h
 refine⟨_,(@fz _ _ _ _ _ (@ni _ _ 1 _ _ _ _ pW.nd rfl uy (@vC _ _ _ _ _ _ _ _ _ xZ jq M.m_tuple wL (@cg _ _ _ _ _ (@rZ _ _ _ _ _ _ _ _ _ _ _ _ _ _ _ rfl (CompOk.make (N':=["place","weight"]) (ix:=[]) (nl:=2) (by rfl) fm0 (by rfl) (by decide +kernel) rfl (by decide +kernel) rfl True.intro) (@BP _ _ _ _ _ (@yu _ _ _ _ _ _ _ _ fW M.m_enumerate (@cg _ _ _ _ _ (@eF _ 0 _ _ rfl nH hV hX) (@eY _) (cT rfl)) (by rfl)) (@yD _ _ _ _ _ _ _ _ fW M.m_enumerate (@cg _ _ _ _ _ (@eF _ 0 _ _ rfl nH hV hX) (@eY _) (cT rfl)) (by rfl))) (fun _ _ _ _ _=>(@zo _ K _ _ 2 _ _ rfl rfl (@t9 _ _ _ _ _ (@pF _ _ 0 _ (show List.Nodup (["place","weight"]:List Str) from by decide) rfl (Or.inl rfl) (by first | exact .inl rfl | exact .inr rfl | assumption)) (@t9 _ _ _ _ _ (@pF _ _ 1 _ (show List.Nodup (["place","weight"]:List Str) from by decide) rfl (Or.inl rfl) (by first | exact .inl rfl | exact .inr rfl | assumption)) (@xF _) (by rfl)) (by rfl)) (by rfl) (by rfl))) (fun _ _ _ _ _=>(@wk _ _ _ (@mL _ _ _ _ _ _ _ _ (@zx _) (@pv _ 1 _ _ (by rfl) (by decreasing_trivial) (by decide) (by decide)) (@ff _ _ _ _) (nj _)))) (fun _ _ _ _ _=>(@pv _ 0 _ _ (by rfl) (by decreasing_trivial) (by decide) (by decide))) (by intro _; rfl)) (@eY _) (cT rfl)) dh dg (cT rfl) gj) (mj rfl) (.inl rfl)) (@fS _ _ _ (@jm _ _ _ _ (@nP _ _ _ _ _ (@cg _ _ _ _ _ (@ki _ _ _ _ _ _ _ _ _ m9 sh M.m_len qZ (@cg _ _ _ _ _ (@eF _ 1 _ _ rfl jM eV eW) (@eY _) (cT rfl)) aq ao (cT rfl) gj) (@cg _ _ _ _ _ (@eF _ 1 _ _ rfl jM eV eW) (@cg _ _ _ _ _ (@vC _ _ _ _ _ _ _ _ _ xZ jq M.m_tuple wL (@cg _ _ _ _ _ (@rZ _ _ _ _ _ _ _ _ _ _ _ _ _ _ _ rfl (CompOk.make (N':=["weights","place"]) (ix:=[0]) (nl:=1) (by rfl) (fm1 rfl fm0) (by rfl) (by decide +kernel) rfl (by decide +kernel) rfl (And.intro ⟨rfl,.inl rfl,.inl rfl⟩ True.intro)) (@Gi _ _ _ _ (@eF _ 1 _ _ rfl jM eV eW)) (fun _ _ _ _ _=>(@pF _ _ 1 _ (show List.Nodup (["weights","place"]:List Str) from by decide) rfl (Or.inl rfl) (by first | exact .inl rfl | exact .inr rfl | assumption))) (fun _ _ _ _ _=>(@uU _)) (fun _ _ _ _ _=>(@kZ _ _ _ _ _ _ _ (Jy (K:=K) rfl) (@pv _ 0 _ _ (by rfl) (by decreasing_trivial) (by decide) (by decide)) (@pv _ 1 _ _ (by rfl) (by decreasing_trivial) (by decide) (by decide)) (fun _ _=>rfl))) (by intro _; rfl)) (@eY _) (cT rfl)) dh dg (cT rfl) gj) (@eY _) (cT rfl)) (cT rfl)) (cT rfl)))))),?_⟩
 trivial
 obtain⟨Pc,hC⟩:∃ Pc:Addr→Nat→St→Hp→Prop,Pc=fun D i τ H'=>∃ y z,H' D=some (.lst (((List.range i).filter fun j=>decide (ws.getD j 0≠0)).map fun j:Nat=>V.int (j:Int)))∧Same H H'∧τ=[y,z]:=⟨_,rfl⟩
 refine wW (ws.map V.int) hS _ Pc ?_ (fun D i τ H' hD h=>by rw[hC] at h; obtain⟨y,z,_,e,_⟩:=h; exact e) ?_ ?_
 ·intro D hD
  rw[hC]
  exact⟨_,_,fj,gI hD _,rfl⟩
 ·intro D i x T τ H' R' hD hx h hT next
  rw[hC] at h
  obtain⟨y,z,d1,d2,rfl⟩:=h
  rw[List.getElem?_map] at hx
  obtain⟨o,ho,rfl⟩:=Option.map_eq_some_iff.mp hx
  have li:=(List.getElem?_eq_some_iff.mp ho).1
  have eo:ws.getD i 0=o:=by rw[List.getD,ho]; rfl
  obtain⟨H2,g2,S2,T2⟩:=oR (K:=K) hT [.int i,.int o]
  rw[← g2]
  clear g2
  replace d1:=S2 _ _ d1
  replace d2:=d2.trans S2
  have ep:(List.range (i+1)).filter (fun j=>decide (ws.getD j 0≠0))=(List.range i).filter (fun j=>decide (ws.getD j 0≠0))++[i].filter (fun j=>decide (ws.getD j 0≠0)):=by
   rw[List.range_succ,List.filter_append]
  have lp:((List.range i).filter fun j=>decide (ws.getD j 0≠0)).length≤4:=by
   have:=List.length_filter_le (fun j=>decide (ws.getD j 0≠0)) (List.range i)
   rw[List.length_range] at this
   omega
  trivial
  refine⟨_,T2,rfl,?_⟩
  trivial
  by_cases hz:o=0
  ·rw[if_pos hz]
   refine next _ _ ?_
   rw[hC]
   refine⟨_,_,?_,d2,rfl⟩
   rw[ep,List.filter_cons_of_neg (by rw[eo]; simp [hz]),List.filter_nil,List.append_nil]
   exact d1
  ·rw[if_neg hz]
   refine⟨_,d1,by rw[List.length_map]; exact Nat.lt_of_lt_of_le (m:=64) (by exact Oz75 lp) (by decide),next _ _ ?_⟩
   rw[hC]
   refine⟨_,_,?_,pI d2 hD _,rfl⟩
   rw[fj,ep,List.filter_cons_of_pos (by rw[eo]; simp [hz]),List.map_append]
   rfl
 ·intro D τ H' hD h
  rw[hC] at h
  obtain⟨y,z,d1,d2,rfl⟩:=h
  rw[List.length_map] at d1
  have ed:((List.range ws.length).filter fun j=>decide (ws.getD j 0≠0))=plN ws:=rfl
  rw[ed] at d1
  have em:((plN ws).map fun j:Nat=>V.int (j:Int))=((plN ws).map fun i:Nat=>(i:Int)).map V.int:=by rw[List.map_map]; rfl
  rw[em] at d1
  have lp:(plN ws).length≤4:=by
   have:=List.length_filter_le (fun j=>decide (ws.getD j 0≠0)) (List.range ws.length)
   rw[List.length_range] at this
   unfold plN
   omega
  refine⟨_,rfl,_,SqL.of d1,fun t ht=>?_⟩
  obtain⟨H2,g2,S2,T2⟩:=oR (K:=K) ht (((plN ws).map fun i:Nat=>(i:Int)).map V.int)
  rw[← g2]
  clear g2
  have S02:=d2.trans S2
  refine⟨_,.inr T2,⟨_,T2⟩,fun D2 hD2=>?_⟩
  obtain⟨Pd,hD'⟩:∃ Pd:Nat→St→Hp→Prop,Pd=fun i τ H'=>∃ z,H' D2=some (.lst ((((plN ws).take i).map fun i=>ws.getD i 0).map V.int))∧Same H2 H'∧τ=[some (.ref p),z]:=⟨_,rfl⟩
  refine yX (((plN ws).map fun i:Nat=>(i:Int)).map V.int) Pd ?_ (fun i τ H' _ h=>by rw[hD'] at h; obtain⟨z,_,e,_⟩:=h; exact Same.tup e T2) ?_ ?_
  ·rw[hD']
   exact⟨_,fj,gI hD2 _,rfl⟩
  ·intro i x τ H3 R' hx h next
   rw[hD'] at h
   obtain⟨z,c1,c2,rfl⟩:=h
   rw[List.getElem?_map,List.getElem?_map] at hx
   cases hpi:(plN ws)[i]? with
   | none=>rw[hpi] at hx; cases hx
   | some n =>
    rw[hpi] at hx
    cases hx
    have hn:n<ws.length:=by
     have:=List.mem_of_getElem? hpi
     unfold plN at this
     exact List.mem_range.mp (List.mem_filter.mp this).1
    have li:=(List.getElem?_eq_some_iff.mp hpi).1
    have atn:atI (ws.map V.int) (n:Int)=some (.int (ws.getD n 0)):=by
     have:=zk (ns:=ws) (k:=(n:Int)) (by exact Oz30) (by exact Oz38 hn)
     rwa [show ((n:Int)).toNat=n by exact Oz42] at this
    trivial
    have fin:∃ ys,H3 D2=some (.lst ys)∧ys.length<sizeLine∧R' [some (.ref p),some (.int n)] (upd H3 D2 (.lst (ys++[.int (ws.getD n 0)]))):=by
     refine⟨_,c1,?_,next _ _ ?_⟩
     ·rw[List.length_map,List.length_map,List.length_take]
      exact Nat.lt_of_lt_of_le (m:=64) (by exact Oz53 lp) (by decide)
     ·rw[hD']
      refine⟨_,?_,pI c2 hD2 _,rfl⟩
      rw[fj,List.take_add_one,hpi,List.map_append,List.map_append]
      rfl
    rcases DY (S02.trans c2) hS with hq | hq
    ·exact .inl ⟨_,hq,_,atn,fin⟩
    ·exact .inr ⟨_,hq,_,atn,fin⟩
  ·intro τ H3 h
   rw[hD'] at h
   obtain⟨z,c1,c2,rfl⟩:=h
   rw[List.length_map,List.length_map,List.take_of_length_le (Nat.le_refl _)] at c1
   refine⟨_,rfl,_,SqL.of c1,fun u hu=>⟨by decide,fun v hv=>?_⟩⟩
   obtain⟨H4,g4,S4,T4⟩:=oR (K:=K) hu (((plN ws).map fun i=>ws.getD i 0).map V.int)
   rw[← g4] at hv ⊢
   clear g4
   refine q _ _ (S02.trans (c2.trans (S4.trans (gI hv _)))) ⟨_,_,SqT.of ?_,Same.tup (c2.trans (S4.trans (gI hv _))) T2,Same.tup (gI hv _) T4⟩
   rw[fj,List.length_map,List.length_map]
   rfl
end
def Tps (K:PySem.W.Frag) (H:Hp) (vs:List V) (rs:List (List Int)):Prop:=Paired (fun v r=>∃ p,v=V.ref p∧SqT K H p (r.map V.int)) vs rs
noncomputable def vK (n:Nat):Nat→List (List Int)
 | 0=>[[]]
 | k+1=>(vK n k).flatMap fun r=>(List.range (n+1)).map fun i:Nat=>r++[(i:Int)]
theorem Tps.same {K:PySem.W.Frag} {H H':Hp} (e:Same H H'):∀ {vs:List V} {rs:List (List Int)},Tps K H vs rs→Tps K H' vs rs
 | _,_,.nil=>.nil
 | _,_,.cons ⟨p,h1,h2⟩ r=>.cons ⟨p,h1,Same.tup e h2⟩ (Tps.same e r)
theorem Tps.app {K:PySem.W.Frag} {H:Hp} {vs':List V} {rs':List (List Int)} (h':Tps K H vs' rs'):∀ {vs:List V} {rs:List (List Int)},Tps K H vs rs→Tps K H (vs++vs') (rs++rs')
 | _,_,.nil=>h'
 | _,_,.cons h r=>.cons h (Tps.app h' r)
theorem Tps.len {K:PySem.W.Frag} {H:Hp}:∀ {vs:List V} {rs:List (List Int)},Tps K H vs rs→vs.length=rs.length
 | _,_,.nil=>rfl
 | _,_,.cons _ r=>by rw[List.length_cons,List.length_cons,Tps.len r]
theorem Tps.get {K:PySem.W.Frag} {H:Hp}:∀ {vs:List V} {rs:List (List Int)} {i:Nat} {v:V},Tps K H vs rs→vs[i]?=some v→∃ r p,rs[i]?=some r∧v=.ref p∧SqT K H p (r.map V.int)
 | _,_,_,_,.nil,h=>by cases h
 | _,_,0,_,.cons ⟨p,h1,h2⟩ _,h=>by
  cases h
  exact⟨_,p,rfl,h1,h2⟩
 | _,_,i+1,_,.cons _ r,h=>by
  rw[List.getElem?_cons_succ] at h
  obtain⟨r',p,a,b,c⟩:=Tps.get r h
  exact⟨r',p,by rw[List.getElem?_cons_succ]; exact a,b,c⟩
theorem xE {K:PySem.W.Frag} {H:Hp} {D p:Addr} {us:List V} {o:HO} {xs:List V} (hD:H D=some (.lst us)) (h:SqT K H p xs):SqT K (upd H D o) p xs:=by
 rcases h with (h | ⟨o',h⟩) | h
 ·exact .inl (.inl (by rw[gS (fun z=>by rw[z,hD] at h; cases h)]; exact h))
 ·exact .inl (.inr ⟨o',by rw[gS (fun z=>by rw[z,hD] at h; cases h)]; exact h⟩)
 ·exact .inr h
theorem Tps.upd {K:PySem.W.Frag} {H:Hp} {D:Addr} {us:List V} {o:HO} (hD:H D=some (.lst us)):∀ {vs:List V} {rs:List (List Int)},Tps K H vs rs→Tps K (L2.upd H D o) vs rs
 | _,_,.nil=>.nil
 | _,_,.cons ⟨p,h1,h2⟩ r=>.cons ⟨p,h1,xE hD h2⟩ (Tps.upd hD r)
noncomputable def grow (n:Nat) (r:List Int):List (List Int):=(List.range (n+1)).map fun i:Nat=>r++[(i:Int)]
theorem yF (n k:Nat):vK n (k+1)=(vK n k).flatMap (grow n):=rfl
theorem zZ (n:Nat):∀ l:List (List Int),(l.flatMap (grow n)).length=l.length * (n+1)
 | []=>by simp
 | r::l=>by
  rw[List.flatMap_cons,List.length_append,zZ n l,List.length_cons,Nat.succ_mul]
  unfold grow
  rw[List.length_map,List.length_range,Nat.add_comm]
theorem yR (n:Nat):∀ k,(vK n k).length=(n+1) ^ k
 | 0=>rfl
 | k+1=>by rw[yF,zZ,yR n k,Nat.pow_succ]
theorem zg (n:Nat):∀ k,∀ r∈vK n k,r.length=k
 | 0,r,h=>by
  rw[List.mem_singleton.mp h]
  rfl
 | k+1,r,h=>by
  rw[yF] at h
  obtain⟨r',h1,h2⟩:=List.mem_flatMap.mp h
  obtain⟨i,_,rfl⟩:=List.mem_map.mp h2
  rw[List.length_append,zg n k r' h1]
  rfl
theorem DT {n k:Nat} (hn:n≤4) (hk:k≤3):(vK n k).length≤125:=by
 rw[yR]
 exact Nat.le_trans (Nat.pow_le_pow_left (show n+1≤5 by exact Oz35 hn) k) (Nat.pow_le_pow_right (n:=5) (by decide) hk)
def zX (K:PySem.W.Frag):Sp:=fun vs H Q _=>∃ (n:Nat),vs=[.int n]∧1≤n∧n≤4∧∀ (l:Addr) (us:List V) (H':Hp),Same H H'→H l=none→H' l=some (.lst us)→Tps K H' us (vK n n)→Q (.ref l) H'
section
variable {P:Program} {w:World} {K:PySem.W.Frag} {mg:Str→Option Value} {base:Heap} {f:Addr} {fd:FuncData}
theorem EN (F:Fun K "rows_of" "rows_of" bH f fd) (M:Mg mg):FnOk P w K mg base CX0 1 f fd ["many"] (zX K):=by
 refine F.ok d6 (fun vs H Q E h=>?_) (fun cdv A outer s H vs Q E hr h=>?_)
 ·obtain⟨n,rfl,_⟩:=h
  rfl
 obtain⟨n,rfl,n1,n4,q⟩:=h
 refine⟨_,(@fz _ _ _ _ _ (@ni _ _ 1 _ _ _ _ d6.nd rfl mF (@vY _ _ _ _ (@cg _ _ _ _ _ (@nP _ _ _ _ _ (@eY _)) (@eY _) (cT rfl))) (mj rfl) (.inl rfl)) (@fz _ _ _ _ _ (@vZ _ _ _ _ _ _ _ _ PassesOwn.never rfl (@vP _ _ _ _ _ _ iX M.m_range (@cg _ _ _ _ _ (@eF _ 0 _ _ rfl mD oP oQ) (@eY _) (cT rfl)) (star1' rfl)) (@pF _ _ 2 _ d6.nd rfl tL (.inl rfl)) (@fz _ _ _ _ _ (@ni _ _ 3 _ _ _ _ d6.nd rfl tM (@vY _ _ _ _ (@eY _)) (mj rfl) (.inl rfl)) (@fz _ _ _ _ _ (@vZ _ _ _ _ _ _ _ _ PassesOwn.never rfl (@uo _ _ _ _ (@eF _ 1 _ _ rfl mE im io)) (@pF _ _ 4 _ d6.nd rfl tN (.inl rfl)) (@fS _ _ _ (@wH _ _ _ _ (@wD _ _ _ _ _ _ _ _ _ _ _ _ PySem.F.plainAttrs_list PySem.F.slot_list_extend PySem.F.type_list_extend Gh (@eF _ 3 _ _ rfl mG pS pT) (@cg _ _ _ _ _ (@rZ _ _ _ _ _ _ _ _ _ _ _ _ _ _ _ rfl (CompOk.make (N':=["row","number"]) (ix:=[4]) (nl:=1) (by rfl) (fm1 rfl fm0) (by rfl) (by decide +kernel) rfl (by decide +kernel) rfl (And.intro ⟨rfl,.inl rfl,.inl rfl⟩ True.intro)) (@vP _ _ _ _ _ _ iX M.m_range (@cg _ _ _ _ _ (@kT _ _ _ _ _ _ _ _ (@vv _) (@eF _ 0 _ _ rfl mD oP oQ) (@ff _ _ _ _)) (@eY _) (cT rfl)) (star1' rfl)) (fun _ _ _ _ _=>(@pF _ _ 1 _ (show List.Nodup (["row","number"]:List Str) from by decide) rfl (Or.inl rfl) (by first | exact .inl rfl | exact .inr rfl | assumption))) (fun _ _ _ _ _=>(@uU _)) (fun _ _ _ _ _=>(@kT _ _ _ _ _ _ _ _ (Gv (K:=K) rfl) (@pv _ 0 _ _ (by rfl) (by decreasing_trivial) (by decide) (by decide)) (@nP _ _ _ _ _ (@cg _ _ _ _ _ (@pv _ 1 _ _ (by rfl) (by decreasing_trivial) (by decide) (by decide)) (@eY _) (cT rfl))))) (by intro _; rfl)) (@eY _) (cT rfl)) (by rfl) (by rfl) (by rfl) (by rfl) (by rfl)) (mj rfl))) (by intro _; rfl)) (@fS _ _ _ (@ni _ _ 1 _ _ _ _ d6.nd rfl mF (@eF _ 3 _ _ rfl mG pS pT) (mj rfl) (.inl rfl))))) (by intro _; rfl)) (@fS _ _ _ (@jm _ _ _ _ (@eF _ 1 _ _ rfl mE im io))))),?_⟩
 trivial
 refine⟨by decide,fun p hp=>⟨by decide,fun l hl=>⟨by exact Oz63,by omega,?_⟩⟩⟩
 have hlp:l≠p:=fun z=>by rw[z,fj] at hl; cases hl
 have hl0:H l=none:=by rw[gS hlp] at hl; exact hl
 obtain⟨Pv,hP⟩:∃ Pv:Nat→St→Hp→Prop,Pv=fun i σ H'=>∃ (g:Addr) (us:List V) (x y z:Option V),H g=none∧H' g=some (.lst us)∧Tps K H' us (vK n i)∧Same H H'∧σ=[some (.int n),some (.ref g),x,y,z]:=⟨_,rfl⟩
 refine wA Pv ?_ ?_ ?_
 ·rw[hP]
  exact⟨l,_,_,_,_,hl0,fj,.cons ⟨p,rfl,SqT.of (by rw[gS (Ne.symm hlp),fj]; rfl)⟩ .nil,(gI hp _).trans (gI hl _),rfl⟩
 ·intro i σ H' hi h
  rw[hP] at h
  obtain⟨g,us,x,y,z,hg,d1,T,e,rfl⟩:=h
  have hi':i<n:=by omega
  trivial
  refine⟨by decide,fun c hc=>?_⟩
  have hcH:H c=none:=e.free hc
  obtain⟨Pw,hW⟩:∃ Pw:Nat→St→Hp→Prop,Pw=fun j σ H2=>∃ (ws:List V) (z:Option V),H2 c=some (.lst ws)∧Tps K H2 ws (((vK n i).take j).flatMap (grow n))∧Same H' H2∧σ=[some (.int n),some (.ref g),some (.int (0+(i:Int))),some (.ref c),z]:=⟨_,rfl⟩
  refine⟨⟨us,SqL.of (gI hc _ _ _ d1)⟩,wX (K:=K) us Pw ?_ (fun j σ H2 _ h=>by rw[hW] at h; obtain⟨_,_,_,_,e2,_⟩:=h; exact SqL.of (e2 _ _ d1)) ?_ ?_⟩
  ·rw[hW]
   exact⟨[],_,fj,by rw[List.take_zero]; exact .nil,gI hc _,rfl⟩
  ·intro j v σ H2 hj h
   rw[hW] at h
   obtain⟨ws,z',d2,T2,e2,rfl⟩:=h
   obtain⟨r,pr,hr',rfl,hT⟩:=T.get hj
   trivial
   refine⟨.inl ⟨rfl,_,SqL.of d2⟩,by omega,by omega,fun D hD=>?_⟩
   have hDH:H' D=none:=e2.free hD
   have hT2:=Same.tup e2 hT
   have lr:r.length=i:=zg n i r (List.mem_iff_getElem?.mpr ⟨_,hr'⟩)
   obtain⟨Pc,hC⟩:∃ Pc:Nat→St→Hp→Prop,Pc=fun k τ H3=>∃ (ys:List V) (z:Option V),H3 D=some (.lst ys)∧Tps K H3 ys ((List.range k).map fun t:Nat=>r++[(t:Int)])∧Same H2 H3∧τ=[some (.ref pr),z]:=⟨_,rfl⟩
   refine zF Pc ?_ ?_ ?_
   ·rw[hC]
    exact⟨[],_,fj,.nil,gI hD _,rfl⟩
   ·intro k τ H3 R' hk h next
    rw[hC] at h
    obtain⟨ys,z3,d3,T3,e3,rfl⟩:=h
    have ly:ys.length=k:=by rw[T3.len,List.length_map,List.length_range]
    trivial
    refine⟨by decide,fun b hb=>⟨_,_,_,_,rfl,rfl,Same.tup ((e3).trans (gI hb _)) hT2,SqT.of fj,?_,fun p' H4 e4 hp'=>?_⟩⟩
    ·rw[List.length_map,lr]
     exact Nat.le_trans (m:=64) (by simp; omega) (by decide)
    ·have e34:Same H3 H4:=(gI hb _).trans e4
     refine⟨_,e34 _ _ d3,Nat.lt_of_lt_of_le (m:=64) (by omega) (by decide),next _ _ ?_⟩
     rw[hC]
     refine⟨ys++[.ref p'],_,fj,?_,pI (e3.trans e34) hD _,rfl⟩
     rw[List.range_succ,List.map_append]
     refine Tps.app (.cons ⟨p',rfl,xE (e34 _ _ d3) ?_⟩ .nil) (Tps.upd (e34 _ _ d3) (T3.same e34))
     rw[List.map_append]
     rw[show (0+(k:Int))=(k:Int) by exact Oz82] at hp'
     exact hp'
   ·intro τ H3 h
    rw[hC] at h
    obtain⟨ys,z3,d3,T3,e3,rfl⟩:=h
    have ly:ys.length=n+1:=by rw[T3.len,List.length_map,List.length_range]; exact Oz33
    have lw:ws.length≤625:=by
     rw[T2.len,zZ]
     have a1:=DT n4 (show i≤3 by omega)
     have a2:((vK n i).take j).length≤125:=by rw[List.length_take]; omega
     exact Nat.le_trans (Nat.mul_le_mul a2 (show n+1≤5 by exact Oz35 n4)) (by decide)
    have cD:c≠D:=kB d2 hD
    refine⟨c,D,ws,ys,rfl,rfl,e3 _ _ d2,d3,Nat.le_trans (m:=1000) (by omega) (by decide),?_⟩
    rw[hW]
    refine⟨_,_,fj,?_,pI (e2.trans e3) hc _,rfl⟩
    rw[List.take_add_one,hr',List.flatMap_append]
    refine Tps.app ?_ (Tps.upd (e3 _ _ d2) (T2.same e3))
    rw[show ((n:Int)+1).toNat=n+1 by exact Oz33] at T3
    show Tps K _ ys ([r].flatMap (grow n))
    rw[List.flatMap_singleton]
    exact Tps.upd (e3 _ _ d2) T3
  ·intro σ H2 h
   rw[hW] at h
   obtain⟨ws,z',d2,T2,e2,rfl⟩:=h
   rw[T.len,List.take_length,← yF] at T2
   trivial
   rw[hP]
   exact⟨c,ws,_,_,_,hcH,d2,T2,e.trans e2,rfl⟩
 ·intro σ H' h
  rw[hP] at h
  obtain⟨g,us,x,y,z,hg,d1,T,e,rfl⟩:=h
  rw[show (n:Int).toNat=n by exact Oz42] at T
  trivial
  exact q _ _ _ e hg d1 T
end
noncomputable def wB (r:List Int):Bool:=r.any (fun n=>decide (n≠0)) && decide (MthL.look r=r)
noncomputable def IP (n:Nat):List (List Int):=(vK n n).filter wB
noncomputable def LR:Nat→List (List Int)
 | 1=>[[1]]
 | 2=>[[0,1],[1,0],[1,1],[1,2],[2,1]]
 | 3=>[[0,0,1],[0,1,0],[0,1,1],[0,1,2],[0,2,1],[1,0,0],[1,0,1],[1,0,2],[1,1,0],[1,1,1],[1,1,2],[1,2,0],[1,2,1],[1,2,2],[1,2,3],[1,3,2],[2,0,1],[2,1,0],[2,1,1],[2,1,2],[2,1,3],[2,2,1],[2,3,1],[3,1,2],[3,2,1]]
 | _=>[[0,0,0,1],[0,0,1,0],[0,0,1,1],[0,0,1,2],[0,0,2,1],[0,1,0,0],[0,1,0,1],[0,1,0,2],[0,1,1,0],[0,1,1,1],[0,1,1,2],[0,1,2,0],[0,1,2,1],[0,1,2,2],[0,1,2,3],[0,1,3,2],[0,2,0,1],[0,2,1,0],[0,2,1,1],[0,2,1,2],[0,2,1,3],[0,2,2,1],[0,2,3,1],[0,3,1,2],[0,3,2,1],[1,0,0,0],[1,0,0,1],[1,0,0,2],[1,0,1,0],[1,0,1,1],[1,0,1,2],[1,0,2,0],[1,0,2,1],[1,0,2,2],[1,0,2,3],[1,0,3,2],[1,1,0,0],[1,1,0,1],[1,1,0,2],[1,1,1,0],[1,1,1,1],[1,1,1,2],[1,1,2,0],[1,1,2,1],[1,1,2,2],[1,1,2,3],[1,1,3,2],[1,2,0,0],[1,2,0,1],[1,2,0,2],[1,2,0,3],[1,2,1,0],[1,2,1,1],[1,2,1,2],[1,2,1,3],[1,2,2,0],[1,2,2,1],[1,2,2,2],[1,2,2,3],[1,2,3,0],[1,2,3,1],[1,2,3,2],[1,2,3,3],[1,2,3,4],[1,2,4,3],[1,3,0,2],[1,3,1,2],[1,3,2,0],[1,3,2,1],[1,3,2,2],[1,3,2,3],[1,3,2,4],[1,3,3,2],[1,3,4,2],[1,4,2,3],[1,4,3,2],[2,0,0,1],[2,0,1,0],[2,0,1,1],[2,0,1,2],[2,0,1,3],[2,0,2,1],[2,0,3,1],[2,1,0,0],[2,1,0,1],[2,1,0,2],[2,1,0,3],[2,1,1,0],[2,1,1,1],[2,1,1,2],[2,1,1,3],[2,1,2,0],[2,1,2,1],[2,1,2,2],[2,1,2,3],[2,1,3,0],[2,1,3,1],[2,1,3,2],[2,1,3,3],[2,1,3,4],[2,1,4,3],[2,2,0,1],[2,2,1,0],[2,2,1,1],[2,2,1,2],[2,2,1,3],[2,2,2,1],[2,2,3,1],[2,3,0,1],[2,3,1,0],[2,3,1,1],[2,3,1,2],[2,3,1,3],[2,3,1,4],[2,3,2,1],[2,3,3,1],[2,3,4,1],[2,4,1,3],[2,4,3,1],[3,0,1,2],[3,0,2,1],[3,1,0,2],[3,1,1,2],[3,1,2,0],[3,1,2,1],[3,1,2,2],[3,1,2,3],[3,1,2,4],[3,1,3,2],[3,1,4,2],[3,2,0,1],[3,2,1,0],[3,2,1,1],[3,2,1,2],[3,2,1,3],[3,2,1,4],[3,2,2,1],[3,2,3,1],[3,2,4,1],[3,3,1,2],[3,3,2,1],[3,4,1,2],[3,4,2,1],[4,1,2,3],[4,1,3,2],[4,2,1,3],[4,2,3,1],[4,3,1,2],[4,3,2,1]]
noncomputable def wJ:Nat→List Nat
 | 1=>[0]
 | 2=>[1,0,2,3,4]
 | 3=>[5,1,0,8,11,17,6,7,16,2,3,4,9,10,12,13,14,15,18,19,20,21,22,23,24]
 | _=>[25,5,1,0,36,47,83,28,31,77,26,27,76,8,11,17,6,7,16,2,3,4,39,42,51,55,59,67,87,91,95,102,109,123,131,37,38,48,49,50,65,84,85,86,101,108,121,130,29,30,32,33,34,35,78,79,80,81,82,119,120,9,10,12,13,14,15,18,19,20,21,22,23,24,40,41,43,44,45,46,52,53,54,56,57,58,60,61,62,63,64,66,68,69,70,71,72,73,74,75,88,89,90,92,93,94,96,97,98,99,100,103,104,105,106,107,110,111,112,113,114,115,116,117,118,122,124,125,126,127,128,129,132,133,134,135,136,137,138,139,140,141,142,143,144,145,146,147,148]
noncomputable def LK (n:Nat):List (List Int):=(wJ n).map fun i=>(LR n).getD i []
noncomputable def AK (n i j:Nat):Bool:=HT.key_lt (keyOf ((LR n).getD i [])) (keyOf ((LR n).getD j []))
noncomputable def Kg {X:Srt.SX} (n:Nat) (out:List Nat):Bool:=match (Srt.FM.runs (X:=X)).p ⟨List.range n,[],7⟩ with
 | some (_,m)=>m.q == out
 | none=>false
theorem z6 {cmp:Nat→Nat→Bool} {n:Nat} {out:List Nat} (h:∀ prog w A E s κ item (hlt:∀ (i j:Nat),i<n→j<n→∀ (Q:Bool→Shared→Prop) (E':Value→Shared→Prop),Q (cmp i j) s→wpAny (model prog w) A (PyProof.Rows.keyLt' κ (item i).1 (item j).1) Q E' s),Kg (X:=⟨prog,w,A,E,s,κ,item,cmp,n,hlt⟩) n out=true):Srt.SortsTo cmp n out:=by
 intro X hc hn
 obtain⟨prog,w,A,E,s,κ,item,cmp',n',hlt⟩:=X
 replace hc:cmp'=cmp:=hc
 replace hn:n'=n:=hn
 subst hc hn
 have:=h prog w A E s κ item hlt
 unfold Kg at this
 split at this
 ·rename_i u m e
  exact⟨m,e,by simpa using this⟩
 ·cases this
theorem KJ:Srt.SortsTo (AK 2) 5 (wJ 2):=z6 fun _ _ _ _ _ _ _ _=>by kernel_rfl
theorem Kq:Srt.SortsTo (AK 3) 25 (wJ 3):=z6 fun _ _ _ _ _ _ _ _=>by kernel_rfl
theorem Kp:Srt.SortsTo (AK 4) 149 (wJ 4):=z6 fun _ _ _ _ _ _ _ _=>by kernel_rfl
theorem four {p:Nat→Prop} (h1:p 1) (h2:p 2) (h3:p 3) (h4:p 4) {n:Nat} (a:1≤n) (b:n≤4):p n:=by
 have:n=1∨n=2∨n=3∨n=4:=by omega
 rcases this with rfl | rfl | rfl | rfl <;> assumption
theorem Jl {n:Nat} (a:1≤n) (b:n≤4):CK (AK n) (LR n).length (wJ n) :=
 four (p:=fun n=>CK (AK n) (LR n).length (wJ n)) (.inl ⟨by decide,by decide⟩) (.inr ⟨by decide,KJ⟩) (.inr ⟨by decide,Kq⟩) (.inr ⟨by decide,Kp⟩) a b
theorem HP {n:Nat} (a:1≤n) (b:n≤4):IP n=LR n:=four (p:=fun n=>IP n=LR n) (by decide +kernel) (by decide +kernel) (by decide +kernel) (by decide +kernel) a b
theorem zL {n:Nat} (a:1≤n) (b:n≤4):(wJ n).length≤1000∧(LR n).length≤1000:=four (p:=fun n=>(wJ n).length≤1000∧(LR n).length≤1000) (by decide +kernel) (by decide +kernel) (by decide +kernel) (by decide +kernel) a b
theorem JG {n:Nat} (a:1≤n) (b:n≤4):∀ i∈wJ n,i<(LR n).length:=four (p:=fun n=>∀ i∈wJ n,i<(LR n).length) (by decide +kernel) (by decide +kernel) (by decide +kernel) (by decide +kernel) a b
theorem J6 {n:Nat} (a:1≤n) (b:n≤4):∀ r∈LR n,r.length≤4:=four (p:=fun n=>∀ r∈LR n,r.length≤4) (by decide +kernel) (by decide +kernel) (by decide +kernel) (by decide +kernel) a b
def xA (K:PySem.W.Frag):Sp:=fun vs H Q _=>∃ (n:Nat),vs=[.int n]∧1≤n∧n≤4∧∀ (l:Addr) (us:List V) (H':Hp),Same H H'→H l=none→H' l=some (.lst us)→Tps K H' us (LK n)→Q (.ref l) H'
def Keys (K:PySem.W.Frag) (H:Hp) (ks:List V) (zs:List K3):Prop:=Paired (fun v z=>vU K H v z) ks zs
theorem Keys.get {K:PySem.W.Frag} {H:Hp}:∀ {ks:List V} {zs:List K3} {i:Nat} {v:V},Keys K H ks zs→ks[i]?=some v→∃ z,zs[i]?=some z∧vU K H v z
 | _,_,_,_,.nil,h=>by cases h
 | _,_,0,_,.cons h1 _,h=>by
  cases h
  exact⟨_,rfl,h1⟩
 | _,_,i+1,_,.cons _ r,h=>by
  rw[List.getElem?_cons_succ] at h
  obtain⟨z,a,b⟩:=Keys.get r h
  exact⟨z,by rw[List.getElem?_cons_succ]; exact a,b⟩
theorem Keys.app {K:PySem.W.Frag} {H:Hp} {v:V} {z:K3} (h':vU K H v z):∀ {ks:List V} {zs:List K3},Keys K H ks zs→Keys K H (ks++[v]) (zs++[z])
 | _,_,.nil=>.cons h' .nil
 | _,_,.cons h r=>.cons h (Keys.app h' r)
theorem Ho {K:PySem.W.Frag} {H H':Hp} {kS:Addr} {us:List V} {o:HO} {v:V} {z:K3} (e:Same H H') (hk:H' kS=some (.lst us)) (h:vU K H v z):vU K (upd H' kS o) v z:=by
 obtain⟨p,a,b,rfl,h1,h2,h3⟩:=h
 exact⟨p,a,b,rfl,xE hk (Same.tup e h1),xE hk (Same.tup e h2),xE hk (Same.tup e h3)⟩
theorem Keys.go {K:PySem.W.Frag} {H H':Hp} {kS:Addr} {us:List V} {o:HO} (e:Same H H') (hk:H' kS=some (.lst us)):∀ {ks:List V} {zs:List K3},Keys K H ks zs→Keys K (upd H' kS o) ks zs
 | _,_,.nil=>.nil
 | _,_,.cons h r=>.cons (Ho e hk h) (Keys.go e hk r)
theorem D5 {K:PySem.W.Frag} {kS:Addr} {Fin:List V→Hp→Prop}:∀ (vs:List V) (rs:List (List Int)) (ks:List V) (zs:List K3) (H:Hp),Tps K H vs rs→(∀ r∈rs,r.length≤4)→H kS=some (.lst ks)→Keys K H ks zs →
  (∀ ks' H',(∀ b u,b≠kS→H b=some u→H' b=some u)→H' kS=some (.lst ks')→Keys K H' ks' (zs++rs.map keyOf)→Fin ks' H')→yk (zm K) kS Fin vs ks H
 | _,_,ks,zs,H,.nil,_,hk,hK,h=>h ks H (fun _ _ _ q=>q) hk (by rw[List.map_nil,List.append_nil]; exact hK)
 | _,_,ks,zs,H,.cons (b:=r) (l₂:=rs) ⟨p,e1,hT⟩ T,h4,hk,hK,h=>by
  subst e1
  refine⟨p,r,rfl,.inr hT,h4 r List.mem_cons_self,fun t H' e kt=>⟨e _ _ hk,?_⟩⟩
  have hk':=e _ _ hk
  obtain⟨a,b,k1,k2,k3⟩:=kt.ex
  have ik:vU K H' (.ref t) (keyOf r):=⟨t,a,b,rfl,k1,k2,k3⟩
  refine D5 _ rs (ks++[.ref t]) (zs++[keyOf r]) _ (Tps.upd hk' (Tps.same e T)) (fun r' hr'=>h4 r' (List.mem_cons_of_mem _ hr')) fj (Keys.app (Ho (Same.refl _) hk' ik) (Keys.go e hk' hK)) fun ks' H2 s2 e2 K2=>?_
  refine h ks' H2 (fun b u hb q=>s2 b u hb (by rw[gS hb]; exact e b u q)) e2 ?_
  rw[List.map_cons]
  rw[List.append_assoc] at K2
  exact K2
theorem Tps.pick {K:PySem.W.Frag} {H:Hp} {ys:List V} {rs:List (List Int)} (h:Tps K H ys rs):∀ out:List Nat,(∀ i∈out,i<rs.length)→Tps K H (out.map fun i=>ys.getD i .non) (out.map fun i=>rs.getD i [])
 | [],_=>.nil
 | i::out,hi=>by
  refine .cons ?_ (Tps.pick h out fun j hj=>hi j (List.mem_cons_of_mem _ hj))
  have li:=hi i List.mem_cons_self
  have ly:i<ys.length:=by rw[h.len]; exact li
  obtain⟨r,p,a,b,c⟩:=h.get (List.getElem?_eq_getElem ly)
  have e1:ys.getD i .non=.ref p:=by rw[My.getD_at ly]; exact b
  have e2:rs.getD i []=r:=by simp [List.getD,a]
  exact⟨p,e1,by show SqT K H p ((rs.getD i []).map V.int); rw[e2]; exact c⟩
theorem Cr (ns:List Int):vQ (.tuple (ns.map PyData.int)):=by
 refine⟨?_,?_⟩
 ·show PyData.canLayAll0 (ns.map PyData.int)=true
  exact HT.canLay_ints ns
 ·show PyData.depthAll (ns.map PyData.int)+1≤40
  rw[HT.depth_ints]
  decide
theorem G7 {K:PySem.W.Frag} {H:Hp} {p q:Addr} {ns ms:List Int} {neg:Bool} {Q:VK} (h1:SqT K H p (ns.map V.int)) (h2:SqT K H q (ms.map V.int)) (hq:Q (.bl (if neg then !decide (ns=ms) else decide (ns=ms))) H):EL K neg (.ref p) (.ref q) H Q :=
 ⟨_,_,.tup h1 (x6 _),.tup h2 (x6 _),Cr _,Cr _,by rw[show PyData.eqv (.tuple (ns.map PyData.int)) (.tuple (ms.map PyData.int))=decide (ns=ms) from HT.eqvAll_ints ns ms]; exact hq⟩
section
variable {P:Program} {w:World} {K:PySem.W.Frag} {mg:Str→Option Value} {base:Heap} {f:Addr} {fd:FuncData}
theorem Ca (F:Fun K "all_looks" "all_looks" bC f fd) (M:Mg mg) (ls:Cal P w K mg base CX0 "rows_of" 1 ["many"] (zX K)) (lz:Cal P w K mg base CX0 "look_of" 2 ["weights"] (zU K)) (mQ:Cal P w K mg base CX0 "key_of" 1 ["weights"] (zm K)):FnOk P w K mg base CX0 4 f fd ["many"] (xA K):=by
 refine F.ok lg (fun vs H Q E h=>?_) (fun cdv A outer s H vs Q E hr h=>?_)
 ·obtain⟨n,rfl,_⟩:=h
  rfl
 obtain⟨n,rfl,n1,n4,q⟩:=h
 refine⟨_,(@fz _ _ _ _ _ (@yH _ _ _ _ _ _ _ _ _ _ _ _ _ _ _ 1 _ _ _ lg.nd rfl qD rfl (CompOk.make (N':=["row"]) (ix:=[]) (nl:=1) (by rfl) fm0 (by rfl) (by decide +kernel) rfl (by decide +kernel) rfl True.intro) (@uo _ _ _ _ (@gY _ _ _ _ _ _ _ _ _ _ _ ls hr kH (@cg _ _ _ _ _ (@eF _ 0 _ _ rfl qB oP oQ) (@eY _) (cT rfl)) (by decide) uu (cT rfl) gj)) (fun _ _ _ _ _=>(@pF _ _ 0 _ (show List.Nodup (["row"]:List Str) from by decide) rfl (Or.inl rfl) (by first | exact .inl rfl | exact .inr rfl | assumption))) (fun _ _ _ _ _=>(@wk _ _ _ (@PW.pt _ _ _ (@vA _ _ _ _ _ _ _ (@qY _ _ _ (@ki _ _ _ _ _ _ _ _ _ (EM (K:=K) rfl rfl) rfl M.m_any KU (@cg _ _ _ _ _ (@pv _ 0 _ _ (by rfl) (by decreasing_trivial) (by decide) (by decide)) (@eY _) (cT rfl)) vm vk (cT rfl) gj) (rS rfl)) (@vB _ _ _ _ (@mL _ _ _ _ _ _ _ _ (D6 (K:=K) rfl (xQ hr)) (@gY _ _ _ _ _ _ _ _ _ _ _ lz hr rfl (@cg _ _ _ _ _ (@pv _ 0 _ _ (by rfl) (by decreasing_trivial) (by decide) (by decide)) (@eY _) (cT rfl)) (by decide) uv (cT rfl) gj) (@pv _ 0 _ _ (by rfl) (by decreasing_trivial) (by decide) (by decide)) (nj _))))))) (fun _ _ _ _ _=>(@pv _ 0 _ _ (by rfl) (by decreasing_trivial) (by decide) (by decide))) (by rfl) (by intro _; rfl) (by first | exact .inl rfl | exact .inr rfl | assumption)) (@fS _ _ _ (@jm _ _ _ _ (@FS _ _ _ _ _ _ _ _ _ _ _ _ lh M.m_sorted CZ (@cg _ _ _ _ _ (@eF _ 1 _ _ rfl qC iy iA) (@eY _) (cT rfl)) mQ hr lm (by decide) uJ rfl rfl)))),?_⟩
 trivial
 refine⟨n,rfl,n1,n4,fun l us H1 e1 hl d1 T=>⟨l,rfl,⟨_,SqL.of d1⟩,fun D hD=>?_⟩⟩
 obtain⟨Pc,hC⟩:∃ Pc:Nat→St→Hp→Prop,Pc=fun i τ H2=>∃ (ys:List V) (z:Option V),H2 D=some (.lst ys)∧Tps K H2 ys (((vK n n).take i).filter wB)∧Same H1 H2∧τ=[z]:=⟨_,rfl⟩
 refine se (K:=K) us Pc ?_ (fun i τ H2 _ h=>by rw[hC] at h; obtain⟨_,_,_,_,e2,_⟩:=h; exact SqL.of (e2 _ _ d1)) ?_ ?_
 ·rw[hC]
  exact⟨[],_,fj,.nil,gI hD _,rfl⟩
 ·intro i v τ H2 R' hi h next
  rw[hC] at h
  obtain⟨ys,z,d2,T2,e2,rfl⟩:=h
  obtain⟨r,pr,hr',rfl,hT⟩:=T.get hi
  have hT2:=Same.tup e2 hT
  have et:((vK n n).take (i+1)).filter wB=((vK n n).take i).filter wB++[r].filter wB:=by
   rw[List.take_add_one,hr',List.filter_append]
   rfl
  trivial
  have lr:r.length=n:=zg n n r (List.mem_iff_getElem?.mpr ⟨_,hr'⟩)
  have ly:ys.length≤625:=by
   rw[T2.len]
   refine Nat.le_trans (List.length_filter_le ..) ?_
   rw[List.length_take,yR]
   refine Nat.le_trans (Nat.min_le_right ..) ?_
   exact Nat.le_trans (Nat.pow_le_pow_left (show n+1≤5 by exact Oz35 n4) n) (Nat.pow_le_pow_right (n:=5) (by decide) n4)
  have no:∀ H3,Same H2 H3→wB r=false→R' [some (.ref pr)] H3:=fun H3 e3 hf=>next _ _ (by
   rw[hC]
   exact⟨ys,_,e3 _ _ d2,by rw[et,List.filter_cons_of_neg (by rw[hf]; decide),List.filter_nil,List.append_nil]; exact T2.same e3,e2.trans e3,rfl⟩)
  refine⟨r,hT2,?_⟩
  by_cases ha:(r.any fun n=>decide (n≠0))=true
  ·rw[if_pos ha]
   refine⟨pr,r,rfl,.inr hT2,by omega,fun t H3 e3 ht ht'=>?_⟩
   refine G7 (SqT.of ht') (Same.tup e3 hT2) ⟨_,rfl,?_⟩
   by_cases hk:MthL.look r=r
   ·rw[decide_eq_true hk,if_pos (by decide)]
    refine⟨ys,e3 _ _ d2,Nat.lt_of_lt_of_le (m:=1000) (by omega) (by decide),next _ _ ?_⟩
    rw[hC]
    refine⟨_,_,fj,?_,pI (e2.trans e3) hD _,rfl⟩
    rw[et,List.filter_cons_of_pos (by unfold wB; rw[ha,decide_eq_true hk]; rfl),List.filter_nil]
    exact Tps.app (.cons ⟨pr,rfl,xE (e3 _ _ d2) (Same.tup e3 hT2)⟩ .nil) (Tps.upd (e3 _ _ d2) (T2.same e3))
   ·rw[decide_eq_false hk,if_neg (by decide)]
    exact no H3 e3 (by unfold wB; rw[decide_eq_false hk,Bool.and_false])
  ·rw[if_neg ha]
   exact no H2 (Same.refl _) (by unfold wB; rw[Bool.not_eq_true] at ha; rw[ha,Bool.false_and])
 ·intro τ H2 h
  rw[hC] at h
  obtain⟨ys,z,d2,T2,e2,rfl⟩:=h
  rw[T.len,List.take_length] at T2
  have T3:Tps K H2 ys (LR n):=by rw[← HP n1 n4]; exact T2
  obtain⟨o1,o2⟩:=zL n1 n4
  refine⟨D,rfl,ys,SqL.of d2,by rw[T3.len]; exact o2,AK n,wJ n,o1,by rw[T3.len]; exact Jl n1 n4,fun D2 kS H0 e0 hD2 hk hne h0D h0k=>?_⟩
  refine D5 ys (LR n) [] [] H0 (T3.same e0) (J6 n1 n4) h0k .nil fun ks H' s' hk' Ks hn'=>⟨⟨fun i=>keyOf ((LR n).getD i []),fun i v hv=>?_,fun i j _ _=>rfl⟩,?_⟩
  ·obtain⟨z3,a,b⟩:=Ks.get hv
   rw[List.nil_append,List.getElem?_map] at a
   obtain⟨r,hr1,rfl⟩:=Option.map_eq_some_iff.mp a
   show vU K H' v (keyOf ((LR n).getD i []))
   rw[show (LR n).getD i []=r by simp [List.getD,hr1]]
   exact b
  ·have eall:∀ b u,H2 b=some u→upd (upd H' kS (.lst [])) D2 (.lst ((wJ n).map fun i=>ys.getD i .non)) b=some u:=fun b u hb=>by
    have b1:b≠kS:=fun z=>by rw[z,hk] at hb; cases hb
    have b2:b≠D2:=fun z=>by rw[z,hD2] at hb; cases hb
    rw[gS b2,gS b1]
    exact s' b u b1 (e0 b u hb)
   refine q D2 _ _ (fun b u hb=>eall b u (e2 _ _ (e1 _ _ hb))) ((e1.trans e2).free hD2) fj ?_
   exact Tps.pick (T3.same eall) (wJ n) (JG n1 n4)
end
end MyB
namespace MyC
open My PySem L2
noncomputable def top (i:Nat):Stmt:=PySem.Challenge.pw_tariffgate_k43_looked.main.body.getD i (.Pass ⟨0,0,0,0⟩)
noncomputable def inner:Stmt→Nat→Stmt
 | .ClassDef _ _ _ b _ _ _ _ _ _ _,j=>b.getD j (.Pass ⟨0,0,0,0⟩)
 | st,_=>st
theorem ax:(("self":Str) == ("__debug__":Str))=false:=by decide
theorem ay:(("self":Str) == ("__classdict__":Str))=false:=by decide
theorem mR:(("stuff":Str) == ("__debug__":Str))=false:=by decide
theorem mS:(("stuff":Str) == ("__classdict__":Str))=false:=by decide
theorem uK:(("use":Str) == ("__debug__":Str))=false:=by decide
theorem uL:(("use":Str) == ("__classdict__":Str))=false:=by decide
theorem fX:(("one":Str) == ("__debug__":Str))=false:=by decide
theorem fY:(("one":Str) == ("__classdict__":Str))=false:=by decide
theorem dE:(("other":Str) == ("__debug__":Str))=false:=by decide
theorem dF:(("other":Str) == ("__classdict__":Str))=false:=by decide
theorem jr:(("word":Str) == ("__debug__":Str))=false:=by decide
theorem js:(("word":Str) == ("__classdict__":Str))=false:=by decide
theorem oS:(("name":Str) == ("__debug__":Str))=false:=by decide
theorem oU:(("name":Str) == ("__classdict__":Str))=false:=by decide
theorem u4:(("Made":Str) == ("__debug__":Str))=false:=by decide
theorem u5:(("Used":Str) == ("__debug__":Str))=false:=by decide
theorem uW:(("Chief":Str) == ("__debug__":Str))=false:=by decide
theorem vp:(("But":Str) == ("__debug__":Str))=false:=by decide
theorem u6:(("Both":Str) == ("__debug__":Str))=false:=by decide
theorem uM:(("Either":Str) == ("__debug__":Str))=false:=by decide
theorem bn:(("told":Str) == ("__debug__":Str))=false:=by decide
theorem bo:(("told":Str) == ("__classdict__":Str))=false:=by decide
theorem tO:(("Anything":Str) == ("__debug__":Str))=false:=by decide
theorem nI:(("note_of_name":Str) == ("__debug__":Str))=false:=by decide
theorem u7:(("Over":Str) == ("__debug__":Str))=false:=by decide
theorem oV:(("left":Str) == ("__debug__":Str))=false:=by decide
theorem oW:(("left":Str) == ("__classdict__":Str))=false:=by decide
theorem oX:(("note_of_one":Str) == ("__debug__":Str))=false:=by decide
theorem fF:(("note_within":Str) == ("__debug__":Str))=false:=by decide
theorem mT:(("note_of_notes":Str) == ("__debug__":Str))=false:=by decide
noncomputable abbrev cL:Stmt:=inner (top 31) 0
theorem sj:FnScope ["self","stuff"] ["self","stuff"] (defScope cL):=⟨rfl,rfl,rfl,by decide +kernel,rfl,by decide +kernel,by decide +kernel⟩
theorem qE:Vis (defScope cL) "self":=by decreasing_trivial
theorem qF:Vis (defScope cL) "stuff":=by decreasing_trivial
noncomputable abbrev cM:Stmt:=inner (top 32) 0
theorem sr:FnScope ["self","use"] ["self","use"] (defScope cM):=⟨rfl,rfl,rfl,by decide +kernel,rfl,by decide +kernel,by decide +kernel⟩
theorem qG:Vis (defScope cM) "self":=by decreasing_trivial
theorem qH:Vis (defScope cM) "use":=by decreasing_trivial
noncomputable abbrev cA:Stmt:=inner (top 33) 0
theorem qI:FnScope ["self","stuff"] ["self","stuff"] (defScope cA):=⟨rfl,rfl,rfl,by decide +kernel,rfl,by decide +kernel,by decide +kernel⟩
theorem oY:Vis (defScope cA) "self":=by decreasing_trivial
theorem oZ:Vis (defScope cA) "stuff":=by decreasing_trivial
noncomputable abbrev cj:Stmt:=inner (top 34) 0
theorem sv:FnScope ["self","one","other"] ["self","one","other"] (defScope cj):=⟨rfl,rfl,rfl,by decide +kernel,rfl,by decide +kernel,by decide +kernel⟩
theorem kc:Vis (defScope cj) "self":=by decreasing_trivial
theorem qJ:Vis (defScope cj) "one":=by decreasing_trivial
theorem qK:Vis (defScope cj) "other":=by decreasing_trivial
noncomputable abbrev bU:Stmt:=inner (top 35) 0
theorem qL:FnScope ["self","one","other"] ["self","one","other"] (defScope bU):=⟨rfl,rfl,rfl,by decide +kernel,rfl,by decide +kernel,by decide +kernel⟩
theorem jt:Vis (defScope bU) "self":=by decreasing_trivial
theorem o4:Vis (defScope bU) "one":=by decreasing_trivial
theorem o8:Vis (defScope bU) "other":=by decreasing_trivial
abbrev aZ:Stmt:=top 39
theorem nJ:FnScope ["word","name"] ["word","name"] (defScope aZ):=⟨rfl,rfl,rfl,by decide +kernel,rfl,by decide +kernel,by decide +kernel⟩
theorem eP:Vis (defScope aZ) "word":=by decreasing_trivial
theorem eQ:Vis (defScope aZ) "name":=by decreasing_trivial
theorem kI:(defScope aZ).names.lookup ("Made":Str)=some .globalImplicit:=by rfl
theorem kJ:(defScope aZ).names.lookup ("Used":Str)=some .globalImplicit:=by rfl
theorem jN:(defScope aZ).names.lookup ("Chief":Str)=some .globalImplicit:=by rfl
abbrev aO:Stmt:=top 40
theorem mU:FnScope ["word","one","other"] ["word","one","other"] (defScope aO):=⟨rfl,rfl,rfl,by decide +kernel,rfl,by decide +kernel,by decide +kernel⟩
theorem gR:Vis (defScope aO) "word":=by decreasing_trivial
theorem eA:Vis (defScope aO) "one":=by decreasing_trivial
theorem eB:Vis (defScope aO) "other":=by decreasing_trivial
theorem jO:(defScope aO).names.lookup ("Both":Str)=some .globalImplicit:=by rfl
theorem jd:(defScope aO).names.lookup ("Either":Str)=some .globalImplicit:=by rfl
theorem kK:(defScope aO).names.lookup ("But":Str)=some .globalImplicit:=by rfl
abbrev aS:Stmt:=top 41
theorem o9:FnScope ["told"] ["told"] (defScope aS):=⟨rfl,rfl,rfl,by decide +kernel,rfl,by decide +kernel,by decide +kernel⟩
theorem aP:Vis (defScope aS) "told":=by decreasing_trivial
theorem eC:(defScope aS).names.lookup ("len":Str)=some .globalImplicit:=by rfl
theorem je:(defScope aS).names.lookup ("Anything":Str)=some .globalImplicit:=by rfl
theorem ju:(defScope aS).names.lookup ("is_name":Str)=some .globalImplicit:=by rfl
theorem gv:(defScope aS).names.lookup ("note_of_name":Str)=some .globalImplicit:=by rfl
theorem eX:(defScope aS).names.lookup ("is_kind":Str)=some .globalImplicit:=by rfl
theorem lA:(defScope aS).names.lookup ("Over":Str)=some .globalImplicit:=by rfl
abbrev ak:Stmt:=top 42
theorem d7:FnScope ["left","told","one","other"] ["left","told"] (defScope ak):=⟨rfl,rfl,rfl,by decide +kernel,rfl,by decide +kernel,by decide +kernel⟩
theorem e8:Vis (defScope ak) "left":=by decreasing_trivial
theorem bA:Vis (defScope ak) "told":=by decreasing_trivial
theorem nK:Vis (defScope ak) "one":=by decreasing_trivial
theorem nL:Loc (defScope ak) "one":=by first | exact Or.inl rfl | exact Or.inr rfl
theorem nM:Vis (defScope ak) "other":=by decreasing_trivial
theorem nN:Loc (defScope ak) "other":=by first | exact Or.inl rfl | exact Or.inr rfl
theorem dX:(defScope ak).names.lookup ("isinstance":Str)=some .globalImplicit:=by rfl
theorem kL:(defScope ak).names.lookup ("tuple":Str)=some .globalImplicit:=by rfl
theorem gT:(defScope ak).names.lookup ("len":Str)=some .globalImplicit:=by rfl
theorem mn:(defScope ak).names.lookup ("str":Str)=some .globalImplicit:=by rfl
theorem dS:(defScope ak).names.lookup ("note_within":Str)=some .globalImplicit:=by rfl
theorem fZ:(defScope ak).names.lookup ("note_of_notes":Str)=some .globalImplicit:=by rfl
theorem h8:(defScope ak).names.lookup ("note_of_one":Str)=some .globalImplicit:=by rfl
abbrev dC:Stmt:=top 43
theorem uz:FnScope ["told"] ["told"] (defScope dC):=⟨rfl,rfl,rfl,by decide +kernel,rfl,by decide +kernel,by decide +kernel⟩
theorem tP:Vis (defScope dC) "told":=by decreasing_trivial
theorem jv:(defScope dC).names.lookup ("note_within":Str)=some .globalImplicit:=by rfl
inductive Nt where
 | any
 | made (s:List Nat)
 | used (s:List Nat)
 | chief (s:List Nat)
 | over (a b:Kd2)
 | both (x y:Nt)
 | either (x y:Nt)
 | but (x y:Nt)
noncomputable def Nt.dp:Nt→Nat
 | .both x y=>max x.dp y.dp+1
 | .either x y=>max x.dp y.dp+1
 | .but x y=>max x.dp y.dp+1
 | _=>1
def Nt.ok:Nt→Prop
 | .any=>True
 | .made s=>nameB s=true
 | .used s=>nameB s=true
 | .chief s=>nameB s=true
 | .over a b=>okKind a∧okKind b
 | .both x y=>x.ok∧y.ok
 | .either x y=>x.ok∧y.ok
 | .but x y=>x.ok∧y.ok
noncomputable def Nt.data:Nt→PyData
 | .any=>.tuple [.str "any"]
 | .made s=>.tuple [.str "made",.str (txt s)]
 | .used s=>.tuple [.str "used",.str (txt s)]
 | .chief s=>.tuple [.str "chief",.str (txt s)]
 | .over a b=>.tuple [.str "over",kD a,kD b]
 | .both x y=>.tuple [.str "both",x.data,y.data]
 | .either x y=>.tuple [.str "either",x.data,y.data]
 | .but x y=>.tuple [.str "but",x.data,y.data]
theorem Nt.dp_pos (n:Nt):1≤n.dp:=by
 cases n <;> (unfold Nt.dp; omega)
abbrev tT (K:PySem.W.Frag) (H:Hp) (v:V) (n:Nt):Prop:=Rep K H v n.data
structure NC where
 any:Addr
 made:Addr
 used:Addr
 chief:Addr
 over:Addr
 both:Addr
 either:Addr
 but:Addr
def ObjN (K:PySem.W.Frag) (cs:NC) (H:Hp) (a:Addr):Nt→Prop
 | .any=>∃ dx,H a=some (.ins cs.any dx [])
 | .made s=>∃ dx,H a=some (.ins cs.made dx [("stuff",.str (txt s))])
 | .used s=>∃ dx,H a=some (.ins cs.used dx [("use",.str (txt s))])
 | .chief s=>∃ dx,H a=some (.ins cs.chief dx [("stuff",.str (txt s))])
 | .over k1 k2=>∃ dx p1 p2,H a=some (.ins cs.over dx [("one",.ref p1),("other",.ref p2)])∧SqT K H p1 (kRow k1)∧SqT K H p2 (kRow k2)
 | .both x y=>∃ dx a1 a2,H a=some (.ins cs.both dx [("one",.ref a1),("other",.ref a2)])∧ObjN K cs H a1 x∧ObjN K cs H a2 y
 | .either x y=>∃ dx a1 a2,H a=some (.ins cs.either dx [("one",.ref a1),("other",.ref a2)])∧ObjN K cs H a1 x∧ObjN K cs H a2 y
 | .but x y=>∃ dx a1 a2,H a=some (.ins cs.but dx [("one",.ref a1),("other",.ref a2)])∧ObjN K cs H a1 x∧ObjN K cs H a2 y
theorem ObjN.same {K:PySem.W.Frag} {cs:NC} {H H':Hp} (e:Same H H'):∀ {n:Nt} {a:Addr},ObjN K cs H a n→ObjN K cs H' a n
 | .any,_,⟨dx,h⟩=>⟨dx,e _ _ h⟩
 | .made _,_,⟨dx,h⟩=>⟨dx,e _ _ h⟩
 | .used _,_,⟨dx,h⟩=>⟨dx,e _ _ h⟩
 | .chief _,_,⟨dx,h⟩=>⟨dx,e _ _ h⟩
 | .over _ _,_,⟨dx,p1,p2,h,t1,t2⟩=>⟨dx,p1,p2,e _ _ h,Same.tup e t1,Same.tup e t2⟩
 | .both _ _,_,⟨dx,p1,p2,h,t1,t2⟩=>⟨dx,p1,p2,e _ _ h,ObjN.same e t1,ObjN.same e t2⟩
 | .either _ _,_,⟨dx,p1,p2,h,t1,t2⟩=>⟨dx,p1,p2,e _ _ h,ObjN.same e t1,ObjN.same e t2⟩
 | .but _ _,_,⟨dx,p1,p2,h,t1,t2⟩=>⟨dx,p1,p2,e _ _ h,ObjN.same e t1,ObjN.same e t2⟩
def vS (K:PySem.W.Frag) (C:Addr) (fld:Str):Sp:=fun vs H Q _=>∃ x dx v,vs=[.ref x,v]∧H x=some (.ins C dx [])∧Q .non (upd H x (.ins C dx [(fld,v)]))
def vJ (K:PySem.W.Frag):Sp:=fun vs H Q _=>∃ x C dx v1 v2,vs=[.ref x,v1,v2]∧H x=some (.ins C dx [])∧Cls K C∧NoAttr K C "one"∧NoAttr K C "other"∧∀ H',H' x=some (.ins C dx [("one",v1),("other",v2)])→(∀ b,b≠x→H' b=H b)→Q .non H'
theorem v5 {H H':Hp} {C x dx:Addr} (hx:H x=none) (hd:H dx=none) (e:∀ b,b≠x→H' b=upd (upd H dx (.own x)) x (.ins C dx []) b):Same H H':=fun b u q=>by
 rw[e b (kB q hx),gS (kB q hx),gS (kB q hd)]
 exact q
theorem make1' {H:Hp} {C x dx:Addr} {fld:Str} {v:V} (hx:H x=none) (hd:H dx=none):Same H (upd (upd (upd H dx (.own x)) x (.ins C dx [])) x (.ins C dx [(fld,v)])) :=
 fun b u q=>by rw[gS (kB q hx),gS (kB q hx),gS (kB q hd)]; exact q
section
variable {P:Program} {w:World} {K:PySem.W.Frag} {mg:Str→Option Value} {base:Heap} {f:Addr} {fd:FuncData} {cs:NC}
theorem CS (F:Fun K "__init__" "Made.__init__" cL f fd) (M:Mg mg) (cl:Cls K cs.made) (na:NoAttr K cs.made "stuff"):FnOk P w K mg base CX0 1 f fd ["self","stuff"] (vS K cs.made "stuff"):=by
 refine F.ok sj (fun vs H Q E h=>?_) (fun cdv A outer s H vs Q E hr h=>?_)
 ·obtain⟨x,dx,v,rfl,_⟩:=h
  rfl
 obtain⟨x,dx,v,rfl,hx,q⟩:=h
 refine⟨_,(@fS _ _ _ (@vI _ _ _ _ _ _ _ _ (@eF _ 0 _ _ rfl qE ax ay) (@eF _ 1 _ _ rfl qF mR mS) (mj rfl))),?_⟩
 trivial
 exact⟨_,_,_,hx,cl,na,by decide,q⟩
theorem CO (F:Fun K "__init__" "Used.__init__" cM f fd) (M:Mg mg) (cl:Cls K cs.used) (na:NoAttr K cs.used "use"):FnOk P w K mg base CX0 1 f fd ["self","use"] (vS K cs.used "use"):=by
 refine F.ok sr (fun vs H Q E h=>?_) (fun cdv A outer s H vs Q E hr h=>?_)
 ·obtain⟨x,dx,v,rfl,_⟩:=h
  rfl
 obtain⟨x,dx,v,rfl,hx,q⟩:=h
 refine⟨_,(@fS _ _ _ (@vI _ _ _ _ _ _ _ _ (@eF _ 0 _ _ rfl qG ax ay) (@eF _ 1 _ _ rfl qH uK uL) (mj rfl))),?_⟩
 trivial
 exact⟨_,_,_,hx,cl,na,by decide,q⟩
theorem BF (F:Fun K "__init__" "Chief.__init__" cA f fd) (M:Mg mg) (cl:Cls K cs.chief) (na:NoAttr K cs.chief "stuff"):FnOk P w K mg base CX0 1 f fd ["self","stuff"] (vS K cs.chief "stuff"):=by
 refine F.ok qI (fun vs H Q E h=>?_) (fun cdv A outer s H vs Q E hr h=>?_)
 ·obtain⟨x,dx,v,rfl,_⟩:=h
  rfl
 obtain⟨x,dx,v,rfl,hx,q⟩:=h
 refine⟨_,(@fS _ _ _ (@vI _ _ _ _ _ _ _ _ (@eF _ 0 _ _ rfl oY ax ay) (@eF _ 1 _ _ rfl oZ mR mS) (mj rfl))),?_⟩
 trivial
 exact⟨_,_,_,hx,cl,na,by decide,q⟩
theorem Cm (F:Fun K "__init__" "Over.__init__" cj f fd) (M:Mg mg):FnOk P w K mg base CX0 1 f fd ["self","one","other"] (vJ K):=by
 refine F.ok sv (fun vs H Q E h=>?_) (fun cdv A outer s H vs Q E hr h=>?_)
 ·obtain⟨x,C,dx,v1,v2,rfl,_⟩:=h
  rfl
 obtain⟨x,C,dx,v1,v2,rfl,hx,cl,n1,n2,q⟩:=h
 refine⟨_,(@fz _ _ _ _ _ (@vI _ _ _ _ _ _ _ _ (@eF _ 0 _ _ rfl kc ax ay) (@eF _ 1 _ _ rfl qJ fX fY) (mj rfl)) (@fS _ _ _ (@vI _ _ _ _ _ _ _ _ (@eF _ 0 _ _ rfl kc ax ay) (@eF _ 2 _ _ rfl qK dE dF) (mj rfl)))),?_⟩
 trivial
 exact⟨_,_,_,hx,cl,n1,by decide,_,_,_,fj,cl,n2,(show 1<1000 by decide),q _ fj fun b hb=>by rw[gS hb,gS hb]⟩
theorem xo (F:Fun K "__init__" "OfTwo.__init__" bU f fd) (M:Mg mg):FnOk P w K mg base CX0 1 f fd ["self","one","other"] (vJ K):=by
 refine F.ok qL (fun vs H Q E h=>?_) (fun cdv A outer s H vs Q E hr h=>?_)
 ·obtain⟨x,C,dx,v1,v2,rfl,_⟩:=h
  rfl
 obtain⟨x,C,dx,v1,v2,rfl,hx,cl,n1,n2,q⟩:=h
 refine⟨_,(@fz _ _ _ _ _ (@vI _ _ _ _ _ _ _ _ (@eF _ 0 _ _ rfl jt ax ay) (@eF _ 1 _ _ rfl o4 fX fY) (mj rfl)) (@fS _ _ _ (@vI _ _ _ _ _ _ _ _ (@eF _ 0 _ _ rfl jt ax ay) (@eF _ 2 _ _ rfl o8 dE dF) (mj rfl)))),?_⟩
 trivial
 exact⟨_,_,_,hx,cl,n1,by decide,_,_,_,fj,cl,n2,(show 1<1000 by decide),q _ fj fun b hb=>by rw[gS hb,gS hb]⟩
end
theorem Ay {K:PySem.W.Frag} {H:Hp} {p:Addr} {ds:List PyData} (R:Rep K H (.ref p) (.tuple ds)):∃ xs,SqT K H p xs∧RepAll K H xs ds:=by
 cases R with
 | tup T A=>exact⟨_,T,A⟩
theorem vO {K:PySem.W.Frag} {H:Hp} {xs:List V} {d:PyData} {ds:List PyData} (R:RepAll K H xs (d::ds)):∃ x ys,xs=x::ys∧Rep K H x d∧RepAll K H ys ds:=by
 cases R with
 | cons a b=>exact⟨_,_,rfl,a,b⟩
theorem zA {K:PySem.W.Frag} {H:Hp} {xs:List V} (R:RepAll K H xs []):xs=[]:=by
 cases R
 rfl
theorem mK {K:PySem.W.Frag} {H:Hp} {x:V} {z:Str} (R:Rep K H x (.str z)):x=.str z:=by
 cases R
 rfl
theorem yg {K:PySem.W.Frag} {H:Hp} {p:Addr} {d:PyData} (R:Rep K H (.ref p) (.tuple [d])):∃ x,SqT K H p [x]∧Rep K H x d:=by
 obtain⟨xs,T,A⟩:=Ay R
 obtain⟨x,ys,rfl,a,b⟩:=vO A
 rw[zA b] at T
 exact⟨x,T,a⟩
theorem uC {K:PySem.W.Frag} {H:Hp} {p:Addr} {d e:PyData} (R:Rep K H (.ref p) (.tuple [d,e])):∃ x y,SqT K H p [x,y]∧Rep K H x d∧Rep K H y e:=by
 obtain⟨xs,T,A⟩:=Ay R
 obtain⟨x,ys,rfl,a,b⟩:=vO A
 obtain⟨y,zs,rfl,c,d⟩:=vO b
 rw[zA d] at T
 exact⟨x,y,T,a,c⟩
theorem qV {K:PySem.W.Frag} {H:Hp} {p:Addr} {d e g:PyData} (R:Rep K H (.ref p) (.tuple [d,e,g])):∃ x y z,SqT K H p [x,y,z]∧Rep K H x d∧Rep K H y e∧Rep K H z g:=by
 obtain⟨xs,T,A⟩:=Ay R
 obtain⟨x,ys,rfl,a,b⟩:=vO A
 obtain⟨y,zs,rfl,c,d⟩:=vO b
 obtain⟨z,us,rfl,e,f⟩:=vO d
 rw[zA f] at T
 exact⟨x,y,z,T,a,c,e⟩
theorem wN {K:PySem.W.Frag} {H:Hp} {v:V} {k:Kd2} (R:Rep K H v (kD k)):∃ p,v=.ref p∧SqT K H p (kRow k):=by
 unfold kD at R
 cases R with
 | tup T A =>
  obtain⟨x,ys,rfl,a,b⟩:=vO A
  obtain⟨y,zs,rfl,c,d⟩:=vO b
  rw[zA d,mK a,mK c] at T
  exact⟨_,rfl,T⟩
theorem pR {K:PySem.W.Frag} {H:Hp} {v:V} {n:Nt} (R:tT K H v n):∃ a,v=.ref a:=by
 unfold tT at R
 cases n <;> (unfold Nt.data at R; cases R; exact⟨_,rfl⟩)
def zQ (K:PySem.W.Frag) (cs:NC):Sp:=fun vs H Q _=>∃ (wd:Str) (s:List Nat) (n:Nt),vs=[.str wd,.str (txt s)]∧((wd = "made"∧n=.made s)∨(wd = "used"∧n=.used s)∨(wd = "chief"∧n=.chief s))∧∀ a H',Same H H'→ObjN K cs H' a n→Q (.ref a) H'
def xX (K:PySem.W.Frag) (cs:NC):Sp:=fun vs H Q _=>∃ (wd:Str) (a1 a2:Addr) (x y n:Nt),vs=[.str wd,.ref a1,.ref a2]∧((wd = "both"∧n=.both x y)∨(wd = "either"∧n=.either x y)∨(wd = "but"∧n=.but x y))∧ObjN K cs H a1 x∧ObjN K cs H a2 y∧∀ a H',Same H H'→ObjN K cs H' a n→Q (.ref a) H'
def ye (K:PySem.W.Frag) (cs:NC):Sp:=fun vs H Q _=>∃ (p:Addr) (n:Nt),vs=[.ref p]∧tT K H (.ref p) n∧n.ok∧n.dp=1∧∀ a H',Same H H'→ObjN K cs H' a n→Q (.ref a) H'
def xj (K:PySem.W.Frag) (cs:NC) (d:Nat):Sp:=fun vs H Q _=>∃ (l:Int) (p:Addr) (n:Nt),vs=[.int l,.ref p]∧(d:Int)≤l∧tT K H (.ref p) n∧n.ok∧n.dp≤d∧∀ a H',Same H H'→ObjN K cs H' a n→Q (.ref a) H'
def zN (K:PySem.W.Frag) (cs:NC):Sp:=fun vs H Q _=>∃ (p:Addr) (n:Nt),vs=[.ref p]∧tT K H (.ref p) n∧n.ok∧n.dp≤5∧∀ a H',Same H H'→ObjN K cs H' a n→Q (.ref a) H'
structure TwoC (K:PySem.W.Frag) (C:Addr):Prop where
 cl:Cls K C
 n1:NoAttr K C "one"
 n2:NoAttr K C "other"
section
variable {P:Program} {w:World} {K:PySem.W.Frag} {mg:Str→Option Value} {base:Heap} {f:Addr} {fd:FuncData} {cs:NC}
theorem z8 (F:Fun K "note_of_name" "note_of_name" aZ f fd) (M:Mg mg) (Z_Made:MkC P w K mg base "Made" cs.made 1 ["self","stuff"] (vS K cs.made "stuff")) (Z_Used:MkC P w K mg base "Used" cs.used 1 ["self","use"] (vS K cs.used "use")) (Z_Chief:MkC P w K mg base "Chief" cs.chief 1 ["self","stuff"] (vS K cs.chief "stuff")):FnOk P w K mg base CX0 3 f fd ["word","name"] (zQ K cs):=by
 refine F.ok nJ (fun vs H Q E h=>?_) (fun cdv A outer s H vs Q E hr h=>?_)
 ·obtain⟨wd,s,n,rfl,_⟩:=h
  rfl
 obtain⟨wd,s,n,rfl,hw,q⟩:=h
 refine⟨_,(@fz _ _ _ _ _ (@pG _ _ _ _ _ _ _ _ (@mL _ _ _ _ _ _ _ _ (@qb _) (@eF _ 0 _ _ rfl eP jr js) (@nS _ _ _ _) (nj _)) (@fS _ _ _ (@jm _ _ _ _ (@vG _ _ _ _ _ _ _ _ _ _ _ _ Z_Made hr kI (@cg _ _ _ _ _ (@eF _ 1 _ _ rfl eQ oS oU) (@eY _) (cT rfl)) (by decide) u4 (cT rfl) gj))) (@mO _)) (@fz _ _ _ _ _ (@pG _ _ _ _ _ _ _ _ (@mL _ _ _ _ _ _ _ _ (@qb _) (@eF _ 0 _ _ rfl eP jr js) (@nS _ _ _ _) (nj _)) (@fS _ _ _ (@jm _ _ _ _ (@vG _ _ _ _ _ _ _ _ _ _ _ _ Z_Used hr kJ (@cg _ _ _ _ _ (@eF _ 1 _ _ rfl eQ oS oU) (@eY _) (cT rfl)) (by decide) u5 (cT rfl) gj))) (@mO _)) (@fz _ _ _ _ _ (@pG _ _ _ _ _ _ _ _ (@mL _ _ _ _ _ _ _ _ (@qb _) (@eF _ 0 _ _ rfl eP jr js) (@nS _ _ _ _) (nj _)) (@fS _ _ _ (@jm _ _ _ _ (@vG _ _ _ _ _ _ _ _ _ _ _ _ Z_Chief hr jN (@cg _ _ _ _ _ (@eF _ 1 _ _ rfl eQ oS oU) (@eY _) (cT rfl)) (by decide) uW (cT rfl) gj))) (@mO _)) (@fS _ _ _ (@wc _ _))))),?_⟩
 trivial
 rcases hw with ⟨rfl,rfl⟩ | ⟨rfl,rfl⟩ | ⟨rfl,rfl⟩
 ·rw[if_pos rfl]
  exact fun x dx hx hd ne=>⟨x,dx,_,rfl,fj,rfl,q _ _ (make1' hx hd) ⟨dx,fj⟩⟩
 ·rw[if_neg (by decide),if_pos rfl]
  exact fun x dx hx hd ne=>⟨x,dx,_,rfl,fj,rfl,q _ _ (make1' hx hd) ⟨dx,fj⟩⟩
 ·rw[if_neg (by decide),if_neg (by decide),if_pos rfl]
  exact fun x dx hx hd ne=>⟨x,dx,_,rfl,fj,rfl,q _ _ (make1' hx hd) ⟨dx,fj⟩⟩
theorem zM (F:Fun K "note_of_notes" "note_of_notes" aO f fd) (M:Mg mg) (Z_Both:MkC P w K mg base "Both" cs.both 1 ["self","one","other"] (vJ K)) (Z_Either:MkC P w K mg base "Either" cs.either 1 ["self","one","other"] (vJ K)) (Z_But:MkC P w K mg base "But" cs.but 1 ["self","one","other"] (vJ K))
  (t1:TwoC K cs.both) (t2:TwoC K cs.either) (t3:TwoC K cs.but):FnOk P w K mg base CX0 3 f fd ["word","one","other"] (xX K cs):=by
 refine F.ok mU (fun vs H Q E h=>?_) (fun cdv A outer s H vs Q E hr h=>?_)
 ·obtain⟨wd,a1,a2,x,y,n,rfl,_⟩:=h
  rfl
 obtain⟨wd,a1,a2,x,y,n,rfl,hw,O1,O2,q⟩:=h
 refine⟨_,(@fz _ _ _ _ _ (@pG _ _ _ _ _ _ _ _ (@mL _ _ _ _ _ _ _ _ (@qb _) (@eF _ 0 _ _ rfl gR jr js) (@nS _ _ _ _) (nj _)) (@fS _ _ _ (@jm _ _ _ _ (@vG _ _ _ _ _ _ _ _ _ _ _ _ Z_Both hr jO (@cg _ _ _ _ _ (@eF _ 1 _ _ rfl eA fX fY) (@cg _ _ _ _ _ (@eF _ 2 _ _ rfl eB dE dF) (@eY _) (cT rfl)) (cT rfl)) (by decide) u6 (cT rfl) (iT rfl gj)))) (@mO _)) (@fz _ _ _ _ _ (@pG _ _ _ _ _ _ _ _ (@mL _ _ _ _ _ _ _ _ (@qb _) (@eF _ 0 _ _ rfl gR jr js) (@nS _ _ _ _) (nj _)) (@fS _ _ _ (@jm _ _ _ _ (@vG _ _ _ _ _ _ _ _ _ _ _ _ Z_Either hr jd (@cg _ _ _ _ _ (@eF _ 1 _ _ rfl eA fX fY) (@cg _ _ _ _ _ (@eF _ 2 _ _ rfl eB dE dF) (@eY _) (cT rfl)) (cT rfl)) (by decide) uM (cT rfl) (iT rfl gj)))) (@mO _)) (@fS _ _ _ (@jm _ _ _ _ (@vG _ _ _ _ _ _ _ _ _ _ _ _ Z_But hr kK (@cg _ _ _ _ _ (@eF _ 1 _ _ rfl eA fX fY) (@cg _ _ _ _ _ (@eF _ 2 _ _ rfl eB dE dF) (@eY _) (cT rfl)) (cT rfl)) (by decide) vp (cT rfl) (iT rfl gj)))))),?_⟩
 trivial
 rcases hw with ⟨rfl,rfl⟩ | ⟨rfl,rfl⟩ | ⟨rfl,rfl⟩
 ·rw[if_pos rfl]
  exact fun x dx hx hd ne=>⟨x,_,dx,_,_,rfl,fj,t1.cl,t1.n1,t1.n2,fun H' h1 h2=>⟨rfl,q _ _ (v5 hx hd h2) ⟨dx,_,_,h1,ObjN.same (v5 hx hd h2) O1,ObjN.same (v5 hx hd h2) O2⟩⟩⟩
 ·rw[if_neg (by decide),if_pos rfl]
  exact fun x dx hx hd ne=>⟨x,_,dx,_,_,rfl,fj,t2.cl,t2.n1,t2.n2,fun H' h1 h2=>⟨rfl,q _ _ (v5 hx hd h2) ⟨dx,_,_,h1,ObjN.same (v5 hx hd h2) O1,ObjN.same (v5 hx hd h2) O2⟩⟩⟩
 ·rw[if_neg (by decide),if_neg (by decide)]
  exact fun x dx hx hd ne=>⟨x,_,dx,_,_,rfl,fj,t3.cl,t3.n1,t3.n2,fun H' h1 h2=>⟨rfl,q _ _ (v5 hx hd h2) ⟨dx,_,_,h1,ObjN.same (v5 hx hd h2) O1,ObjN.same (v5 hx hd h2) O2⟩⟩⟩
theorem AS (F:Fun K "note_of_one" "note_of_one" aS f fd) (M:Mg mg) (dU:Cal P w K mg base CX0 "is_name" 1 ["thing"] (yx K)) (dW:Cal P w K mg base CX0 "is_kind" 2 ["thing"] (xO K)) (fG:Cal P w K mg base CX0 "note_of_name" 3 ["word","name"] (zQ K cs))
  (Z_Anything:Mk0 K cs.any) (A_Anything:mg "Anything"=some (.ref cs.any)) (Z_Over:MkC P w K mg base "Over" cs.over 1 ["self","one","other"] (vJ K)) (t4:TwoC K cs.over):FnOk P w K mg base CX0 4 f fd ["told"] (ye K cs):=by
 refine F.ok o9 (fun vs H Q E h=>?_) (fun cdv A outer s H vs Q E hr h=>?_)
 ·obtain⟨p,n,rfl,_⟩:=h
  rfl
 obtain⟨p,n,rfl,R,ok,dp,q⟩:=h
 refine⟨_,(@fz _ _ _ _ _ (@pG _ _ _ _ _ _ _ _ (@PW.pt _ _ _ (@vA _ _ _ _ _ _ _ (@mL _ _ _ _ _ _ _ _ (@qb _) (@ki _ _ _ _ _ _ _ _ _ m9 eC M.m_len qZ (@cg _ _ _ _ _ (@eF _ 0 _ _ rfl aP bn bo) (@eY _) (cT rfl)) aq ao (cT rfl) gj) (@ff _ _ _ _) (nj _)) (@vB _ _ _ _ (@mL _ _ _ _ _ _ _ _ (@qb _) (@kZ _ _ _ _ _ _ _ (@ix_tup _) (@eF _ 0 _ _ rfl aP bn bo) (@ff _ _ _ _) (fun _ _=>rfl)) (@nS _ _ _ _) (nj _))))) (@fS _ _ _ (@jm _ _ _ _ (@Ir _ _ _ _ _ Z_Anything je A_Anything tO))) (@mO _)) (@fz _ _ _ _ _ (@pG _ _ _ _ _ _ _ _ (@PW.pt _ _ _ (@vA _ _ _ _ _ _ _ (@mL _ _ _ _ _ _ _ _ (@qb _) (@ki _ _ _ _ _ _ _ _ _ m9 eC M.m_len qZ (@cg _ _ _ _ _ (@eF _ 0 _ _ rfl aP bn bo) (@eY _) (cT rfl)) aq ao (cT rfl) gj) (@ff _ _ _ _) (nj _)) (@vB _ _ _ _ (@qY _ _ _ (@gY _ _ _ _ _ _ _ _ _ _ _ dU hr ju (@cg _ _ _ _ _ (@kZ _ _ _ _ _ _ _ (@ix_tup _) (@eF _ 0 _ _ rfl aP bn bo) (@ff _ _ _ _) (fun _ _=>rfl)) (@eY _) (cT rfl)) (by decide) hJ (cT rfl) gj) (rS rfl))))) (@fS _ _ _ (@jm _ _ _ _ (@gY _ _ _ _ _ _ _ _ _ _ _ fG hr gv (@cg _ _ _ _ _ (@kZ _ _ _ _ _ _ _ (@ix_tup _) (@eF _ 0 _ _ rfl aP bn bo) (@ff _ _ _ _) (fun _ _=>rfl)) (@cg _ _ _ _ _ (@kZ _ _ _ _ _ _ _ (@ix_tup _) (@eF _ 0 _ _ rfl aP bn bo) (@ff _ _ _ _) (fun _ _=>rfl)) (@eY _) (cT rfl)) (cT rfl)) (by decide) nI (cT rfl) (iT rfl gj)))) (@mO _)) (@fz _ _ _ _ _ (@pG _ _ _ _ _ _ _ _ (@PW.pt _ _ _ (@vA _ _ _ _ _ _ _ (@mL _ _ _ _ _ _ _ _ (@qb _) (@ki _ _ _ _ _ _ _ _ _ m9 eC M.m_len qZ (@cg _ _ _ _ _ (@eF _ 0 _ _ rfl aP bn bo) (@eY _) (cT rfl)) aq ao (cT rfl) gj) (@ff _ _ _ _) (nj _)) (@vA _ _ _ _ _ _ _ (@mL _ _ _ _ _ _ _ _ (@qb _) (@kZ _ _ _ _ _ _ _ (@ix_tup _) (@eF _ 0 _ _ rfl aP bn bo) (@ff _ _ _ _) (fun _ _=>rfl)) (@nS _ _ _ _) (nj _)) (@vA _ _ _ _ _ _ _ (@qY _ _ _ (@gY _ _ _ _ _ _ _ _ _ _ _ dW hr eX (@cg _ _ _ _ _ (@kZ _ _ _ _ _ _ _ (@ix_tup _) (@eF _ 0 _ _ rfl aP bn bo) (@ff _ _ _ _) (fun _ _=>rfl)) (@eY _) (cT rfl)) (by decide) hU (cT rfl) gj) (rS rfl)) (@vB _ _ _ _ (@qY _ _ _ (@gY _ _ _ _ _ _ _ _ _ _ _ dW hr eX (@cg _ _ _ _ _ (@kZ _ _ _ _ _ _ _ (@ix_tup _) (@eF _ 0 _ _ rfl aP bn bo) (@ff _ _ _ _) (fun _ _=>rfl)) (@eY _) (cT rfl)) (by decide) hU (cT rfl) gj) (rS rfl))))))) (@fS _ _ _ (@jm _ _ _ _ (@vG _ _ _ _ _ _ _ _ _ _ _ _ Z_Over hr lA (@cg _ _ _ _ _ (@kZ _ _ _ _ _ _ _ (@ix_tup _) (@eF _ 0 _ _ rfl aP bn bo) (@ff _ _ _ _) (fun _ _=>rfl)) (@cg _ _ _ _ _ (@kZ _ _ _ _ _ _ _ (@ix_tup _) (@eF _ 0 _ _ rfl aP bn bo) (@ff _ _ _ _) (fun _ _=>rfl)) (@eY _) (cT rfl)) (cT rfl)) (by decide) u7 (cT rfl) (iT rfl gj)))) (@mO _)) (@fS _ _ _ (@wc _ _))))),?_⟩
 trivial
 cases n with
 | any =>
  obtain⟨x,T,a⟩:=yg R
  rw[mK a] at T
  refine⟨_,.inr T,?_⟩
  rw[if_pos (by rfl)]
  refine⟨_,T,_,rfl,rfl,?_⟩
  rw[if_pos rfl]
  intro x dx hx hd ne
  refine q _ _ (fun b u z=>?_) ⟨dx,fj⟩
  rw[gS (kB z hx),gS (kB z hd)]
  exact z
 | made s =>
  obtain⟨x,y,T,a,b⟩:=uC R
  rw[mK a,mK b] at T
  refine⟨_,.inr T,?_⟩
  rw[if_neg (by simp)]
  refine⟨_,.inr T,?_⟩
  rw[if_pos (by simp)]
  refine⟨_,T,_,rfl,_,true,rfl,wz ok,fun H1 S1=>⟨_,rfl,?_⟩⟩
  rw[if_pos rfl]
  exact⟨_,Same.tup S1 T,_,rfl,_,Same.tup S1 T,_,rfl,_,s,_,rfl,.inl ⟨rfl,rfl⟩,fun a H' e=>q a H' (S1.trans e)⟩
 | used s =>
  obtain⟨x,y,T,a,b⟩:=uC R
  rw[mK a,mK b] at T
  refine⟨_,.inr T,?_⟩
  rw[if_neg (by simp)]
  refine⟨_,.inr T,?_⟩
  rw[if_pos (by simp)]
  refine⟨_,T,_,rfl,_,true,rfl,wz ok,fun H1 S1=>⟨_,rfl,?_⟩⟩
  rw[if_pos rfl]
  exact⟨_,Same.tup S1 T,_,rfl,_,Same.tup S1 T,_,rfl,_,s,_,rfl,.inr (.inl ⟨rfl,rfl⟩),fun a H' e=>q a H' (S1.trans e)⟩
 | chief s =>
  obtain⟨x,y,T,a,b⟩:=uC R
  rw[mK a,mK b] at T
  refine⟨_,.inr T,?_⟩
  rw[if_neg (by simp)]
  refine⟨_,.inr T,?_⟩
  rw[if_pos (by simp)]
  refine⟨_,T,_,rfl,_,true,rfl,wz ok,fun H1 S1=>⟨_,rfl,?_⟩⟩
  rw[if_pos rfl]
  exact⟨_,Same.tup S1 T,_,rfl,_,Same.tup S1 T,_,rfl,_,s,_,rfl,.inr (.inr ⟨rfl,rfl⟩),fun a H' e=>q a H' (S1.trans e)⟩
 | over k1 k2 =>
  obtain⟨x,y,z,T,a,b,c⟩:=qV R
  rw[mK a] at T
  obtain⟨p1,rfl,T1⟩:=wN b
  obtain⟨p2,rfl,T2⟩:=wN c
  obtain⟨ok1,ok2⟩:=ok
  refine⟨_,.inr T,?_⟩
  rw[if_neg (by simp)]
  refine⟨_,.inr T,?_⟩
  rw[if_neg (by simp)]
  refine⟨_,.inr T,?_⟩
  rw[if_pos (by simp)]
  refine⟨_,T,_,rfl,rfl,?_⟩
  rw[if_pos rfl]
  refine⟨_,T,_,rfl,_,true,rfl,KindV.two T1 (wz ok1.1) (wz ok1.2),fun H1 S1=>⟨_,rfl,?_⟩⟩
  rw[if_pos rfl]
  refine⟨_,Same.tup S1 T,_,rfl,_,true,rfl,KindV.two (Same.tup S1 T2) (wz ok2.1) (wz ok2.2),fun H2 S2=>⟨_,rfl,?_⟩⟩
  rw[if_pos rfl]
  have S12:=S1.trans S2
  refine⟨_,Same.tup S12 T,_,rfl,_,Same.tup S12 T,_,rfl,fun x dx hx hd ne=>⟨x,_,dx,_,_,rfl,fj,t4.cl,t4.n1,t4.n2,fun H' h1 h2=>⟨rfl,q _ _ (S12.trans (v5 hx hd h2)) ⟨dx,_,_,h1,Same.tup (S12.trans (v5 hx hd h2)) T1,Same.tup (S12.trans (v5 hx hd h2)) T2⟩⟩⟩⟩
 | both x y=>exact absurd dp (by have:=Nt.dp_pos x; show ¬(max x.dp y.dp+1=1); exact Oz29 this)
 | either x y=>exact absurd dp (by have:=Nt.dp_pos x; show ¬(max x.dp y.dp+1=1); exact Oz29 this)
 | but x y=>exact absurd dp (by have:=Nt.dp_pos x; show ¬(max x.dp y.dp+1=1); exact Oz29 this)
theorem DH {d:Nat} (F:Fun K "note_within" "note_within" ak f fd) (M:Mg mg) (cW:Cal P w K mg base CX0 "note_of_one" 4 ["told"] (ye K cs)) (cE:Cal P w K mg base CX0 "note_of_notes" 3 ["word","one","other"] (xX K cs)) (cX:Cal P w K mg base CX0 "note_within" (5+d) ["left","told"] (xj K cs d)):FnOk P w K mg base CX0 (5+d+1) f fd ["left","told"] (xj K cs (d+1)):=by
 refine F.ok d7 (fun vs H Q E h=>?_) (fun cdv A outer s H vs Q E hr h=>?_)
 ·obtain⟨l,p,n,rfl,_⟩:=h
  rfl
 obtain⟨l,p,n,rfl,hl,R,ok,dp,q⟩:=h
 refine⟨_,(@fz _ _ _ _ _ (@pG _ _ _ _ _ _ _ _ (@mL _ _ _ _ _ _ _ _ (@qb _) (@eF _ 0 _ _ rfl e8 oV oW) (@ff _ _ _ _) (nj _)) (@fS _ _ _ (@wc _ _)) (@mO _)) (@fz _ _ _ _ _ (@pG _ _ _ _ _ _ _ _ (@PW.pt _ _ _ (@wR _ _ _ _ _ _ _ (@tw _ _ _ _ (@qY _ _ _ (@ki _ _ _ _ _ _ _ _ _ uF dX M.m_isinstance qU (@cg _ _ _ _ _ (@eF _ 1 _ _ rfl bA bn bo) (@cg _ _ _ _ _ (@uT _ _ (.ty "tuple") _ _ kL M.m_tuple wL rfl dh dg) (@eY _) (cT rfl)) (cT rfl)) aE aD (cT rfl) (iT rfl gj)) (rS rfl))) (@wR _ _ _ _ _ _ _ (@mL _ _ _ _ _ _ _ _ (@qb _) (@ki _ _ _ _ _ _ _ _ _ m9 gT M.m_len qZ (@cg _ _ _ _ _ (@eF _ 1 _ _ rfl bA bn bo) (@eY _) (cT rfl)) aq ao (cT rfl) gj) (@ff _ _ _ _) (nj _)) (@wC _ _ _ _ (@tw _ _ _ _ (@qY _ _ _ (@ki _ _ _ _ _ _ _ _ _ uF dX M.m_isinstance qU (@cg _ _ _ _ _ (@kZ _ _ _ _ _ _ _ (@ix_tup _) (@eF _ 1 _ _ rfl bA bn bo) (@ff _ _ _ _) (fun _ _=>rfl)) (@cg _ _ _ _ _ (@uT _ _ (.ty "str") _ _ mn M.m_str Fk rfl kR kQ) (@eY _) (cT rfl)) (cT rfl)) aE aD (cT rfl) (iT rfl gj)) (rS rfl))))))) (@fS _ _ _ (@wc _ _)) (@mO _)) (@fz _ _ _ _ _ (@pG _ _ _ _ _ _ _ _ (@PW.pt _ _ _ (@vA _ _ _ _ _ _ _ (@mL _ _ _ _ _ _ _ _ (@qb _) (@ki _ _ _ _ _ _ _ _ _ m9 gT M.m_len qZ (@cg _ _ _ _ _ (@eF _ 1 _ _ rfl bA bn bo) (@eY _) (cT rfl)) aq ao (cT rfl) gj) (@ff _ _ _ _) (nj _)) (@vB _ _ _ _ (@mL _ _ _ _ _ _ _ _ yO (@kZ _ _ _ _ _ _ _ (@ix_tup _) (@eF _ 1 _ _ rfl bA bn bo) (@ff _ _ _ _) (fun _ _=>rfl)) (@nP _ _ _ _ _ (@cg _ _ _ _ _ (@nS _ _ _ _) (@cg _ _ _ _ _ (@nS _ _ _ _) (@cg _ _ _ _ _ (@nS _ _ _ _) (@eY _) (cT rfl)) (cT rfl)) (cT rfl))) (by with_unfolding_all rfl))))) (@fz _ _ _ _ _ (@ni _ _ 2 _ _ _ _ d7.nd rfl nL (@gY _ _ _ _ _ _ _ _ _ _ _ cX hr dS (@cg _ _ _ _ _ (@kT _ _ _ _ _ _ _ _ (@yl _) (@eF _ 0 _ _ rfl e8 oV oW) (@ff _ _ _ _)) (@cg _ _ _ _ _ (@kZ _ _ _ _ _ _ _ (@ix_tup _) (@eF _ 1 _ _ rfl bA bn bo) (@ff _ _ _ _) (fun _ _=>rfl)) (@eY _) (cT rfl)) (cT rfl)) (by exact Oz97) fF (cT rfl) (iT rfl gj)) (mj rfl) (.inl rfl)) (@fz _ _ _ _ _ (@ni _ _ 3 _ _ _ _ d7.nd rfl nN (@gY _ _ _ _ _ _ _ _ _ _ _ cX hr dS (@cg _ _ _ _ _ (@kT _ _ _ _ _ _ _ _ (@yl _) (@eF _ 0 _ _ rfl e8 oV oW) (@ff _ _ _ _)) (@cg _ _ _ _ _ (@kZ _ _ _ _ _ _ _ (@ix_tup _) (@eF _ 1 _ _ rfl bA bn bo) (@ff _ _ _ _) (fun _ _=>rfl)) (@eY _) (cT rfl)) (cT rfl)) (by exact Oz97) fF (cT rfl) (iT rfl gj)) (mj rfl) (.inl rfl)) (@fS _ _ _ (@jm _ _ _ _ (@gY _ _ _ _ _ _ _ _ _ _ _ cE hr fZ (@cg _ _ _ _ _ (@kZ _ _ _ _ _ _ _ (@ix_tup _) (@eF _ 1 _ _ rfl bA bn bo) (@ff _ _ _ _) (fun _ _=>rfl)) (@cg _ _ _ _ _ (@eF _ 2 _ _ rfl nK fX fY) (@cg _ _ _ _ _ (@eF _ 3 _ _ rfl nM dE dF) (@eY _) (cT rfl)) (cT rfl)) (cT rfl)) (by omega) mT (cT rfl) (iT rfl (iT rfl gj))))))) (@mO _)) (@fS _ _ _ (@jm _ _ _ _ (@gY _ _ _ _ _ _ _ _ _ _ _ cW hr h8 (@cg _ _ _ _ _ (@eF _ 1 _ _ rfl bA bn bo) (@eY _) (cT rfl)) (by omega) oX (cT rfl) gj)))))),?_⟩
 trivial
 have one:n.dp=1→∀ H',Same H H'→ye K cs [V.ref p] H' Q E0:=fun h H' e=>⟨p,n,rfl,R.same e,ok,h,fun a H2 e2=>q a H2 (e.trans e2)⟩
 rw[if_neg (by omega)]
 cases n with
 | any =>
  obtain⟨x,T,a⟩:=yg R
  rw[mK a] at T
  refine⟨_,Kd.tup T,?_⟩
  rw[if_neg (by decide)]
  refine⟨_,.inr T,?_⟩
  rw[if_neg (by simp)]
  refine⟨_,T,_,rfl,_,(show Kd K H (.str _) .str from rfl),?_⟩
  rw[if_neg (by decide)]
  refine⟨_,.inr T,?_⟩
  rw[if_neg (by simp)]
  exact one rfl _ (Same.refl _)
 | made s =>
  obtain⟨x,y,T,a,b⟩:=uC R
  rw[mK a,mK b] at T
  refine⟨_,Kd.tup T,?_⟩
  rw[if_neg (by decide)]
  refine⟨_,.inr T,?_⟩
  rw[if_neg (by simp)]
  refine⟨_,T,_,rfl,_,(show Kd K H (.str _) .str from rfl),?_⟩
  rw[if_neg (by decide)]
  refine⟨_,.inr T,?_⟩
  rw[if_neg (by simp)]
  exact one rfl _ (Same.refl _)
 | used s =>
  obtain⟨x,y,T,a,b⟩:=uC R
  rw[mK a,mK b] at T
  refine⟨_,Kd.tup T,?_⟩
  rw[if_neg (by decide)]
  refine⟨_,.inr T,?_⟩
  rw[if_neg (by simp)]
  refine⟨_,T,_,rfl,_,(show Kd K H (.str _) .str from rfl),?_⟩
  rw[if_neg (by decide)]
  refine⟨_,.inr T,?_⟩
  rw[if_neg (by simp)]
  exact one rfl _ (Same.refl _)
 | chief s =>
  obtain⟨x,y,T,a,b⟩:=uC R
  rw[mK a,mK b] at T
  refine⟨_,Kd.tup T,?_⟩
  rw[if_neg (by decide)]
  refine⟨_,.inr T,?_⟩
  rw[if_neg (by simp)]
  refine⟨_,T,_,rfl,_,(show Kd K H (.str _) .str from rfl),?_⟩
  rw[if_neg (by decide)]
  refine⟨_,.inr T,?_⟩
  rw[if_neg (by simp)]
  exact one rfl _ (Same.refl _)
 | over k1 k2 =>
  obtain⟨x,y,z,T,a,b,c⟩:=qV R
  rw[mK a] at T
  refine⟨_,Kd.tup T,?_⟩
  rw[if_neg (by decide)]
  refine⟨_,.inr T,?_⟩
  rw[if_neg (by simp)]
  refine⟨_,T,_,rfl,_,(show Kd K H (.str _) .str from rfl),?_⟩
  rw[if_neg (by decide)]
  refine⟨_,.inr T,?_⟩
  rw[if_pos (by simp)]
  refine⟨_,T,_,rfl,by decide,fun p1 hp1=>?_⟩
  obtain⟨H1,g1,S1,T1⟩:=oR (K:=K) hp1 [V.str (Str.ofString "both"),V.str (Str.ofString "either"),V.str (Str.ofString "but")]
  rw[← g1]
  clear g1
  refine⟨p1,_,rfl,.inr T1,rfl,rfl,_,rfl,?_⟩
  rw[if_neg (by decide)]
  exact one rfl _ S1
 | both x y =>
  obtain⟨x1,v1,v2,T,a,b,c⟩:=qV R
  rw[mK a] at T
  obtain⟨a1,rfl⟩:=pR b
  obtain⟨a2,rfl⟩:=pR c
  obtain⟨ok1,ok2⟩:=ok
  refine⟨_,Kd.tup T,?_⟩
  rw[if_neg (by decide)]
  refine⟨_,.inr T,?_⟩
  rw[if_neg (by simp)]
  refine⟨_,T,_,rfl,_,(show Kd K H (.str _) .str from rfl),?_⟩
  rw[if_neg (by decide)]
  refine⟨_,.inr T,?_⟩
  rw[if_pos (by simp)]
  refine⟨_,T,_,rfl,by decide,fun p1 hp1=>?_⟩
  obtain⟨H1,g1,S1,T1⟩:=oR (K:=K) hp1 [V.str (Str.ofString "both"),V.str (Str.ofString "either"),V.str (Str.ofString "but")]
  rw[← g1]
  clear g1
  refine⟨p1,_,rfl,.inr T1,rfl,rfl,_,rfl,?_⟩
  rw[if_pos (by decide)]
  have dd:max x.dp y.dp+1≤d+1:=dp
  refine⟨_,Same.tup S1 T,_,rfl,_,a1,x,rfl,by exact Oz28 hl,b.same S1,ok1,by exact Oz1 dd,fun o1 H2 S2 O1=>?_⟩
  have S12:=S1.trans S2
  refine⟨_,Same.tup S12 T,_,rfl,_,a2,y,rfl,by exact Oz28 hl,c.same S12,ok2,by exact Oz0 dd,fun o2 H3 S3 O2=>?_⟩
  have S13:=S12.trans S3
  exact⟨_,Same.tup S13 T,_,rfl,_,o1,o2,x,y,_,rfl,(.inl ⟨rfl,rfl⟩),ObjN.same S3 O1,O2,fun a H' e=>q a H' (S13.trans e)⟩
 | either x y =>
  obtain⟨x1,v1,v2,T,a,b,c⟩:=qV R
  rw[mK a] at T
  obtain⟨a1,rfl⟩:=pR b
  obtain⟨a2,rfl⟩:=pR c
  obtain⟨ok1,ok2⟩:=ok
  refine⟨_,Kd.tup T,?_⟩
  rw[if_neg (by decide)]
  refine⟨_,.inr T,?_⟩
  rw[if_neg (by simp)]
  refine⟨_,T,_,rfl,_,(show Kd K H (.str _) .str from rfl),?_⟩
  rw[if_neg (by decide)]
  refine⟨_,.inr T,?_⟩
  rw[if_pos (by simp)]
  refine⟨_,T,_,rfl,by decide,fun p1 hp1=>?_⟩
  obtain⟨H1,g1,S1,T1⟩:=oR (K:=K) hp1 [V.str (Str.ofString "both"),V.str (Str.ofString "either"),V.str (Str.ofString "but")]
  rw[← g1]
  clear g1
  refine⟨p1,_,rfl,.inr T1,rfl,rfl,_,rfl,?_⟩
  rw[if_pos (by decide)]
  have dd:max x.dp y.dp+1≤d+1:=dp
  refine⟨_,Same.tup S1 T,_,rfl,_,a1,x,rfl,by exact Oz28 hl,b.same S1,ok1,by exact Oz1 dd,fun o1 H2 S2 O1=>?_⟩
  have S12:=S1.trans S2
  refine⟨_,Same.tup S12 T,_,rfl,_,a2,y,rfl,by exact Oz28 hl,c.same S12,ok2,by exact Oz0 dd,fun o2 H3 S3 O2=>?_⟩
  have S13:=S12.trans S3
  exact⟨_,Same.tup S13 T,_,rfl,_,o1,o2,x,y,_,rfl,(.inr (.inl ⟨rfl,rfl⟩)),ObjN.same S3 O1,O2,fun a H' e=>q a H' (S13.trans e)⟩
 | but x y =>
  obtain⟨x1,v1,v2,T,a,b,c⟩:=qV R
  rw[mK a] at T
  obtain⟨a1,rfl⟩:=pR b
  obtain⟨a2,rfl⟩:=pR c
  obtain⟨ok1,ok2⟩:=ok
  refine⟨_,Kd.tup T,?_⟩
  rw[if_neg (by decide)]
  refine⟨_,.inr T,?_⟩
  rw[if_neg (by simp)]
  refine⟨_,T,_,rfl,_,(show Kd K H (.str _) .str from rfl),?_⟩
  rw[if_neg (by decide)]
  refine⟨_,.inr T,?_⟩
  rw[if_pos (by simp)]
  refine⟨_,T,_,rfl,by decide,fun p1 hp1=>?_⟩
  obtain⟨H1,g1,S1,T1⟩:=oR (K:=K) hp1 [V.str (Str.ofString "both"),V.str (Str.ofString "either"),V.str (Str.ofString "but")]
  rw[← g1]
  clear g1
  refine⟨p1,_,rfl,.inr T1,rfl,rfl,_,rfl,?_⟩
  rw[if_pos (by decide)]
  have dd:max x.dp y.dp+1≤d+1:=dp
  refine⟨_,Same.tup S1 T,_,rfl,_,a1,x,rfl,by exact Oz28 hl,b.same S1,ok1,by exact Oz1 dd,fun o1 H2 S2 O1=>?_⟩
  have S12:=S1.trans S2
  refine⟨_,Same.tup S12 T,_,rfl,_,a2,y,rfl,by exact Oz28 hl,c.same S12,ok2,by exact Oz0 dd,fun o2 H3 S3 O2=>?_⟩
  have S13:=S12.trans S3
  exact⟨_,Same.tup S13 T,_,rfl,_,o1,o2,x,y,_,rfl,(.inr (.inr ⟨rfl,rfl⟩)),ObjN.same S3 O1,O2,fun a H' e=>q a H' (S13.trans e)⟩
theorem yh (F:Fun K "note_within" "note_within" ak f fd) (M:Mg mg) (cW:Cal P w K mg base CX0 "note_of_one" 4 ["told"] (ye K cs)) (cE:Cal P w K mg base CX0 "note_of_notes" 3 ["word","one","other"] (xX K cs)) (b:Binds K fd ["left","told"] []) (kp:PySem.W.keepIn K (.ref f)=true) (m:mg "note_within"=some (.ref f)):∀ d:Nat,FnOk P w K mg base CX0 (5+d) f fd ["left","told"] (xj K cs d)
 | 0=>by
  refine F.ok d7 (fun vs H Q E h=>?_) (fun cdv A outer s H vs Q E hr h=>?_)
  ·obtain⟨l,p,n,rfl,_⟩:=h
   rfl
  obtain⟨l,p,n,rfl,hl,R,ok,dp,q⟩:=h
  have:=Nt.dp_pos n
  exact (Oz49 dp this).elim
 | d+1=>DH F M cW cE ⟨⟨f,fd,yh F M cW cE b kp m d,b,kp,m⟩⟩
theorem Fz (F:Fun K "note_of" "note_of" dC f fd) (M:Mg mg) (cX:Cal P w K mg base CX0 "note_within" 10 ["left","told"] (xj K cs 5)):FnOk P w K mg base CX0 11 f fd ["told"] (zN K cs):=by
 refine F.ok uz (fun vs H Q E h=>?_) (fun cdv A outer s H vs Q E hr h=>?_)
 ·obtain⟨p,n,rfl,_⟩:=h
  rfl
 obtain⟨p,n,rfl,R,ok,dp,q⟩:=h
 refine⟨_,(@fS _ _ _ (@jm _ _ _ _ (@gY _ _ _ _ _ _ _ _ _ _ _ cX hr jv (@cg _ _ _ _ _ (@ff _ _ _ _) (@cg _ _ _ _ _ (@eF _ 0 _ _ rfl tP bn bo) (@eY _) (cT rfl)) (cT rfl)) (by decide) fF (cT rfl) (iT rfl gj)))),?_⟩
 trivial
 exact⟨5,p,n,rfl,by decide,R,ok,dp,q⟩
end
end MyC
namespace MyD
open My MyC PySem L2
noncomputable def top (i:Nat):Stmt:=PySem.Challenge.pw_tariffgate_k43_looked.main.body.getD i (.Pass ⟨0,0,0,0⟩)
theorem aJ:(("kinds":Str) == ("__debug__":Str))=false:=by decide
theorem aK:(("kinds":Str) == ("__classdict__":Str))=false:=by decide
theorem bN:(("look":Str) == ("__debug__":Str))=false:=by decide
theorem bO:(("look":Str) == ("__classdict__":Str))=false:=by decide
theorem lB:(("max":Str) == ("__debug__":Str))=false:=by decide
theorem lC:("max":Str)≠"__name__":=by decide
theorem lD:(("number_in":Str) == ("__debug__":Str))=false:=by decide
theorem eV:(("places":Str) == ("__debug__":Str))=false:=by decide
theorem eW:(("places":Str) == ("__classdict__":Str))=false:=by decide
abbrev bX:Stmt:=top 23
theorem pc:FnScope ["kinds","look","stuff"] ["kinds","look","stuff"] (defScope bX):=⟨rfl,rfl,rfl,by decide +kernel,rfl,by decide +kernel,by decide +kernel⟩
theorem iY:Vis (defScope bX) "kinds":=by decreasing_trivial
theorem ee:(defScope bX).names.lookup ("enumerate":Str)=some .globalImplicit:=by rfl
abbrev bY:Stmt:=top 24
theorem pe:FnScope ["kinds","look","use"] ["kinds","look","use"] (defScope bY):=⟨rfl,rfl,rfl,by decide +kernel,rfl,by decide +kernel,by decide +kernel⟩
theorem iZ:Vis (defScope bY) "kinds":=by decreasing_trivial
theorem eh:(defScope bY).names.lookup ("enumerate":Str)=some .globalImplicit:=by rfl
abbrev bb:Stmt:=top 25
theorem i0:FnScope ["kinds","look","stuff","greatest"] ["kinds","look","stuff"] (defScope bb):=⟨rfl,rfl,rfl,by decide +kernel,rfl,by decide +kernel,by decide +kernel⟩
theorem iB:Vis (defScope bb) "kinds":=by decreasing_trivial
theorem mW:Vis (defScope bb) "look":=by decreasing_trivial
theorem mX:Loc (defScope bb) "greatest":=by first | exact Or.inl rfl | exact Or.inr rfl
theorem lE:(defScope bb).names.lookup ("max":Str)=some .globalImplicit:=by rfl
theorem dY:(defScope bb).names.lookup ("enumerate":Str)=some .globalImplicit:=by rfl
abbrev cq:Stmt:=top 26
theorem sw:FnScope ["kinds","look","kind"] ["kinds","look","kind"] (defScope cq):=⟨rfl,rfl,rfl,by decide +kernel,rfl,by decide +kernel,by decide +kernel⟩
theorem ke:Vis (defScope cq) "kinds":=by decreasing_trivial
theorem qM:Vis (defScope cq) "look":=by decreasing_trivial
theorem kg:Vis (defScope cq) "kind":=by decreasing_trivial
abbrev cB:Stmt:=top 27
theorem uA:FnScope ["kinds","look","one","other"] ["kinds","look","one","other"] (defScope cB):=⟨rfl,rfl,rfl,by decide +kernel,rfl,by decide +kernel,by decide +kernel⟩
theorem mH:Vis (defScope cB) "kinds":=by decreasing_trivial
theorem mI:Vis (defScope cB) "look":=by decreasing_trivial
theorem tQ:Vis (defScope cB) "one":=by decreasing_trivial
theorem tR:Vis (defScope cB) "other":=by decreasing_trivial
theorem fC:(defScope cB).names.lookup ("number_in":Str)=some .globalImplicit:=by rfl
abbrev bP:Stmt:=top 28
theorem nO:FnScope ["places"] ["places"] (defScope bP):=⟨rfl,rfl,rfl,by decide +kernel,rfl,by decide +kernel,by decide +kernel⟩
theorem iC:Vis (defScope bP) "places":=by decreasing_trivial
theorem lF:(defScope bP).names.lookup ("len":Str)=some .globalImplicit:=by rfl
structure Ground (K:PySem.W.Frag) (H:Hp) (kl lt:Addr) (ks:List Kd2) (lk:List Int):Prop where
 kx:∃ xs,SqL K H kl xs∧KnA K H xs ks
 look:SqT K H lt (lk.map V.int)
 len:lk.length=ks.length
 pos:1≤ks.length
 le:ks.length≤4
 ok:∀ k∈ks,okKind k
 nn:∀ x∈lk,0≤x
theorem Ground.same {K:PySem.W.Frag} {H H':Hp} {kl lt:Addr} {ks:List Kd2} {lk:List Int} (G:Ground K H kl lt ks lk) (e:Same H H'):Ground K H' kl lt ks lk :=
 ⟨let ⟨xs,a,b⟩:=G.kx; ⟨xs,e.seq a,b.same e⟩,Same.tup e G.look,G.len,G.pos,G.le,G.ok,G.nn⟩
theorem Ground.at {K:PySem.W.Frag} {H:Hp} {kl lt:Addr} {ks:List Kd2} {lk:List Int} (G:Ground K H kl lt ks lk) {i:Nat} {k:Kd2} (h:ks[i]?=some k):∃ x,lk[i]?=some x∧atI (lk.map V.int) (i:Int)=some (.int x)∧x∈lk∧0≤x:=by
 have hi:=(List.getElem?_eq_some_iff.mp h).1
 have hj:i<lk.length:=by rw[G.len]; exact hi
 have e:lk[i]?=some lk[i]:=List.getElem?_eq_getElem hj
 have m:lk[i]∈lk:=List.getElem_mem _
 exact⟨_,e,um (by rw[List.getElem?_map,e]; rfl),m,G.nn _ m⟩
noncomputable def uZ (ks:List Kd2) (lk:List Int) (p:Kd2→Int→Bool):Bool:=(ks.zip lk).any fun q=>p q.1 q.2
noncomputable def vL (ks:List Kd2) (lk:List Int) (p:Kd2→Int→Bool) (i:Nat):Bool:=((ks.zip lk).take i).any fun q=>p q.1 q.2
theorem xx {ks:List Kd2} {lk:List Int} {p:Kd2→Int→Bool} {i:Nat} {k:Kd2} {x:Int} (h1:ks[i]?=some k) (h2:lk[i]?=some x):vL ks lk p (i+1)=(vL ks lk p i || p k x):=by
 unfold vL
 have e:(ks.zip lk)[i]?=some (k,x):=by
  rw[List.getElem?_zip_eq_some]
  exact⟨h1,h2⟩
 rw[List.take_succ,e,List.any_append]
 simp
theorem xW {ks:List Kd2} {lk:List Int} {p:Kd2→Int→Bool} (h:lk.length=ks.length):vL ks lk p ks.length=uZ ks lk p:=by
 unfold vL uZ
 rw[List.take_of_length_le (by rw[List.length_zip]; omega)]
noncomputable def v9 (lk:List Int) (s:List Nat) (k:Kd2) (x:Int):Bool:=decide (x≠0) && decide (k.1=s)
noncomputable def v8 (lk:List Int) (s:List Nat) (k:Kd2) (x:Int):Bool:=decide (x≠0) && decide (k.2=s)
noncomputable def vt (lk:List Int) (s:List Nat) (k:Kd2) (x:Int):Bool:=decide (∀ y∈lk,y≤x) && decide (k.1=s)
def vE (K:PySem.W.Frag) (p:List Int→List Nat→Kd2→Int→Bool):Sp:=fun vs H Q _=>∃ (kl lt:Addr) (s:List Nat) (ks:List Kd2) (lk:List Int),vs=[.ref kl,.ref lt,.str (txt s)]∧Ground K H kl lt ks lk ∧
 ∀ l xs H',Same H H'→H' l=some (.lst xs)→xs.length≤4→xs.isEmpty = !(uZ ks lk (p lk s))→Q (.ref l) H'
def xM (K:PySem.W.Frag):Sp:=fun vs H Q _=>∃ (l:Addr) (xs:List V),vs=[.ref l]∧H l=some (.lst xs)∧∀ p y H',Same H H'→SqT K H' p [.bl (!xs.isEmpty),y]→Q (.ref p) H'
noncomputable def wU (ks:List Kd2) (lk:List Int) (k:Kd2):Int:=(((ks.zip lk).find? fun q=>decide (q.1=k)).map (·.2)).getD 0
def wK (K:PySem.W.Frag):Sp:=fun vs H Q _=>∃ (kl lt p:Addr) (ks:List Kd2) (lk:List Int) (k:Kd2),vs=[.ref kl,.ref lt,.ref p]∧Ground K H kl lt ks lk∧SqT K H p (kRow k)∧okKind k∧∀ H',Same H H'→Q (.int (wU ks lk k)) H'
def CG (K:PySem.W.Frag):Sp:=fun vs H Q _=>∃ (kl lt p1 p2:Addr) (ks:List Kd2) (lk:List Int) (k1 k2:Kd2),vs=[.ref kl,.ref lt,.ref p1,.ref p2]∧Ground K H kl lt ks lk∧SqT K H p1 (kRow k1)∧okKind k1∧SqT K H p2 (kRow k2)∧okKind k2∧∀ H',Same H H'→Q (.bl (decide (wU ks lk k1 > wU ks lk k2))) H'
theorem CI {ks:List Kd2} {k:Kd2} (h:k∈ks):∃ j:Nat,ks[j]?=some k∧∀ (m:Nat) (z:Kd2),m<j→ks[m]?=some z→z≠k:=by
 induction ks with
 | nil=>cases h
 | cons c ks ih =>
  by_cases e:c=k
  ·exact⟨0,by rw[e]; rfl,fun m z hm=>absurd hm (by omega)⟩
  ·have h':k∈ks:=by
    rcases List.mem_cons.mp h with z | z
    ·exact absurd z.symm e
    ·exact z
   obtain⟨j,h1,h2⟩:=ih h'
   refine⟨j+1,by simpa using h1,fun m z hm hz=>?_⟩
   cases m with
   | zero=>simp at hz; rw[← hz]; exact e
   | succ m=>exact h2 m z (by omega) (by simpa using hz)
theorem zR {k:Kd2} {x:Int}:∀ {j:Nat} {ks:List Kd2} {lk:List Int},ks[j]?=some k→(∀ (m:Nat) (z:Kd2),m<j→ks[m]?=some z→z≠k)→lk[j]?=some x→wU ks lk k=x
 | _,[],_,h,_,_=>by simp at h
 | _,_::_,[],_,_,h=>by simp at h
 | 0,c::ks,y::lk,h,_,h2=>by
  simp at h h2
  subst h h2
  unfold wU
  simp
 | j+1,c::ks,y::lk,h,hno,h2=>by
  have e:c≠k:=hno 0 c (by omega) rfl
  have ih:=zR (j:=j) (ks:=ks) (lk:=lk) (k:=k) (x:=x) (by simpa using h) (fun m z hm hz=>hno (m+1) z (by exact Oz94 hm) (by simpa using hz)) (by simpa using h2)
  unfold wU at ih ⊢
  rw[List.zip_cons_cons,List.find?_cons_of_neg (by simpa using e)]
  exact ih
theorem yZ {k:Kd2}:∀ {ks:List Kd2} {lk:List Int},k ∉ ks→wU ks lk k=0
 | [],_,_=>rfl
 | _::_,[],_=>rfl
 | c::ks,y::lk,h=>by
  have e:c≠k:=fun z=>h (by rw[z]; exact List.mem_cons_self)
  have ih:=yZ (ks:=ks) (lk:=lk) (k:=k) fun z=>h (List.mem_cons_of_mem _ z)
  unfold wU at ih ⊢
  rw[List.zip_cons_cons,List.find?_cons_of_neg (by simpa using e)]
  exact ih
theorem txtV {a b:List Nat}:V.str (txt a)=V.str (txt b)↔a=b:=by
 constructor
 ·intro e
  have e2:txt a=txt b:=by injection e
  refine of_decide_eq_true ?_
  rw[← zy,e2]
  exact beq_self_eq_true _
 ·intro e
  rw[e]
section
variable {P:Program} {w:World} {K:PySem.W.Frag} {mg:Str→Option Value} {base:Heap} {f:Addr} {fd:FuncData}
theorem AF (F:Fun K "made_places" "made_places" bX f fd) (M:Mg mg):FnOk P w K mg base CX0 1 f fd ["kinds","look","stuff"] (vE K v9):=by
 refine F.ok pc (fun vs H Q E h=>?_) (fun cdv A outer s H vs Q E hr h=>?_)
 ·obtain⟨kl,lt,s,ks,lk,rfl,_⟩:=h
  rfl
 obtain⟨kl,lt,st,ks,lk,rfl,G,q⟩:=h
 obtain⟨kx,L,A⟩:=G.kx
 have lx:=A.length
 refine⟨_,(@fS _ _ _ (@jm _ _ _ _ (@rZ _ _ _ _ _ _ _ _ _ _ _ _ _ _ _ rfl (CompOk.make (N':=["stuff","look","place","kind"]) (ix:=[2,1]) (nl:=2) (by rfl) (fm1 rfl (fm1 rfl fm0)) (by rfl) (by decide +kernel) rfl (by decide +kernel) rfl (And.intro ⟨rfl,.inl rfl,.inl rfl⟩ (And.intro ⟨rfl,.inl rfl,.inl rfl⟩ True.intro))) (@BP _ _ _ _ _ (@yu _ _ _ _ _ _ _ _ ee M.m_enumerate (@cg _ _ _ _ _ (@eF _ 0 _ _ rfl iY aJ aK) (@eY _) (cT rfl)) (by rfl)) (@yD _ _ _ _ _ _ _ _ ee M.m_enumerate (@cg _ _ _ _ _ (@eF _ 0 _ _ rfl iY aJ aK) (@eY _) (cT rfl)) (by rfl))) (fun _ _ _ _ _=>(@zo _ K _ _ 2 _ _ rfl rfl (@t9 _ _ _ _ _ (@pF _ _ 2 _ (show List.Nodup (["stuff","look","place","kind"]:List Str) from by decide) rfl (Or.inl rfl) (by first | exact .inl rfl | exact .inr rfl | assumption)) (@t9 _ _ _ _ _ (@pF _ _ 3 _ (show List.Nodup (["stuff","look","place","kind"]:List Str) from by decide) rfl (Or.inl rfl) (by first | exact .inl rfl | exact .inr rfl | assumption)) (@xF _) (by rfl)) (by rfl)) (by rfl) (by rfl))) (fun _ _ _ _ _=>(@wk _ _ _ (@PW.pt _ _ _ (@vA _ _ _ _ _ _ _ (@mL _ _ _ _ _ _ _ _ (@zx _) (@kZ _ _ _ _ _ _ _ (vq (K:=K) rfl) (@pv _ 1 _ _ (by rfl) (by decreasing_trivial) (by decide) (by decide)) (@pv _ 2 _ _ (by rfl) (by decreasing_trivial) (by decide) (by decide)) (fun _ _=>rfl)) (@ff _ _ _ _) (nj _)) (@vB _ _ _ _ (@mL _ _ _ _ _ _ _ _ (@qb _) (@kZ _ _ _ _ _ _ _ (vq (K:=K) rfl) (@pv _ 3 _ _ (by rfl) (by decreasing_trivial) (by decide) (by decide)) (@ff _ _ _ _) (fun _ _=>rfl)) (@pv _ 0 _ _ (by rfl) (by decreasing_trivial) (by decide) (by decide)) (nj _))))))) (fun _ _ _ _ _=>(@pv _ 2 _ _ (by rfl) (by decreasing_trivial) (by decide) (by decide))) (by intro _; rfl)))),?_⟩
 trivial
 obtain⟨Pc,hC⟩:∃ Pc:Addr→Nat→St→Hp→Prop,Pc=fun D i τ H'=>∃ y z xs,H' D=some (.lst xs)∧xs.length≤i∧xs.isEmpty = !(vL ks lk (v9 lk st) i)∧Same H H'∧τ=[some (.str (txt st)),some (.ref lt),y,z]:=⟨_,rfl⟩
 refine wW kx (.inl L) _ Pc ?_ (fun D i τ H' hD h=>by rw[hC] at h; obtain⟨y,z,xs,_,_,_,e,_⟩:=h; exact e) ?_ ?_
 ·intro D hD
  rw[hC]
  exact⟨_,_,_,fj,Nat.le_refl _,rfl,gI hD _,rfl⟩
 ·intro D i x T τ H' R' hD hx h hT next
  rw[hC] at h
  obtain⟨y,z,xs,d1,d3,d4,d2,rfl⟩:=h
  obtain⟨p,k,rfl,hk,hp⟩:=A.at hx
  obtain⟨x,e1,e2,m,nn⟩:=G.at hk
  have li:=(List.getElem?_eq_some_iff.mp hk).1
  have l4:=G.le
  obtain⟨H2,g2,S2,T2⟩:=oR (K:=K) hT [.int i,.ref p]
  rw[← g2]
  clear g2
  replace d1:=S2 _ _ d1
  replace d2:=d2.trans S2
  trivial
  refine⟨_,T2,rfl,?_⟩
  trivial
  refine⟨_,Same.tup d2 G.look,_,e2,rfl,?_⟩
  have stp:=xx (p:=v9 lk st) hk e1
  have nx:∀ (xs':List V) (H3:Hp),H3 D=some (.lst xs')→xs'.length≤i+1→xs'.isEmpty = !(vL ks lk (v9 lk st) (i+1))→Same H H3→R' [some (.str (txt st)),some (.ref lt),some (.int i),some (.ref p)] H3:=fun xs' H3 a1 a2 a3 a4=>next _ _ (by rw[hC]; exact⟨_,_,_,a1,a2,a3,a4,rfl⟩)
  by_cases hz:x=0
  ·rw[if_pos (by rw[hz])]
   exact nx _ _ d1 (by exact Oz15 d3) (by rw[stp,d4]; simp [v9,hz]) d2
  ·rw[if_neg (fun e=>hz (by injection e))]
   refine⟨_,Same.tup d2 hp,_,rfl,rfl,?_⟩
   by_cases hs:k.1=st
   ·rw[if_pos (txtV.mpr hs)]
    refine⟨_,d1,Nat.lt_of_le_of_lt d3 (Nat.lt_of_lt_of_le (m:=64) (by exact Oz48 li l4) (by decide)),nx _ _ fj (by rw[List.length_append]; simp; exact Oz23 d3) (by rw[stp]; simp [v9,hz,hs]) (pI d2 hD _)⟩
   ·rw[if_neg fun e=>hs (txtV.mp e)]
    exact nx _ _ d1 (by exact Oz15 d3) (by rw[stp,d4]; simp [v9,hs]) d2
 ·intro D τ H' hD h
  rw[hC] at h
  obtain⟨y,z,xs,d1,d3,d4,d2,rfl⟩:=h
  have l4:=G.le
  rw[lx] at d3 d4
  rw[xW G.len] at d4
  exact q _ _ _ d2 d1 (by exact Oz50 d3 l4) d4
theorem AC (F:Fun K "used_places" "used_places" bY f fd) (M:Mg mg):FnOk P w K mg base CX0 1 f fd ["kinds","look","use"] (vE K v8):=by
 refine F.ok pe (fun vs H Q E h=>?_) (fun cdv A outer s H vs Q E hr h=>?_)
 ·obtain⟨kl,lt,s,ks,lk,rfl,_⟩:=h
  rfl
 obtain⟨kl,lt,st,ks,lk,rfl,G,q⟩:=h
 obtain⟨kx,L,A⟩:=G.kx
 have lx:=A.length
 refine⟨_,(@fS _ _ _ (@jm _ _ _ _ (@rZ _ _ _ _ _ _ _ _ _ _ _ _ _ _ _ rfl (CompOk.make (N':=["use","look","place","kind"]) (ix:=[2,1]) (nl:=2) (by rfl) (fm1 rfl (fm1 rfl fm0)) (by rfl) (by decide +kernel) rfl (by decide +kernel) rfl (And.intro ⟨rfl,.inl rfl,.inl rfl⟩ (And.intro ⟨rfl,.inl rfl,.inl rfl⟩ True.intro))) (@BP _ _ _ _ _ (@yu _ _ _ _ _ _ _ _ eh M.m_enumerate (@cg _ _ _ _ _ (@eF _ 0 _ _ rfl iZ aJ aK) (@eY _) (cT rfl)) (by rfl)) (@yD _ _ _ _ _ _ _ _ eh M.m_enumerate (@cg _ _ _ _ _ (@eF _ 0 _ _ rfl iZ aJ aK) (@eY _) (cT rfl)) (by rfl))) (fun _ _ _ _ _=>(@zo _ K _ _ 2 _ _ rfl rfl (@t9 _ _ _ _ _ (@pF _ _ 2 _ (show List.Nodup (["use","look","place","kind"]:List Str) from by decide) rfl (Or.inl rfl) (by first | exact .inl rfl | exact .inr rfl | assumption)) (@t9 _ _ _ _ _ (@pF _ _ 3 _ (show List.Nodup (["use","look","place","kind"]:List Str) from by decide) rfl (Or.inl rfl) (by first | exact .inl rfl | exact .inr rfl | assumption)) (@xF _) (by rfl)) (by rfl)) (by rfl) (by rfl))) (fun _ _ _ _ _=>(@wk _ _ _ (@PW.pt _ _ _ (@vA _ _ _ _ _ _ _ (@mL _ _ _ _ _ _ _ _ (@zx _) (@kZ _ _ _ _ _ _ _ (vq (K:=K) rfl) (@pv _ 1 _ _ (by rfl) (by decreasing_trivial) (by decide) (by decide)) (@pv _ 2 _ _ (by rfl) (by decreasing_trivial) (by decide) (by decide)) (fun _ _=>rfl)) (@ff _ _ _ _) (nj _)) (@vB _ _ _ _ (@mL _ _ _ _ _ _ _ _ (@qb _) (@kZ _ _ _ _ _ _ _ (vq (K:=K) rfl) (@pv _ 3 _ _ (by rfl) (by decreasing_trivial) (by decide) (by decide)) (@ff _ _ _ _) (fun _ _=>rfl)) (@pv _ 0 _ _ (by rfl) (by decreasing_trivial) (by decide) (by decide)) (nj _))))))) (fun _ _ _ _ _=>(@pv _ 2 _ _ (by rfl) (by decreasing_trivial) (by decide) (by decide))) (by intro _; rfl)))),?_⟩
 trivial
 obtain⟨Pc,hC⟩:∃ Pc:Addr→Nat→St→Hp→Prop,Pc=fun D i τ H'=>∃ y z xs,H' D=some (.lst xs)∧xs.length≤i∧xs.isEmpty = !(vL ks lk (v8 lk st) i)∧Same H H'∧τ=[some (.str (txt st)),some (.ref lt),y,z]:=⟨_,rfl⟩
 refine wW kx (.inl L) _ Pc ?_ (fun D i τ H' hD h=>by rw[hC] at h; obtain⟨y,z,xs,_,_,_,e,_⟩:=h; exact e) ?_ ?_
 ·intro D hD
  rw[hC]
  exact⟨_,_,_,fj,Nat.le_refl _,rfl,gI hD _,rfl⟩
 ·intro D i x T τ H' R' hD hx h hT next
  rw[hC] at h
  obtain⟨y,z,xs,d1,d3,d4,d2,rfl⟩:=h
  obtain⟨p,k,rfl,hk,hp⟩:=A.at hx
  obtain⟨x,e1,e2,m,nn⟩:=G.at hk
  have li:=(List.getElem?_eq_some_iff.mp hk).1
  have l4:=G.le
  obtain⟨H2,g2,S2,T2⟩:=oR (K:=K) hT [.int i,.ref p]
  rw[← g2]
  clear g2
  replace d1:=S2 _ _ d1
  replace d2:=d2.trans S2
  trivial
  refine⟨_,T2,rfl,?_⟩
  trivial
  refine⟨_,Same.tup d2 G.look,_,e2,rfl,?_⟩
  have stp:=xx (p:=v8 lk st) hk e1
  have nx:∀ (xs':List V) (H3:Hp),H3 D=some (.lst xs')→xs'.length≤i+1→xs'.isEmpty = !(vL ks lk (v8 lk st) (i+1))→Same H H3→R' [some (.str (txt st)),some (.ref lt),some (.int i),some (.ref p)] H3:=fun xs' H3 a1 a2 a3 a4=>next _ _ (by rw[hC]; exact⟨_,_,_,a1,a2,a3,a4,rfl⟩)
  by_cases hz:x=0
  ·rw[if_pos (by rw[hz])]
   exact nx _ _ d1 (by exact Oz15 d3) (by rw[stp,d4]; simp [v8,hz]) d2
  ·rw[if_neg (fun e=>hz (by injection e))]
   refine⟨_,Same.tup d2 hp,_,rfl,rfl,?_⟩
   by_cases hs:k.2=st
   ·rw[if_pos (txtV.mpr hs)]
    refine⟨_,d1,Nat.lt_of_le_of_lt d3 (Nat.lt_of_lt_of_le (m:=64) (by exact Oz48 li l4) (by decide)),nx _ _ fj (by rw[List.length_append]; simp; exact Oz23 d3) (by rw[stp]; simp [v8,hz,hs]) (pI d2 hD _)⟩
   ·rw[if_neg fun e=>hs (txtV.mp e)]
    exact nx _ _ d1 (by exact Oz15 d3) (by rw[stp,d4]; simp [v8,hs]) d2
 ·intro D τ H' hD h
  rw[hC] at h
  obtain⟨y,z,xs,d1,d3,d4,d2,rfl⟩:=h
  have l4:=G.le
  rw[lx] at d3 d4
  rw[xW G.len] at d4
  exact q _ _ _ d2 d1 (by exact Oz50 d3 l4) d4
theorem z7 (F:Fun K "chief_places" "chief_places" bb f fd) (M:Mg mg):FnOk P w K mg base CX0 1 f fd ["kinds","look","stuff"] (vE K vt):=by
 refine F.ok i0 (fun vs H Q E h=>?_) (fun cdv A outer s H vs Q E hr h=>?_)
 ·obtain⟨kl,lt,s,ks,lk,rfl,_⟩:=h
  rfl
 obtain⟨kl,lt,st,ks,lk,rfl,G,q⟩:=h
 obtain⟨kx,L,A⟩:=G.kx
 have lx:=A.length
 refine⟨_,(@fz _ _ _ _ _ (@ni _ _ 3 _ _ _ _ i0.nd rfl mX (@ki _ _ _ _ _ _ _ _ _ (Bj rfl) lE M.m_max FI (@cg _ _ _ _ _ (@eF _ 1 _ _ rfl mW bN bO) (@eY _) (cT rfl)) lC lB (cT rfl) gj) (mj rfl) (.inl rfl)) (@fS _ _ _ (@jm _ _ _ _ (@rZ _ _ _ _ _ _ _ _ _ _ _ _ _ _ _ rfl (CompOk.make (N':=["greatest","stuff","look","place","kind"]) (ix:=[3,2,1]) (nl:=2) (by rfl) (fm1 rfl (fm1 rfl (fm1 rfl fm0))) (by rfl) (by decide +kernel) rfl (by decide +kernel) rfl (And.intro ⟨rfl,.inl rfl,.inl rfl⟩ (And.intro ⟨rfl,.inl rfl,.inl rfl⟩ (And.intro ⟨rfl,.inl rfl,.inl rfl⟩ True.intro)))) (@BP _ _ _ _ _ (@yu _ _ _ _ _ _ _ _ dY M.m_enumerate (@cg _ _ _ _ _ (@eF _ 0 _ _ rfl iB aJ aK) (@eY _) (cT rfl)) (by rfl)) (@yD _ _ _ _ _ _ _ _ dY M.m_enumerate (@cg _ _ _ _ _ (@eF _ 0 _ _ rfl iB aJ aK) (@eY _) (cT rfl)) (by rfl))) (fun _ _ _ _ _=>(@zo _ K _ _ 2 _ _ rfl rfl (@t9 _ _ _ _ _ (@pF _ _ 3 _ (show List.Nodup (["greatest","stuff","look","place","kind"]:List Str) from by decide) rfl (Or.inl rfl) (by first | exact .inl rfl | exact .inr rfl | assumption)) (@t9 _ _ _ _ _ (@pF _ _ 4 _ (show List.Nodup (["greatest","stuff","look","place","kind"]:List Str) from by decide) rfl (Or.inl rfl) (by first | exact .inl rfl | exact .inr rfl | assumption)) (@xF _) (by rfl)) (by rfl)) (by rfl) (by rfl))) (fun _ _ _ _ _=>(@wk _ _ _ (@PW.pt _ _ _ (@vA _ _ _ _ _ _ _ (@mL _ _ _ _ _ _ _ _ (@qb _) (@kZ _ _ _ _ _ _ _ (vq (K:=K) rfl) (@pv _ 2 _ _ (by rfl) (by decreasing_trivial) (by decide) (by decide)) (@pv _ 3 _ _ (by rfl) (by decreasing_trivial) (by decide) (by decide)) (fun _ _=>rfl)) (@pv _ 0 _ _ (by rfl) (by decreasing_trivial) (by decide) (by decide)) (nj _)) (@vB _ _ _ _ (@mL _ _ _ _ _ _ _ _ (@qb _) (@kZ _ _ _ _ _ _ _ (vq (K:=K) rfl) (@pv _ 4 _ _ (by rfl) (by decreasing_trivial) (by decide) (by decide)) (@ff _ _ _ _) (fun _ _=>rfl)) (@pv _ 1 _ _ (by rfl) (by decreasing_trivial) (by decide) (by decide)) (nj _))))))) (fun _ _ _ _ _=>(@pv _ 3 _ _ (by rfl) (by decreasing_trivial) (by decide) (by decide))) (by intro _; rfl))))),?_⟩
 trivial
 refine⟨lk,.inr G.look,by rw[G.len]; exact G.pos,fun mx hm htop=>?_⟩
 obtain⟨Pc,hC⟩:∃ Pc:Addr→Nat→St→Hp→Prop,Pc=fun D i τ H'=>∃ y z xs,H' D=some (.lst xs)∧xs.length≤i∧xs.isEmpty = !(vL ks lk (vt lk st) i)∧Same H H'∧τ=[some (.int mx),some (.str (txt st)),some (.ref lt),y,z]:=⟨_,rfl⟩
 refine wW kx (.inl L) _ Pc ?_ (fun D i τ H' hD h=>by rw[hC] at h; obtain⟨y,z,xs,_,_,_,e,_⟩:=h; exact e) ?_ ?_
 ·intro D hD
  rw[hC]
  exact⟨_,_,_,fj,Nat.le_refl _,rfl,gI hD _,rfl⟩
 ·intro D i x T τ H' R' hD hx h hT next
  rw[hC] at h
  obtain⟨y,z,xs,d1,d3,d4,d2,rfl⟩:=h
  obtain⟨p,k,rfl,hk,hp⟩:=A.at hx
  obtain⟨x,e1,e2,m,nn⟩:=G.at hk
  have li:=(List.getElem?_eq_some_iff.mp hk).1
  have l4:=G.le
  obtain⟨H2,g2,S2,T2⟩:=oR (K:=K) hT [.int i,.ref p]
  rw[← g2]
  clear g2
  replace d1:=S2 _ _ d1
  replace d2:=d2.trans S2
  trivial
  refine⟨_,T2,rfl,?_⟩
  trivial
  refine⟨_,Same.tup d2 G.look,_,e2,rfl,?_⟩
  have stp:=xx (p:=vt lk st) hk e1
  have nx:∀ (xs':List V) (H3:Hp),H3 D=some (.lst xs')→xs'.length≤i+1→xs'.isEmpty = !(vL ks lk (vt lk st) (i+1))→Same H H3→R' [some (.int mx),some (.str (txt st)),some (.ref lt),some (.int i),some (.ref p)] H3:=fun xs' H3 a1 a2 a3 a4=>next _ _ (by rw[hC]; exact⟨_,_,_,a1,a2,a3,a4,rfl⟩)
  have hz':x=mx↔∀ y∈lk,y≤x:=⟨fun e y hy=>e ▸ htop y hy,fun h=>by
   have a:=htop x m
   have b:=h mx hm
   omega⟩
  by_cases hz:¬ ∀ y∈lk,y≤x
  ·rw[if_neg (fun e=>hz (hz'.mp (by injection e)))]
   exact nx _ _ d1 (by exact Oz15 d3) (by rw[stp,d4]; simp [vt,hz]) d2
  ·rw[if_pos (by rw[hz'.mpr (Decidable.not_not.mp hz)])]
   refine⟨_,Same.tup d2 hp,_,rfl,rfl,?_⟩
   by_cases hs:k.1=st
   ·rw[if_pos (txtV.mpr hs)]
    refine⟨_,d1,Nat.lt_of_le_of_lt d3 (Nat.lt_of_lt_of_le (m:=64) (by exact Oz48 li l4) (by decide)),nx _ _ fj (by rw[List.length_append]; simp; exact Oz23 d3) (by rw[stp,show vt lk st k x=true from by unfold vt; rw[decide_eq_true (Decidable.not_not.mp hz),decide_eq_true hs]; rfl]; simp) (pI d2 hD _)⟩
   ·rw[if_neg fun e=>hs (txtV.mp e)]
    exact nx _ _ d1 (by exact Oz15 d3) (by rw[stp,d4]; simp [vt,hs]) d2
 ·intro D τ H' hD h
  rw[hC] at h
  obtain⟨y,z,xs,d1,d3,d4,d2,rfl⟩:=h
  have l4:=G.le
  rw[lx] at d3 d4
  rw[xW G.len] at d4
  exact q _ _ _ d2 d1 (by exact Oz50 d3 l4) d4
theorem Am (F:Fun K "place_reason" "place_reason" bP f fd) (M:Mg mg):FnOk P w K mg base CX0 1 f fd ["places"] (xM K):=by
 refine F.ok nO (fun vs H Q E h=>?_) (fun cdv A outer s H vs Q E hr h=>?_)
 ·obtain⟨l,xs,rfl,_⟩:=h
  rfl
 obtain⟨l,xs,rfl,hl,q⟩:=h
 refine⟨_,(@fz _ _ _ _ _ (@pG _ _ _ _ _ _ _ _ (@mL _ _ _ _ _ _ _ _ (@qb _) (@ki _ _ _ _ _ _ _ _ _ m9 lF M.m_len qZ (@cg _ _ _ _ _ (@eF _ 0 _ _ rfl iC eV eW) (@eY _) (cT rfl)) aq ao (cT rfl) gj) (@ff _ _ _ _) (nj _)) (@fS _ _ _ (@jm _ _ _ _ (@nP _ _ _ _ _ (@cg _ _ _ _ _ (@sf _ _ _ _) (@cg _ _ _ _ _ (@CV _ _ _) (@eY _) (cT rfl)) (cT rfl))))) (@mO _)) (@fS _ _ _ (@jm _ _ _ _ (@nP _ _ _ _ _ (@cg _ _ _ _ _ (@sf _ _ _ _) (@cg _ _ _ _ _ (@kZ _ _ _ _ _ _ _ (@ix_list _) (@eF _ 0 _ _ rfl iC eV eW) (@ff _ _ _ _) (fun _ _=>rfl)) (@eY _) (cT rfl)) (cT rfl)))))),?_⟩
 trivial
 refine⟨xs,.inl (SqL.of hl),?_⟩
 cases xs with
 | nil =>
  rw[if_pos (show ((([]:List V).length:Nat):Int)=0 from rfl)]
  exact⟨by decide,fun p hp=>q _ _ _ (gI hp _) (SqT.of fj)⟩
 | cons x xs =>
  rw[if_neg (by rw[List.length_cons]; omega)]
  exact⟨_,SqL.of hl,x,(um (j:=0) rfl:atI (x::xs) ((0:Nat):Int)=some x),by decide,fun p hp=>q _ _ _ (gI hp _) (SqT.of fj)⟩
theorem B5 (F:Fun K "number_in" "number_in" cq f fd) (M:Mg mg):FnOk P w K mg base CX0 1 f fd ["kinds","look","kind"] (wK K):=by
 refine F.ok sw (fun vs H Q E h=>?_) (fun cdv A outer s H vs Q E hr h=>?_)
 ·obtain⟨kl,lt,p,ks,lk,k,rfl,_⟩:=h
  rfl
 obtain⟨kl,lt,p,ks,lk,k,rfl,G,hp,ok,q⟩:=h
 obtain⟨kx,L,A⟩:=G.kx
 have lx:=A.length
 refine⟨_,(@fz _ _ _ _ _ (@pG _ _ _ _ _ _ _ _ (@mL _ _ _ _ _ _ _ _ (Ga (xQ hr)) (@eF _ 2 _ _ rfl kg oH oJ) (@eF _ 0 _ _ rfl ke aJ aK) (by with_unfolding_all rfl)) (@fS _ _ _ (@jm _ _ _ _ (@ff _ _ _ _))) (@mO _)) (@fS _ _ _ (@jm _ _ _ _ (@kZ _ _ _ _ _ _ _ (@ix_tup _) (@eF _ 1 _ _ rfl qM bN bO) (@wD _ _ _ _ _ _ _ _ _ _ _ _ PySem.F.plainAttrs_list PySem.F.slot_list_index PySem.F.type_list_index (Bm (K:=K) rfl (xQ hr)) (@eF _ 0 _ _ rfl ke aJ aK) (@cg _ _ _ _ _ (@eF _ 2 _ _ rfl kg oH oJ) (@eY _) (cT rfl)) (by rfl) (by rfl) (by rfl) (by rfl) (by rfl)) (fun _ _=>rfl))))),?_⟩
 trivial
 refine Bp hp ok L A G.ok ⟨_,rfl,?_⟩
 by_cases hk:k∈ks
 ·rw[if_neg (by simp [hk])]
  refine⟨.inl ⟨rfl,_,L⟩,?_⟩
  obtain⟨j,hj,hno⟩:=CI hk
  have lj:=(List.getElem?_eq_some_iff.mp hj).1
  have l4:=G.le
  obtain⟨x,e1,e2,_,_⟩:=G.at hj
  obtain⟨f1,f2⟩:=wF G.ok
  refine⟨kl,.ref p,kD k,ks.map kD,j,rfl,rfl,by exact Oz76 lj l4,vF hp,.lst L A.rep,xg ok,⟨f1,?_⟩,⟨kD k,by rw[List.getElem?_map,hj]; rfl,by rw[wI]; exact decide_eq_true rfl⟩,fun m z hm hz=>?_,?_⟩
  ·show PyData.depthAll (ks.map kD)+1≤40
   exact Oz21 f2
  ·rw[List.getElem?_map] at hz
   obtain⟨z',ez,rfl⟩:=Option.map_eq_some_iff.mp hz
   rw[wI]
   exact decide_eq_false (hno m z' hm ez)
  ·refine⟨_,_,rfl,G.look,_,e2,?_⟩
   rw[← zR hj hno e1]
   exact q _ (Same.refl _)
 ·rw[if_pos (by simp [hk])]
  rw[← yZ (lk:=lk) hk]
  exact q _ (Same.refl _)
theorem EC (F:Fun K "is_over" "is_over" cB f fd) (M:Mg mg) (fR:Cal P w K mg base CX0 "number_in" 1 ["kinds","look","kind"] (wK K)):FnOk P w K mg base CX0 2 f fd ["kinds","look","one","other"] (CG K):=by
 refine F.ok uA (fun vs H Q E h=>?_) (fun cdv A outer s H vs Q E hr h=>?_)
 ·obtain⟨kl,lt,p1,p2,ks,lk,k1,k2,rfl,_⟩:=h
  rfl
 obtain⟨kl,lt,p1,p2,ks,lk,k1,k2,rfl,G,h1,o1,h2,o2,q⟩:=h
 refine⟨_,(@fS _ _ _ (@jm _ _ _ _ (@vV _ _ _ _ _ _ _ _ (@Ac _) (@gY _ _ _ _ _ _ _ _ _ _ _ fR hr fC (@cg _ _ _ _ _ (@eF _ 0 _ _ rfl mH aJ aK) (@cg _ _ _ _ _ (@eF _ 1 _ _ rfl mI bN bO) (@cg _ _ _ _ _ (@eF _ 2 _ _ rfl tQ fX fY) (@eY _) (cT rfl)) (cT rfl)) (cT rfl)) (by decide) lD (cT rfl) (iT rfl (iT rfl gj))) (@gY _ _ _ _ _ _ _ _ _ _ _ fR hr fC (@cg _ _ _ _ _ (@eF _ 0 _ _ rfl mH aJ aK) (@cg _ _ _ _ _ (@eF _ 1 _ _ rfl mI bN bO) (@cg _ _ _ _ _ (@eF _ 3 _ _ rfl tR dE dF) (@eY _) (cT rfl)) (cT rfl)) (cT rfl)) (by decide) lD (cT rfl) (iT rfl (iT rfl gj))) (nj _)))),?_⟩
 trivial
 refine⟨_,_,_,ks,lk,k1,rfl,G,h1,o1,fun H1 S1=>?_⟩
 trivial
 refine⟨_,_,_,ks,lk,k2,rfl,G.same S1,Same.tup S1 h2,o2,fun H2 S2=>?_⟩
 trivial
 exact q _ (S1.trans S2)
end
end MyD
namespace MyE
open My MyC MyD PySem L2
noncomputable def top (i:Nat):Stmt:=PySem.Challenge.pw_tariffgate_k43_looked.main.body.getD i (.Pass ⟨0,0,0,0⟩)
noncomputable def inner:Stmt→Nat→Stmt
 | .ClassDef _ _ _ b _ _ _ _ _ _ _,j=>b.getD j (.Pass ⟨0,0,0,0⟩)
 | st,_=>st
theorem fb:(("place_reason":Str) == ("__debug__":Str))=false:=by decide
theorem ph:(("made_places":Str) == ("__debug__":Str))=false:=by decide
theorem pp:(("used_places":Str) == ("__debug__":Str))=false:=by decide
theorem nQ:(("chief_places":Str) == ("__debug__":Str))=false:=by decide
theorem uB:(("is_over":Str) == ("__debug__":Str))=false:=by decide
theorem dG:(("first":Str) == ("__debug__":Str))=false:=by decide
theorem dH:(("first":Str) == ("__classdict__":Str))=false:=by decide
theorem db:(("second":Str) == ("__debug__":Str))=false:=by decide
theorem dc:(("second":Str) == ("__classdict__":Str))=false:=by decide
noncomputable abbrev bW:Stmt:=inner (top 30) 1
theorem lG:FnScope ["self","kinds","look"] ["self","kinds","look"] (defScope bW):=⟨rfl,rfl,rfl,by decide +kernel,rfl,by decide +kernel,by decide +kernel⟩
noncomputable abbrev bv:Stmt:=inner (top 31) 2
theorem pq:FnScope ["self","kinds","look"] ["self","kinds","look"] (defScope bv):=⟨rfl,rfl,rfl,by decide +kernel,rfl,by decide +kernel,by decide +kernel⟩
theorem nR:Vis (defScope bv) "self":=by decreasing_trivial
theorem nT:Vis (defScope bv) "kinds":=by decreasing_trivial
theorem nU:Vis (defScope bv) "look":=by decreasing_trivial
theorem gw:(defScope bv).names.lookup ("place_reason":Str)=some .globalImplicit:=by rfl
theorem ie:(defScope bv).names.lookup ("made_places":Str)=some .globalImplicit:=by rfl
noncomputable abbrev bw:Stmt:=inner (top 32) 2
theorem pz:FnScope ["self","kinds","look"] ["self","kinds","look"] (defScope bw):=⟨rfl,rfl,rfl,by decide +kernel,rfl,by decide +kernel,by decide +kernel⟩
theorem nV:Vis (defScope bw) "self":=by decreasing_trivial
theorem nX:Vis (defScope bw) "kinds":=by decreasing_trivial
theorem nY:Vis (defScope bw) "look":=by decreasing_trivial
theorem gx:(defScope bw).names.lookup ("place_reason":Str)=some .globalImplicit:=by rfl
theorem ig:(defScope bw).names.lookup ("used_places":Str)=some .globalImplicit:=by rfl
noncomputable abbrev bf:Stmt:=inner (top 33) 2
theorem nZ:FnScope ["self","kinds","look"] ["self","kinds","look"] (defScope bf):=⟨rfl,rfl,rfl,by decide +kernel,rfl,by decide +kernel,by decide +kernel⟩
theorem mY:Vis (defScope bf) "self":=by decreasing_trivial
theorem mZ:Vis (defScope bf) "kinds":=by decreasing_trivial
theorem m5:Vis (defScope bf) "look":=by decreasing_trivial
theorem gg:(defScope bf).names.lookup ("place_reason":Str)=some .globalImplicit:=by rfl
theorem gh:(defScope bf).names.lookup ("chief_places":Str)=some .globalImplicit:=by rfl
noncomputable abbrev bD:Stmt:=inner (top 34) 2
theorem pA:FnScope ["self","kinds","look"] ["self","kinds","look"] (defScope bD):=⟨rfl,rfl,rfl,by decide +kernel,rfl,by decide +kernel,by decide +kernel⟩
theorem i3:Vis (defScope bD) "self":=by decreasing_trivial
theorem n8:Vis (defScope bD) "kinds":=by decreasing_trivial
theorem n9:Vis (defScope bD) "look":=by decreasing_trivial
theorem jw:(defScope bD).names.lookup ("is_over":Str)=some .globalImplicit:=by rfl
noncomputable abbrev aQ:Stmt:=inner (top 36) 1
theorem d8:FnScope ["self","kinds","look","first","second"] ["self","kinds","look"] (defScope aQ):=⟨rfl,rfl,rfl,by decide +kernel,rfl,by decide +kernel,by decide +kernel⟩
theorem i4:Vis (defScope aQ) "self":=by decreasing_trivial
theorem i5:Vis (defScope aQ) "kinds":=by decreasing_trivial
theorem i6:Vis (defScope aQ) "look":=by decreasing_trivial
theorem fc:Vis (defScope aQ) "first":=by decreasing_trivial
theorem og:Loc (defScope aQ) "first":=by first | exact Or.inl rfl | exact Or.inr rfl
theorem fg:Vis (defScope aQ) "second":=by decreasing_trivial
theorem oh:Loc (defScope aQ) "second":=by first | exact Or.inl rfl | exact Or.inr rfl
noncomputable abbrev aC:Stmt:=inner (top 37) 1
theorem dI:FnScope ["self","kinds","look","first","second"] ["self","kinds","look"] (defScope aC):=⟨rfl,rfl,rfl,by decide +kernel,rfl,by decide +kernel,by decide +kernel⟩
theorem gU:Vis (defScope aC) "self":=by decreasing_trivial
theorem gW:Vis (defScope aC) "kinds":=by decreasing_trivial
theorem gX:Vis (defScope aC) "look":=by decreasing_trivial
theorem eD:Vis (defScope aC) "first":=by decreasing_trivial
theorem mq:Loc (defScope aC) "first":=by first | exact Or.inl rfl | exact Or.inr rfl
theorem eE:Vis (defScope aC) "second":=by decreasing_trivial
theorem mt:Loc (defScope aC) "second":=by first | exact Or.inl rfl | exact Or.inr rfl
noncomputable abbrev aV:Stmt:=inner (top 38) 1
theorem eL:FnScope ["self","kinds","look","first","second"] ["self","kinds","look"] (defScope aV):=⟨rfl,rfl,rfl,by decide +kernel,rfl,by decide +kernel,by decide +kernel⟩
theorem jx:Vis (defScope aV) "self":=by decreasing_trivial
theorem jy:Vis (defScope aV) "kinds":=by decreasing_trivial
theorem jz:Vis (defScope aV) "look":=by decreasing_trivial
theorem fH:Vis (defScope aV) "first":=by decreasing_trivial
theorem pB:Loc (defScope aV) "first":=by first | exact Or.inl rfl | exact Or.inr rfl
theorem fJ:Vis (defScope aV) "second":=by decreasing_trivial
theorem pC:Loc (defScope aV) "second":=by first | exact Or.inl rfl | exact Or.inr rfl
noncomputable abbrev bM:Stmt:=inner (top 29) 0
theorem pE:FnScope ["self","kinds","look"] ["self","kinds","look"] (defScope bM):=⟨rfl,rfl,rfl,by decide +kernel,rfl,by decide +kernel,by decide +kernel⟩
theorem oj:Vis (defScope bM) "self":=by decreasing_trivial
theorem om:Vis (defScope bM) "kinds":=by decreasing_trivial
theorem oq:Vis (defScope bM) "look":=by decreasing_trivial
theorem at0 {v:V} {xs:List V}:atI (v::xs) 0=some v:=(um (j:=0) rfl:atI (v::xs) ((0:Nat):Int)=some v)
noncomputable def KD:Nt→Nat
 | .any=>0
 | .made _=>1
 | .used _=>2
 | .chief _=>3
 | .over _ _=>4
 | .both _ _=>5
 | .either _ _=>6
 | .but _ _=>7
noncomputable def v7 (cs:NC):Nat→Addr
 | 0=>cs.any
 | 1=>cs.made
 | 2=>cs.used
 | 3=>cs.chief
 | 4=>cs.over
 | 5=>cs.both
 | 6=>cs.either
 | _=>cs.but
noncomputable def iS (ks:List Kd2) (lk:List Int):Nt→Bool
 | .any=>true
 | .made s=>uZ ks lk (v9 lk s)
 | .used s=>uZ ks lk (v8 lk s)
 | .chief s=>uZ ks lk (vt lk s)
 | .over a b=>decide (wU ks lk a > wU ks lk b)
 | .both x y=>iS ks lk x && iS ks lk y
 | .either x y=>iS ks lk x || iS ks lk y
 | .but x y=>iS ks lk x && !iS ks lk y
def rz (K:PySem.W.Frag) (cs:NC) (d j:Nat):Sp:=fun vs H Q _=>∃ (a kl lt:Addr) (n:Nt) (ks:List Kd2) (lk:List Int),vs=[.ref a,.ref kl,.ref lt]∧KD n=j∧ObjN K cs H a n∧n.ok∧n.dp≤d∧Ground K H kl lt ks lk∧∀ p ys H',Same H H'→SqT K H' p (.bl (iS ks lk n)::ys)→Q (.ref p) H'
def vN (K:PySem.W.Frag) (cs:NC) (d:Nat) (C:Addr) (sp:Sp):Prop:=∃ j,j<8∧C=v7 cs j∧sp=rz K cs d j
theorem vD {K:PySem.W.Frag} {cs:NC} {H:Hp} {a kl lt:Addr} {n:Nt} {ks:List Kd2} {lk:List Int} {d:Nat} {Q:VK} (O:ObjN K cs H a n) (ok:n.ok) (dp:n.dp≤d) (G:Ground K H kl lt ks lk) (q:∀ p ys H',Same H H'→SqT K H' p (.bl (iS ks lk n)::ys)→Q (.ref p) H'):∃ C dx fs,H a=some (.ins C dx fs)∧fs.lookup ("reason":Str)=none∧∃ sp,vN K cs d C sp∧sp [.ref a,.ref kl,.ref lt] H Q E0:=by
 have fin:rz K cs d (KD n) [.ref a,.ref kl,.ref lt] H Q E0:=⟨a,kl,lt,n,ks,lk,rfl,rfl,O,ok,dp,G,q⟩
 cases n with
 | any=>obtain⟨dx,h⟩:=O; exact⟨_,_,_,h,rfl,_,⟨0,by decide,rfl,rfl⟩,fin⟩
 | made s=>obtain⟨dx,h⟩:=O; exact⟨_,_,_,h,rfl,_,⟨1,by decide,rfl,rfl⟩,fin⟩
 | used s=>obtain⟨dx,h⟩:=O; exact⟨_,_,_,h,rfl,_,⟨2,by decide,rfl,rfl⟩,fin⟩
 | chief s=>obtain⟨dx,h⟩:=O; exact⟨_,_,_,h,rfl,_,⟨3,by decide,rfl,rfl⟩,fin⟩
 | over k1 k2=>obtain⟨dx,_,_,h,_⟩:=O; exact⟨_,_,_,h,rfl,_,⟨4,by decide,rfl,rfl⟩,fin⟩
 | both x y=>obtain⟨dx,_,_,h,_⟩:=O; exact⟨_,_,_,h,rfl,_,⟨5,by decide,rfl,rfl⟩,fin⟩
 | either x y=>obtain⟨dx,_,_,h,_⟩:=O; exact⟨_,_,_,h,rfl,_,⟨6,by decide,rfl,rfl⟩,fin⟩
 | but x y=>obtain⟨dx,_,_,h,_⟩:=O; exact⟨_,_,_,h,rfl,_,⟨7,by decide,rfl,rfl⟩,fin⟩
section
variable {P:Program} {w:World} {K:PySem.W.Frag} {mg:Str→Option Value} {base:Heap} {f:Addr} {fd:FuncData} {cs:NC}
theorem yS {k d:Nat} (F:Fun K "reason" "Anything.reason" bW f fd) (M:Mg mg):FnOk P w K mg base CX0 (k+3) f fd ["self","kinds","look"] (rz K cs d 0):=by
 refine F.ok lG (fun vs H Q E h=>?_) (fun cdv A outer s H vs Q E hr h=>?_)
 ·obtain⟨a,kl,lt,n,ks,lk,rfl,_⟩:=h
  rfl
 obtain⟨a,kl,lt,n,ks,lk,rfl,hk,O,ok,dp,G,q⟩:=h
 refine⟨_,(@fS _ _ _ (@jm _ _ _ _ (@nP _ _ _ _ _ (@cg _ _ _ _ _ (@sf _ _ _ _) (@cg _ _ _ _ _ (@CV _ _ _) (@eY _) (cT rfl)) (cT rfl))))),?_⟩
 trivial
 cases n with
 | any =>
  exact⟨by decide,fun p hp=>q _ _ _ (gI hp _) (SqT.of fj)⟩
 | made s=>exact absurd hk (by show ¬(1=0); decide)
 | used s=>exact absurd hk (by show ¬(2=0); decide)
 | chief s=>exact absurd hk (by show ¬(3=0); decide)
 | over k1 k2=>exact absurd hk (by show ¬(4=0); decide)
 | both x y=>exact absurd hk (by show ¬(5=0); decide)
 | either x y=>exact absurd hk (by show ¬(6=0); decide)
 | but x y=>exact absurd hk (by show ¬(7=0); decide)
theorem AL {k d:Nat} (F:Fun K "reason" "Made.reason" bv f fd) (M:Mg mg) (cl:Cls K cs.made) (na:NoAttr K cs.made "stuff") (gy:Cal P w K mg base CX0 "made_places" 1 ["kinds","look","stuff"] (vE K v9)) (bF:Cal P w K mg base CX0 "place_reason" 1 ["places"] (xM K)):FnOk P w K mg base CX0 (k+3) f fd ["self","kinds","look"] (rz K cs d 1):=by
 refine F.ok pq (fun vs H Q E h=>?_) (fun cdv A outer s H vs Q E hr h=>?_)
 ·obtain⟨a,kl,lt,n,ks,lk,rfl,_⟩:=h
  rfl
 obtain⟨a,kl,lt,n,ks,lk,rfl,hk,O,ok,dp,G,q⟩:=h
 refine⟨_,(@fS _ _ _ (@jm _ _ _ _ (@gY _ _ _ _ _ _ _ _ _ _ _ bF hr gw (@cg _ _ _ _ _ (@gY _ _ _ _ _ _ _ _ _ _ _ gy hr ie (@cg _ _ _ _ _ (@eF _ 1 _ _ rfl nT aJ aK) (@cg _ _ _ _ _ (@eF _ 2 _ _ rfl nU bN bO) (@cg _ _ _ _ _ (@tY _ _ _ _ _ (@eF _ 0 _ _ rfl nR ax ay) (by rfl)) (@eY _) (cT rfl)) (cT rfl)) (cT rfl)) (by exact Oz14) ph (cT rfl) (iT rfl (iT rfl gj))) (@eY _) (cT rfl)) (by exact Oz14) fb (cT rfl) gj))),?_⟩
 trivial
 cases n with
 | any=>exact absurd hk (by show ¬(0=1); decide)
 | made s =>
  obtain⟨dx,h⟩:=O
  refine⟨_,_,_,h,cl,na,_,rfl,?_⟩
  refine⟨_,_,_,ks,lk,rfl,G,fun l xs H1 S1 hl l4 he=>?_⟩
  refine⟨_,xs,rfl,hl,fun p y H2 S2 T=>?_⟩
  rw[he,Bool.not_not] at T
  exact q _ _ _ (S1.trans S2) T
 | used s=>exact absurd hk (by show ¬(2=1); decide)
 | chief s=>exact absurd hk (by show ¬(3=1); decide)
 | over k1 k2=>exact absurd hk (by show ¬(4=1); decide)
 | both x y=>exact absurd hk (by show ¬(5=1); decide)
 | either x y=>exact absurd hk (by show ¬(6=1); decide)
 | but x y=>exact absurd hk (by show ¬(7=1); decide)
theorem Az {k d:Nat} (F:Fun K "reason" "Used.reason" bw f fd) (M:Mg mg) (cl:Cls K cs.used) (na:NoAttr K cs.used "use") (gz:Cal P w K mg base CX0 "used_places" 1 ["kinds","look","use"] (vE K v8)) (bF:Cal P w K mg base CX0 "place_reason" 1 ["places"] (xM K)):FnOk P w K mg base CX0 (k+3) f fd ["self","kinds","look"] (rz K cs d 2):=by
 refine F.ok pz (fun vs H Q E h=>?_) (fun cdv A outer s H vs Q E hr h=>?_)
 ·obtain⟨a,kl,lt,n,ks,lk,rfl,_⟩:=h
  rfl
 obtain⟨a,kl,lt,n,ks,lk,rfl,hk,O,ok,dp,G,q⟩:=h
 refine⟨_,(@fS _ _ _ (@jm _ _ _ _ (@gY _ _ _ _ _ _ _ _ _ _ _ bF hr gx (@cg _ _ _ _ _ (@gY _ _ _ _ _ _ _ _ _ _ _ gz hr ig (@cg _ _ _ _ _ (@eF _ 1 _ _ rfl nX aJ aK) (@cg _ _ _ _ _ (@eF _ 2 _ _ rfl nY bN bO) (@cg _ _ _ _ _ (@tY _ _ _ _ _ (@eF _ 0 _ _ rfl nV ax ay) (by rfl)) (@eY _) (cT rfl)) (cT rfl)) (cT rfl)) (by exact Oz14) pp (cT rfl) (iT rfl (iT rfl gj))) (@eY _) (cT rfl)) (by exact Oz14) fb (cT rfl) gj))),?_⟩
 trivial
 cases n with
 | any=>exact absurd hk (by show ¬(0=2); decide)
 | made s=>exact absurd hk (by show ¬(1=2); decide)
 | used s =>
  obtain⟨dx,h⟩:=O
  refine⟨_,_,_,h,cl,na,_,rfl,?_⟩
  refine⟨_,_,_,ks,lk,rfl,G,fun l xs H1 S1 hl l4 he=>?_⟩
  refine⟨_,xs,rfl,hl,fun p y H2 S2 T=>?_⟩
  rw[he,Bool.not_not] at T
  exact q _ _ _ (S1.trans S2) T
 | chief s=>exact absurd hk (by show ¬(3=2); decide)
 | over k1 k2=>exact absurd hk (by show ¬(4=2); decide)
 | both x y=>exact absurd hk (by show ¬(5=2); decide)
 | either x y=>exact absurd hk (by show ¬(6=2); decide)
 | but x y=>exact absurd hk (by show ¬(7=2); decide)
theorem Ag {k d:Nat} (F:Fun K "reason" "Chief.reason" bf f fd) (M:Mg mg) (cl:Cls K cs.chief) (na:NoAttr K cs.chief "stuff") (fK:Cal P w K mg base CX0 "chief_places" 1 ["kinds","look","stuff"] (vE K vt)) (bF:Cal P w K mg base CX0 "place_reason" 1 ["places"] (xM K)):FnOk P w K mg base CX0 (k+3) f fd ["self","kinds","look"] (rz K cs d 3):=by
 refine F.ok nZ (fun vs H Q E h=>?_) (fun cdv A outer s H vs Q E hr h=>?_)
 ·obtain⟨a,kl,lt,n,ks,lk,rfl,_⟩:=h
  rfl
 obtain⟨a,kl,lt,n,ks,lk,rfl,hk,O,ok,dp,G,q⟩:=h
 refine⟨_,(@fS _ _ _ (@jm _ _ _ _ (@gY _ _ _ _ _ _ _ _ _ _ _ bF hr gg (@cg _ _ _ _ _ (@gY _ _ _ _ _ _ _ _ _ _ _ fK hr gh (@cg _ _ _ _ _ (@eF _ 1 _ _ rfl mZ aJ aK) (@cg _ _ _ _ _ (@eF _ 2 _ _ rfl m5 bN bO) (@cg _ _ _ _ _ (@tY _ _ _ _ _ (@eF _ 0 _ _ rfl mY ax ay) (by rfl)) (@eY _) (cT rfl)) (cT rfl)) (cT rfl)) (by exact Oz14) nQ (cT rfl) (iT rfl (iT rfl gj))) (@eY _) (cT rfl)) (by exact Oz14) fb (cT rfl) gj))),?_⟩
 trivial
 cases n with
 | any=>exact absurd hk (by show ¬(0=3); decide)
 | made s=>exact absurd hk (by show ¬(1=3); decide)
 | used s=>exact absurd hk (by show ¬(2=3); decide)
 | chief s =>
  obtain⟨dx,h⟩:=O
  refine⟨_,_,_,h,cl,na,_,rfl,?_⟩
  refine⟨_,_,_,ks,lk,rfl,G,fun l xs H1 S1 hl l4 he=>?_⟩
  refine⟨_,xs,rfl,hl,fun p y H2 S2 T=>?_⟩
  rw[he,Bool.not_not] at T
  exact q _ _ _ (S1.trans S2) T
 | over k1 k2=>exact absurd hk (by show ¬(4=3); decide)
 | both x y=>exact absurd hk (by show ¬(5=3); decide)
 | either x y=>exact absurd hk (by show ¬(6=3); decide)
 | but x y=>exact absurd hk (by show ¬(7=3); decide)
theorem AW {k d:Nat} (F:Fun K "reason" "Over.reason" bD f fd) (M:Mg mg) (t4:TwoC K cs.over) (lH:Cal P w K mg base CX0 "is_over" 2 ["kinds","look","one","other"] (CG K)):FnOk P w K mg base CX0 (k+3) f fd ["self","kinds","look"] (rz K cs d 4):=by
 refine F.ok pA (fun vs H Q E h=>?_) (fun cdv A outer s H vs Q E hr h=>?_)
 ·obtain⟨a,kl,lt,n,ks,lk,rfl,_⟩:=h
  rfl
 obtain⟨a,kl,lt,n,ks,lk,rfl,hk,O,ok,dp,G,q⟩:=h
 refine⟨_,(@fS _ _ _ (@jm _ _ _ _ (@nP _ _ _ _ _ (@cg _ _ _ _ _ (@gY _ _ _ _ _ _ _ _ _ _ _ lH hr jw (@cg _ _ _ _ _ (@eF _ 1 _ _ rfl n8 aJ aK) (@cg _ _ _ _ _ (@eF _ 2 _ _ rfl n9 bN bO) (@cg _ _ _ _ _ (@tY _ _ _ _ _ (@eF _ 0 _ _ rfl i3 ax ay) (by rfl)) (@cg _ _ _ _ _ (@tY _ _ _ _ _ (@eF _ 0 _ _ rfl i3 ax ay) (by rfl)) (@eY _) (cT rfl)) (cT rfl)) (cT rfl)) (cT rfl)) (by omega) uB (cT rfl) (iT rfl (iT rfl (iT rfl gj)))) (@cg _ _ _ _ _ (@CV _ _ _) (@eY _) (cT rfl)) (cT rfl))))),?_⟩
 trivial
 cases n with
 | any=>exact absurd hk (by show ¬(0=4); decide)
 | made s=>exact absurd hk (by show ¬(1=4); decide)
 | used s=>exact absurd hk (by show ¬(2=4); decide)
 | chief s=>exact absurd hk (by show ¬(3=4); decide)
 | over k1 k2 =>
  obtain⟨dx,p1,p2,h,T1,T2⟩:=O
  refine⟨_,_,_,h,t4.cl,t4.n1,_,rfl,_,_,_,h,t4.cl,t4.n2,_,rfl,?_⟩
  refine⟨_,_,_,_,ks,lk,k1,k2,rfl,G,T1,ok.1,T2,ok.2,fun H1 S1=>?_⟩
  exact⟨by decide,fun p hp=>q _ _ _ (S1.trans (gI hp _)) (SqT.of fj)⟩
 | both x y=>exact absurd hk (by show ¬(5=4); decide)
 | either x y=>exact absurd hk (by show ¬(6=4); decide)
 | but x y=>exact absurd hk (by show ¬(7=4); decide)
theorem AU {d:Nat} (F:Fun K "reason" "Both.reason" aQ f fd) (M:Mg mg) (tt:TwoC K cs.both) (D_reason:∀ C sp,vN K cs d C sp→Disp P w K mg base "reason" (3+d) ["self","kinds","look"] C sp):FnOk P w K mg base CX0 (3+d+1) f fd ["self","kinds","look"] (rz K cs (d+1) 5):=by
 refine F.ok d8 (fun vs H Q E h=>?_) (fun cdv A outer s H vs Q E hr h=>?_)
 ·obtain⟨a,kl,lt,n,ks,lk,rfl,_⟩:=h
  rfl
 obtain⟨a,kl,lt,n,ks,lk,rfl,hk,O,ok,dp,G,q⟩:=h
 refine⟨_,(@fz _ _ _ _ _ (@ni _ _ 3 _ _ _ _ d8.nd rfl og (@sF _ _ _ _ _ _ _ _ _ _ _ _ _ _ (@tY _ _ _ _ _ (@eF _ 0 _ _ rfl i4 ax ay) (by rfl)) D_reason hr (@cg _ _ _ _ _ (@eF _ 1 _ _ rfl i5 aJ aK) (@cg _ _ _ _ _ (@eF _ 2 _ _ rfl i6 bN bO) (@eY _) (cT rfl)) (cT rfl)) (by exact Oz10) (cT rfl) (iT rfl gj) (by rfl)) (mj rfl) (.inl rfl)) (@fz _ _ _ _ _ (@ni _ _ 4 _ _ _ _ d8.nd rfl oh (@sF _ _ _ _ _ _ _ _ _ _ _ _ _ _ (@tY _ _ _ _ _ (@eF _ 0 _ _ rfl i4 ax ay) (by rfl)) D_reason hr (@cg _ _ _ _ _ (@eF _ 1 _ _ rfl i5 aJ aK) (@cg _ _ _ _ _ (@eF _ 2 _ _ rfl i6 bN bO) (@eY _) (cT rfl)) (cT rfl)) (by exact Oz10) (cT rfl) (iT rfl gj) (by rfl)) (mj rfl) (.inl rfl)) (@fz _ _ _ _ _ (@pG _ _ _ _ _ _ _ _ (@tw _ _ _ _ (@qY _ _ _ (@kZ _ _ _ _ _ _ _ (@ix_tup _) (@eF _ 3 _ _ rfl fc dG dH) (@ff _ _ _ _) (fun _ _=>rfl)) (rS rfl))) (@fS _ _ _ (@jm _ _ _ _ (@nP _ _ _ _ _ (@cg _ _ _ _ _ (@sf _ _ _ _) (@cg _ _ _ _ _ (@ff _ _ _ _) (@cg _ _ _ _ _ (@eF _ 3 _ _ rfl fc dG dH) (@eY _) (cT rfl)) (cT rfl)) (cT rfl))))) (@mO _)) (@fz _ _ _ _ _ (@pG _ _ _ _ _ _ _ _ (@tw _ _ _ _ (@qY _ _ _ (@kZ _ _ _ _ _ _ _ (@ix_tup _) (@eF _ 4 _ _ rfl fg db dc) (@ff _ _ _ _) (fun _ _=>rfl)) (rS rfl))) (@fS _ _ _ (@jm _ _ _ _ (@nP _ _ _ _ _ (@cg _ _ _ _ _ (@sf _ _ _ _) (@cg _ _ _ _ _ (@ff _ _ _ _) (@cg _ _ _ _ _ (@eF _ 4 _ _ rfl fg db dc) (@eY _) (cT rfl)) (cT rfl)) (cT rfl))))) (@mO _)) (@fS _ _ _ (@jm _ _ _ _ (@nP _ _ _ _ _ (@cg _ _ _ _ _ (@sf _ _ _ _) (@cg _ _ _ _ _ (@eF _ 3 _ _ rfl fc dG dH) (@cg _ _ _ _ _ (@eF _ 4 _ _ rfl fg db dc) (@eY _) (cT rfl)) (cT rfl)) (cT rfl))))))))),?_⟩
 trivial
 cases n with
 | any=>exact absurd hk (by show ¬(0=5); decide)
 | made s=>exact absurd hk (by show ¬(1=5); decide)
 | used s=>exact absurd hk (by show ¬(2=5); decide)
 | chief s=>exact absurd hk (by show ¬(3=5); decide)
 | over k1 k2=>exact absurd hk (by show ¬(4=5); decide)
 | both x y =>
  obtain⟨dx,a1,a2,h,O1,O2⟩:=O
  have dd:max x.dp y.dp+1≤d+1:=dp
  refine⟨_,_,_,h,tt.cl,tt.n1,_,rfl,_,rfl,?_⟩
  refine vD O1 ok.1 (show x.dp≤d by exact Oz1 dd) G fun p1 y1 H1 S1 R1=>?_
  refine⟨_,_,_,S1 _ _ h,tt.cl,tt.n2,_,rfl,_,rfl,?_⟩
  refine vD (ObjN.same S1 O2) ok.2 (show y.dp≤d by exact Oz0 dd) (G.same S1) fun p2 y2 H2 S2 R2=>?_
  refine⟨_,rfl,_,Same.tup S2 R1,_,at0,_,rfl,?_⟩
  have S3:=S1.trans S2
  by_cases hx:iS ks lk x=false
  ·rw[if_pos hx]
   exact⟨by decide,fun p hp=>q p [.int 0,.ref p1] _ (S3.trans (gI hp _)) (by rw[show iS ks lk (.both x y)=false from by simp [iS,hx]]; exact SqT.of fj)⟩
  ·rw[if_neg hx]
   have hx':iS ks lk x=true:=by revert hx; cases iS ks lk x <;> simp
   refine⟨_,rfl,_,R2,_,at0,_,rfl,?_⟩
   by_cases hy:iS ks lk y=false
   ·rw[if_pos hy]
    exact⟨by decide,fun p hp=>q p [.int 1,.ref p2] _ (S3.trans (gI hp _)) (by rw[show iS ks lk (.both x y)=false from by simp [iS,hx',hy]]; exact SqT.of fj)⟩
   ·rw[if_neg hy]
    have hy':iS ks lk y=true:=by revert hy; cases iS ks lk y <;> simp
    exact⟨by decide,fun p hp=>q p [.ref p1,.ref p2] _ (S3.trans (gI hp _)) (by rw[show iS ks lk (.both x y)=true from by simp [iS,hx',hy']]; exact SqT.of fj)⟩
 | either x y=>exact absurd hk (by show ¬(6=5); decide)
 | but x y=>exact absurd hk (by show ¬(7=5); decide)
theorem AD {k j:Nat} (F:Fun K "reason" "Both.reason" aQ f fd):FnOk P w K mg base CX0 (k+3) f fd ["self","kinds","look"] (rz K cs 0 j):=by
 refine F.ok d8 (fun vs H Q E h=>?_) (fun cdv A outer s H vs Q E hr h=>?_)
 ·obtain⟨a,kl,lt,n,ks,lk,rfl,_⟩:=h
  rfl
 obtain⟨a,kl,lt,n,ks,lk,rfl,hk,O,ok,dp,G,q⟩:=h
 have:=Nt.dp_pos n
 exact (Oz49 dp this).elim
theorem zS {d:Nat} (F:Fun K "reason" "Either.reason" aC f fd) (M:Mg mg) (tt:TwoC K cs.either) (D_reason:∀ C sp,vN K cs d C sp→Disp P w K mg base "reason" (3+d) ["self","kinds","look"] C sp):FnOk P w K mg base CX0 (3+d+1) f fd ["self","kinds","look"] (rz K cs (d+1) 6):=by
 refine F.ok dI (fun vs H Q E h=>?_) (fun cdv A outer s H vs Q E hr h=>?_)
 ·obtain⟨a,kl,lt,n,ks,lk,rfl,_⟩:=h
  rfl
 obtain⟨a,kl,lt,n,ks,lk,rfl,hk,O,ok,dp,G,q⟩:=h
 refine⟨_,(@fz _ _ _ _ _ (@ni _ _ 3 _ _ _ _ dI.nd rfl mq (@sF _ _ _ _ _ _ _ _ _ _ _ _ _ _ (@tY _ _ _ _ _ (@eF _ 0 _ _ rfl gU ax ay) (by rfl)) D_reason hr (@cg _ _ _ _ _ (@eF _ 1 _ _ rfl gW aJ aK) (@cg _ _ _ _ _ (@eF _ 2 _ _ rfl gX bN bO) (@eY _) (cT rfl)) (cT rfl)) (by exact Oz10) (cT rfl) (iT rfl gj) (by rfl)) (mj rfl) (.inl rfl)) (@fz _ _ _ _ _ (@ni _ _ 4 _ _ _ _ dI.nd rfl mt (@sF _ _ _ _ _ _ _ _ _ _ _ _ _ _ (@tY _ _ _ _ _ (@eF _ 0 _ _ rfl gU ax ay) (by rfl)) D_reason hr (@cg _ _ _ _ _ (@eF _ 1 _ _ rfl gW aJ aK) (@cg _ _ _ _ _ (@eF _ 2 _ _ rfl gX bN bO) (@eY _) (cT rfl)) (cT rfl)) (by exact Oz10) (cT rfl) (iT rfl gj) (by rfl)) (mj rfl) (.inl rfl)) (@fz _ _ _ _ _ (@pG _ _ _ _ _ _ _ _ (@qY _ _ _ (@kZ _ _ _ _ _ _ _ (@ix_tup _) (@eF _ 3 _ _ rfl eD dG dH) (@ff _ _ _ _) (fun _ _=>rfl)) (rS rfl)) (@fS _ _ _ (@jm _ _ _ _ (@nP _ _ _ _ _ (@cg _ _ _ _ _ (@sf _ _ _ _) (@cg _ _ _ _ _ (@ff _ _ _ _) (@cg _ _ _ _ _ (@eF _ 3 _ _ rfl eD dG dH) (@eY _) (cT rfl)) (cT rfl)) (cT rfl))))) (@mO _)) (@fz _ _ _ _ _ (@pG _ _ _ _ _ _ _ _ (@qY _ _ _ (@kZ _ _ _ _ _ _ _ (@ix_tup _) (@eF _ 4 _ _ rfl eE db dc) (@ff _ _ _ _) (fun _ _=>rfl)) (rS rfl)) (@fS _ _ _ (@jm _ _ _ _ (@nP _ _ _ _ _ (@cg _ _ _ _ _ (@sf _ _ _ _) (@cg _ _ _ _ _ (@ff _ _ _ _) (@cg _ _ _ _ _ (@eF _ 4 _ _ rfl eE db dc) (@eY _) (cT rfl)) (cT rfl)) (cT rfl))))) (@mO _)) (@fS _ _ _ (@jm _ _ _ _ (@nP _ _ _ _ _ (@cg _ _ _ _ _ (@sf _ _ _ _) (@cg _ _ _ _ _ (@eF _ 3 _ _ rfl eD dG dH) (@cg _ _ _ _ _ (@eF _ 4 _ _ rfl eE db dc) (@eY _) (cT rfl)) (cT rfl)) (cT rfl))))))))),?_⟩
 trivial
 cases n with
 | any=>exact absurd hk (by show ¬(0=6); decide)
 | made s=>exact absurd hk (by show ¬(1=6); decide)
 | used s=>exact absurd hk (by show ¬(2=6); decide)
 | chief s=>exact absurd hk (by show ¬(3=6); decide)
 | over k1 k2=>exact absurd hk (by show ¬(4=6); decide)
 | both x y=>exact absurd hk (by show ¬(5=6); decide)
 | either x y =>
  obtain⟨dx,a1,a2,h,O1,O2⟩:=O
  have dd:max x.dp y.dp+1≤d+1:=dp
  refine⟨_,_,_,h,tt.cl,tt.n1,_,rfl,_,rfl,?_⟩
  refine vD O1 ok.1 (show x.dp≤d by exact Oz1 dd) G fun p1 y1 H1 S1 R1=>?_
  refine⟨_,_,_,S1 _ _ h,tt.cl,tt.n2,_,rfl,_,rfl,?_⟩
  refine vD (ObjN.same S1 O2) ok.2 (show y.dp≤d by exact Oz0 dd) (G.same S1) fun p2 y2 H2 S2 R2=>?_
  refine⟨_,rfl,_,Same.tup S2 R1,_,at0,_,rfl,?_⟩
  have S3:=S1.trans S2
  by_cases hx:iS ks lk x=true
  ·rw[if_pos hx]
   exact⟨by decide,fun p hp=>q p [.int 0,.ref p1] _ (S3.trans (gI hp _)) (by rw[show iS ks lk (.either x y)=true from by simp [iS,hx]]; exact SqT.of fj)⟩
  ·rw[if_neg hx]
   have hx':iS ks lk x=false:=by revert hx; cases iS ks lk x <;> simp
   refine⟨_,rfl,_,R2,_,at0,_,rfl,?_⟩
   by_cases hy:iS ks lk y=true
   ·rw[if_pos hy]
    exact⟨by decide,fun p hp=>q p [.int 1,.ref p2] _ (S3.trans (gI hp _)) (by rw[show iS ks lk (.either x y)=true from by simp [iS,hx',hy]]; exact SqT.of fj)⟩
   ·rw[if_neg hy]
    have hy':iS ks lk y=false:=by revert hy; cases iS ks lk y <;> simp
    exact⟨by decide,fun p hp=>q p [.ref p1,.ref p2] _ (S3.trans (gI hp _)) (by rw[show iS ks lk (.either x y)=false from by simp [iS,hx',hy']]; exact SqT.of fj)⟩
 | but x y=>exact absurd hk (by show ¬(7=6); decide)
theorem zK {k j:Nat} (F:Fun K "reason" "Either.reason" aC f fd):FnOk P w K mg base CX0 (k+3) f fd ["self","kinds","look"] (rz K cs 0 j):=by
 refine F.ok dI (fun vs H Q E h=>?_) (fun cdv A outer s H vs Q E hr h=>?_)
 ·obtain⟨a,kl,lt,n,ks,lk,rfl,_⟩:=h
  rfl
 obtain⟨a,kl,lt,n,ks,lk,rfl,hk,O,ok,dp,G,q⟩:=h
 have:=Nt.dp_pos n
 exact (Oz49 dp this).elim
theorem BI {d:Nat} (F:Fun K "reason" "But.reason" aV f fd) (M:Mg mg) (tt:TwoC K cs.but) (D_reason:∀ C sp,vN K cs d C sp→Disp P w K mg base "reason" (3+d) ["self","kinds","look"] C sp):FnOk P w K mg base CX0 (3+d+1) f fd ["self","kinds","look"] (rz K cs (d+1) 7):=by
 refine F.ok eL (fun vs H Q E h=>?_) (fun cdv A outer s H vs Q E hr h=>?_)
 ·obtain⟨a,kl,lt,n,ks,lk,rfl,_⟩:=h
  rfl
 obtain⟨a,kl,lt,n,ks,lk,rfl,hk,O,ok,dp,G,q⟩:=h
 refine⟨_,(@fz _ _ _ _ _ (@ni _ _ 3 _ _ _ _ eL.nd rfl pB (@sF _ _ _ _ _ _ _ _ _ _ _ _ _ _ (@tY _ _ _ _ _ (@eF _ 0 _ _ rfl jx ax ay) (by rfl)) D_reason hr (@cg _ _ _ _ _ (@eF _ 1 _ _ rfl jy aJ aK) (@cg _ _ _ _ _ (@eF _ 2 _ _ rfl jz bN bO) (@eY _) (cT rfl)) (cT rfl)) (by exact Oz10) (cT rfl) (iT rfl gj) (by rfl)) (mj rfl) (.inl rfl)) (@fz _ _ _ _ _ (@ni _ _ 4 _ _ _ _ eL.nd rfl pC (@sF _ _ _ _ _ _ _ _ _ _ _ _ _ _ (@tY _ _ _ _ _ (@eF _ 0 _ _ rfl jx ax ay) (by rfl)) D_reason hr (@cg _ _ _ _ _ (@eF _ 1 _ _ rfl jy aJ aK) (@cg _ _ _ _ _ (@eF _ 2 _ _ rfl jz bN bO) (@eY _) (cT rfl)) (cT rfl)) (by exact Oz10) (cT rfl) (iT rfl gj) (by rfl)) (mj rfl) (.inl rfl)) (@fz _ _ _ _ _ (@pG _ _ _ _ _ _ _ _ (@tw _ _ _ _ (@qY _ _ _ (@kZ _ _ _ _ _ _ _ (@ix_tup _) (@eF _ 3 _ _ rfl fH dG dH) (@ff _ _ _ _) (fun _ _=>rfl)) (rS rfl))) (@fS _ _ _ (@jm _ _ _ _ (@nP _ _ _ _ _ (@cg _ _ _ _ _ (@sf _ _ _ _) (@cg _ _ _ _ _ (@ff _ _ _ _) (@cg _ _ _ _ _ (@eF _ 3 _ _ rfl fH dG dH) (@eY _) (cT rfl)) (cT rfl)) (cT rfl))))) (@mO _)) (@fz _ _ _ _ _ (@pG _ _ _ _ _ _ _ _ (@qY _ _ _ (@kZ _ _ _ _ _ _ _ (@ix_tup _) (@eF _ 4 _ _ rfl fJ db dc) (@ff _ _ _ _) (fun _ _=>rfl)) (rS rfl)) (@fS _ _ _ (@jm _ _ _ _ (@nP _ _ _ _ _ (@cg _ _ _ _ _ (@sf _ _ _ _) (@cg _ _ _ _ _ (@ff _ _ _ _) (@cg _ _ _ _ _ (@eF _ 4 _ _ rfl fJ db dc) (@eY _) (cT rfl)) (cT rfl)) (cT rfl))))) (@mO _)) (@fS _ _ _ (@jm _ _ _ _ (@nP _ _ _ _ _ (@cg _ _ _ _ _ (@sf _ _ _ _) (@cg _ _ _ _ _ (@eF _ 3 _ _ rfl fH dG dH) (@cg _ _ _ _ _ (@eF _ 4 _ _ rfl fJ db dc) (@eY _) (cT rfl)) (cT rfl)) (cT rfl))))))))),?_⟩
 trivial
 cases n with
 | any=>exact absurd hk (by show ¬(0=7); decide)
 | made s=>exact absurd hk (by show ¬(1=7); decide)
 | used s=>exact absurd hk (by show ¬(2=7); decide)
 | chief s=>exact absurd hk (by show ¬(3=7); decide)
 | over k1 k2=>exact absurd hk (by show ¬(4=7); decide)
 | both x y=>exact absurd hk (by show ¬(5=7); decide)
 | either x y=>exact absurd hk (by show ¬(6=7); decide)
 | but x y =>
  obtain⟨dx,a1,a2,h,O1,O2⟩:=O
  have dd:max x.dp y.dp+1≤d+1:=dp
  refine⟨_,_,_,h,tt.cl,tt.n1,_,rfl,_,rfl,?_⟩
  refine vD O1 ok.1 (show x.dp≤d by exact Oz1 dd) G fun p1 y1 H1 S1 R1=>?_
  refine⟨_,_,_,S1 _ _ h,tt.cl,tt.n2,_,rfl,_,rfl,?_⟩
  refine vD (ObjN.same S1 O2) ok.2 (show y.dp≤d by exact Oz0 dd) (G.same S1) fun p2 y2 H2 S2 R2=>?_
  refine⟨_,rfl,_,Same.tup S2 R1,_,at0,_,rfl,?_⟩
  have S3:=S1.trans S2
  by_cases hx:iS ks lk x=false
  ·rw[if_pos hx]
   exact⟨by decide,fun p hp=>q p [.int 0,.ref p1] _ (S3.trans (gI hp _)) (by rw[show iS ks lk (.but x y)=false from by simp [iS,hx]]; exact SqT.of fj)⟩
  ·rw[if_neg hx]
   have hx':iS ks lk x=true:=by revert hx; cases iS ks lk x <;> simp
   refine⟨_,rfl,_,R2,_,at0,_,rfl,?_⟩
   by_cases hy:iS ks lk y=true
   ·rw[if_pos hy]
    exact⟨by decide,fun p hp=>q p [.int 1,.ref p2] _ (S3.trans (gI hp _)) (by rw[show iS ks lk (.but x y)=false from by simp [iS,hx',hy]]; exact SqT.of fj)⟩
   ·rw[if_neg hy]
    have hy':iS ks lk y=false:=by revert hy; cases iS ks lk y <;> simp
    exact⟨by decide,fun p hp=>q p [.ref p1,.ref p2] _ (S3.trans (gI hp _)) (by rw[show iS ks lk (.but x y)=true from by simp [iS,hx',hy']]; exact SqT.of fj)⟩
theorem BJ {k j:Nat} (F:Fun K "reason" "But.reason" aV f fd):FnOk P w K mg base CX0 (k+3) f fd ["self","kinds","look"] (rz K cs 0 j):=by
 refine F.ok eL (fun vs H Q E h=>?_) (fun cdv A outer s H vs Q E hr h=>?_)
 ·obtain⟨a,kl,lt,n,ks,lk,rfl,_⟩:=h
  rfl
 obtain⟨a,kl,lt,n,ks,lk,rfl,hk,O,ok,dp,G,q⟩:=h
 have:=Nt.dp_pos n
 exact (Oz49 dp this).elim
abbrev wV (P:Program) (w:World) (K:PySem.W.Frag) (mg:Str→Option Value) (base:Heap) (cs:NC) (j:Nat):Prop:=∀ k d,∃ f fd,Meth K (v7 cs j) "reason" f∧FnOk P w K mg base CX0 (k+3) f fd ["self","kinds","look"] (rz K cs d j)∧Binds K fd ["self","kinds","look"] []
abbrev zC (P:Program) (w:World) (K:PySem.W.Frag) (mg:Str→Option Value) (base:Heap) (cs:NC) (j:Nat):Prop:=(∀ k,∃ f fd,Meth K (v7 cs j) "reason" f∧FnOk P w K mg base CX0 (k+3) f fd ["self","kinds","look"] (rz K cs 0 j)∧Binds K fd ["self","kinds","look"] []) ∧
 ∀ d,(∀ C sp,vN K cs d C sp→Disp P w K mg base "reason" (3+d) ["self","kinds","look"] C sp)→∃ f fd,Meth K (v7 cs j) "reason" f∧FnOk P w K mg base CX0 (3+d+1) f fd ["self","kinds","look"] (rz K cs (d+1) j)∧Binds K fd ["self","kinds","look"] []
theorem FU (cl:∀ j,j<8→Cls K (v7 cs j)) (h0:wV P w K mg base cs 0) (h1:wV P w K mg base cs 1) (h2:wV P w K mg base cs 2) (h3:wV P w K mg base cs 3) (h4:wV P w K mg base cs 4) (h5:zC P w K mg base cs 5) (h6:zC P w K mg base cs 6) (h7:zC P w K mg base cs 7) :
  ∀ d C sp,vN K cs d C sp→Disp P w K mg base "reason" (3+d) ["self","kinds","look"] C sp:=by
 intro d
 induction d with
 | zero =>
  rintro C sp ⟨j,hj,rfl,rfl⟩
  refine⟨cl j hj,?_⟩
  have:j=0∨j=1∨j=2∨j=3∨j=4∨j=5∨j=6∨j=7:=by exact Oz7 hj
  rcases this with e | e | e | e | e | e | e | e <;> subst e
  ·exact h0 0 0
  ·exact h1 0 0
  ·exact h2 0 0
  ·exact h3 0 0
  ·exact h4 0 0
  ·exact h5.1 0
  ·exact h6.1 0
  ·exact h7.1 0
 | succ d ih =>
  rintro C sp ⟨j,hj,rfl,rfl⟩
  refine⟨cl j hj,?_⟩
  have:j=0∨j=1∨j=2∨j=3∨j=4∨j=5∨j=6∨j=7:=by exact Oz7 hj
  rcases this with e | e | e | e | e | e | e | e <;> subst e
  ·have:=h0 (d+1) (d+1)
   rwa [show d+1+3=3+(d+1) by exact Oz22] at this
  ·have:=h1 (d+1) (d+1)
   rwa [show d+1+3=3+(d+1) by exact Oz22] at this
  ·have:=h2 (d+1) (d+1)
   rwa [show d+1+3=3+(d+1) by exact Oz22] at this
  ·have:=h3 (d+1) (d+1)
   rwa [show d+1+3=3+(d+1) by exact Oz22] at this
  ·have:=h4 (d+1) (d+1)
   rwa [show d+1+3=3+(d+1) by exact Oz22] at this
  ·exact h5.2 d ih
  ·exact h6.2 d ih
  ·exact h7.2 d ih
end
def yv (K:PySem.W.Frag) (cs:NC):Sp:=fun vs H Q _=>∃ (a kl lt:Addr) (n:Nt) (ks:List Kd2) (lk:List Int),vs=[.ref a,.ref kl,.ref lt]∧ObjN K cs H a n∧n.ok∧n.dp≤5∧Ground K H kl lt ks lk∧∀ H',Same H H'→Q (.bl (iS ks lk n)) H'
section
variable {P:Program} {w:World} {K:PySem.W.Frag} {mg:Str→Option Value} {base:Heap} {f:Addr} {fd:FuncData} {cs:NC}
theorem AG (F:Fun K "claims" "Note.claims" bM f fd) (M:Mg mg) (D_reason:∀ C sp,vN K cs 5 C sp→Disp P w K mg base "reason" 8 ["self","kinds","look"] C sp):FnOk P w K mg base CX0 9 f fd ["self","kinds","look"] (yv K cs):=by
 refine F.ok pE (fun vs H Q E h=>?_) (fun cdv A outer s H vs Q E hr h=>?_)
 ·obtain⟨a,kl,lt,n,ks,lk,rfl,_⟩:=h
  rfl
 obtain⟨a,kl,lt,n,ks,lk,rfl,O,ok,dp,G,q⟩:=h
 refine⟨_,(@fS _ _ _ (@jm _ _ _ _ (@kZ _ _ _ _ _ _ _ (@ix_tup _) (@sF _ _ _ _ _ _ _ _ _ _ _ _ _ _ (@eF _ 0 _ _ rfl oj ax ay) D_reason hr (@cg _ _ _ _ _ (@eF _ 1 _ _ rfl om aJ aK) (@cg _ _ _ _ _ (@eF _ 2 _ _ rfl oq bN bO) (@eY _) (cT rfl)) (cT rfl)) (by decide) (cT rfl) (iT rfl gj) (by rfl)) (@ff _ _ _ _) (fun _ _=>rfl)))),?_⟩
 trivial
 refine vD O ok dp G fun p ys H1 S1 T=>?_
 exact⟨_,rfl,_,T,_,at0,q _ S1⟩
end
end MyE
namespace MyF
open My MyC MyD MyE PySem L2
noncomputable def top (i:Nat):Stmt:=PySem.Challenge.pw_tariffgate_k43_looked.main.body.getD i (.Pass ⟨0,0,0,0⟩)
theorem aa:(("_law_kinds_here":Str) == ("__debug__":Str))=false:=by decide
theorem ae:(("_law_kinds_here":Str) == ("__classdict__":Str))=false:=by decide
theorem aL:(("_law_look":Str) == ("__debug__":Str))=false:=by decide
theorem aM:(("_law_look":Str) == ("__classdict__":Str))=false:=by decide
theorem sy:(("_law_side":Str) == ("__debug__":Str))=false:=by decide
theorem sA:(("_law_side":Str) == ("__classdict__":Str))=false:=by decide
theorem sB:(("_law_name":Str) == ("__debug__":Str))=false:=by decide
theorem sC:(("_law_name":Str) == ("__classdict__":Str))=false:=by decide
theorem qN:(("_law_least":Str) == ("__debug__":Str))=false:=by decide
theorem qO:(("_law_least":Str) == ("__classdict__":Str))=false:=by decide
theorem lI:(("_law_kind":Str) == ("__debug__":Str))=false:=by decide
theorem lJ:(("_law_kind":Str) == ("__classdict__":Str))=false:=by decide
theorem af:(("_law_note_here":Str) == ("__debug__":Str))=false:=by decide
theorem ag:(("_law_note_here":Str) == ("__classdict__":Str))=false:=by decide
theorem cQ:(("_law_word":Str) == ("__debug__":Str))=false:=by decide
theorem cR:(("_law_word":Str) == ("__classdict__":Str))=false:=by decide
theorem gA:(("_law_there":Str) == ("__debug__":Str))=false:=by decide
theorem bQ:(("_law_claims":Str) == ("__debug__":Str))=false:=by decide
theorem lK:(("_law_rank":Str) == ("__debug__":Str))=false:=by decide
abbrev aW:Stmt:=top 55
theorem lM:FnScope ["_law_kinds_here","_law_look","_law_side","_law_name","_law_least","_law_k"] ["_law_kinds_here","_law_look","_law_side","_law_name","_law_least"] (defScope aW):=⟨rfl,rfl,rfl,by decide +kernel,rfl,by decide +kernel,by decide +kernel⟩
theorem kh:Vis (defScope aW) "_law_kinds_here":=by decreasing_trivial
theorem qP:Vis (defScope aW) "_law_look":=by decreasing_trivial
theorem qQ:Vis (defScope aW) "_law_side":=by decreasing_trivial
theorem qR:Vis (defScope aW) "_law_name":=by decreasing_trivial
theorem qS:Vis (defScope aW) "_law_least":=by decreasing_trivial
theorem kj:Vis (defScope aW) "_law_k":=by decreasing_trivial
theorem qT:Loc (defScope aW) "_law_k":=by first | exact Or.inl rfl | exact Or.inr rfl
theorem mw:(defScope aW).names.lookup ("range":Str)=some .globalImplicit:=by rfl
theorem ot:(defScope aW).names.lookup ("len":Str)=some .globalImplicit:=by rfl
abbrev cI:Stmt:=top 56
theorem tS:FnScope ["_law_kinds_here","_law_look","_law_kind"] ["_law_kinds_here","_law_look","_law_kind"] (defScope cI):=⟨rfl,rfl,rfl,by decide +kernel,rfl,by decide +kernel,by decide +kernel⟩
theorem lN:Vis (defScope cI) "_law_kinds_here":=by decreasing_trivial
theorem sD:Vis (defScope cI) "_law_look":=by decreasing_trivial
theorem lO:Vis (defScope cI) "_law_kind":=by decreasing_trivial
abbrev aN:Stmt:=top 57
theorem gB:FnScope ["_law_note_here","_law_kinds_here","_law_look","_law_word"] ["_law_note_here","_law_kinds_here","_law_look"] (defScope aN):=⟨rfl,rfl,rfl,by decide +kernel,rfl,by decide +kernel,by decide +kernel⟩
theorem aT:Vis (defScope aN) "_law_note_here":=by decreasing_trivial
theorem bg:Vis (defScope aN) "_law_kinds_here":=by decreasing_trivial
theorem aU:Vis (defScope aN) "_law_look":=by decreasing_trivial
theorem ce:Vis (defScope aN) "_law_word":=by decreasing_trivial
theorem pH:Loc (defScope aN) "_law_word":=by first | exact Or.inl rfl | exact Or.inr rfl
theorem bh:(defScope aN).names.lookup ("_law_claims":Str)=some .globalImplicit:=by rfl
theorem eI:(defScope aN).names.lookup ("_law_rank":Str)=some .globalImplicit:=by rfl
theorem cV:(defScope aN).names.lookup ("_law_there":Str)=some .globalImplicit:=by rfl
theorem m6:(defScope aN).names.lookup ("max":Str)=some .globalImplicit:=by rfl
theorem at1 {u v:V} {xs:List V}:atI (u::v::xs) 1=some v:=(um (j:=1) rfl:atI (u::v::xs) ((1:Nat):Int)=some v)
theorem at2 {u v x:V} {xs:List V}:atI (u::v::x::xs) 2=some x:=(um (j:=2) rfl:atI (u::v::x::xs) ((2:Nat):Int)=some x)
def w9 (K:PySem.W.Frag) (d:Nat):Sp:=fun vs H Q _=>∃ (t kl lt:Addr) (n:Nt) (ks:List Kd2) (lk:List Int),vs=[.ref t,.ref kl,.ref lt]∧tT K H (.ref t) n∧n.ok∧n.dp≤d∧Ground K H kl lt ks lk∧∀ H',Same H H'→Q (.bl (iS ks lk n)) H'
noncomputable def pTh (sd:Nat) (s:List Nat) (m:Int) (k:Kd2) (x:Int):Bool:=decide (m≤x) && decide ((if sd=0 then k.1 else k.2)=s)
def zp (K:PySem.W.Frag):Sp:=fun vs H Q _=>∃ (kl lt:Addr) (sd:Nat) (s:List Nat) (m:Int) (ks:List Kd2) (lk:List Int),vs=[.ref kl,.ref lt,.int (sd:Int),.str (txt s),.int m]∧sd<2∧Ground K H kl lt ks lk∧Q (.bl (uZ ks lk (pTh sd s m))) H
theorem any_congr {ks:List Kd2} {lk:List Int} {p q:Kd2→Int→Bool} (h:∀ k,∀ x∈lk,p k x=q k x):uZ ks lk p=uZ ks lk q:=by
 unfold uZ
 rw[Bool.eq_iff_iff,List.any_eq_true,List.any_eq_true]
 constructor
 ·rintro⟨z,hz,e⟩
  exact⟨z,hz,by rw[← h z.1 z.2 (List.of_mem_zip hz).2]; exact e⟩
 ·rintro⟨z,hz,e⟩
  exact⟨z,hz,by rw[h z.1 z.2 (List.of_mem_zip hz).2]; exact e⟩
theorem JD {ks:List Kd2} {lk:List Int} {s:List Nat} (nn:∀ x∈lk,0≤x):uZ ks lk (pTh 0 s 1)=uZ ks lk (v9 lk s):=any_congr fun k x hx=>by
 have:=nn x hx
 unfold pTh v9
 rw[if_pos rfl,show decide ((1:Int)≤x)=decide (x≠0) by rw[decide_eq_decide]; omega]
theorem Jz {ks:List Kd2} {lk:List Int} {s:List Nat} (nn:∀ x∈lk,0≤x):uZ ks lk (pTh 1 s 1)=uZ ks lk (v8 lk s):=any_congr fun k x hx=>by
 have:=nn x hx
 unfold pTh v8
 rw[if_neg (by decide),show decide ((1:Int)≤x)=decide (x≠0) by rw[decide_eq_decide]; omega]
theorem Ib {ks:List Kd2} {lk:List Int} {s:List Nat} {mx:Int} (hm:mx∈lk) (top:∀ y∈lk,y≤mx):uZ ks lk (pTh 0 s mx)=uZ ks lk (vt lk s):=any_congr fun k x hx=>by
 unfold pTh vt
 rw[if_pos rfl,show decide (mx≤x)=decide (∀ y∈lk,y≤x) by
  rw[decide_eq_decide]
  exact⟨fun h y hy=>Int.le_trans (top y hy) h,fun h=>h mx hm⟩]
section
variable {P:Program} {w:World} {K:PySem.W.Frag} {mg:Str→Option Value} {base:Heap} {f:Addr} {fd:FuncData}
theorem Cv (F:Fun K "_law_there" "_law_there" aW f fd) (M:Mg mg):FnOk P w K mg base CX0 1 f fd ["_law_kinds_here","_law_look","_law_side","_law_name","_law_least"] (zp K):=by
 refine F.ok lM (fun vs H Q E h=>?_) (fun cdv A outer s H vs Q E hr h=>?_)
 ·obtain⟨kl,lt,sd,s,m,ks,lk,rfl,_⟩:=h
  rfl
 obtain⟨kl,lt,sd,st,m,ks,lk,rfl,sd2,G,q⟩:=h
 obtain⟨kx,L,A⟩:=G.kx
 have lx:=A.length
 have l4:=G.le
 refine⟨_,(@fz _ _ _ _ _ (@vZ _ _ _ _ _ _ _ _ PassesOwn.never rfl (@vP _ _ _ _ _ _ mw M.m_range (@cg _ _ _ _ _ (@ki _ _ _ _ _ _ _ _ _ m9 ot M.m_len qZ (@cg _ _ _ _ _ (@eF _ 0 _ _ rfl kh aa ae) (@eY _) (cT rfl)) aq ao (cT rfl) gj) (@eY _) (cT rfl)) (star1' rfl)) (@pF _ _ 5 _ lM.nd rfl qT (.inl rfl)) (@fS _ _ _ (@pG _ _ _ _ _ _ _ _ (@PW.pt _ _ _ (@vA _ _ _ _ _ _ _ (@mL _ _ _ _ _ _ _ _ (@IF _) (@kZ _ _ _ _ _ _ _ (@ix_tup _) (@eF _ 1 _ _ rfl qP aL aM) (@eF _ 5 _ _ rfl kj cJ cK) (fun _ _=>rfl)) (@eF _ 4 _ _ rfl qS qN qO) (nj _)) (@vB _ _ _ _ (@mL _ _ _ _ _ _ _ _ (@qb _) (@kZ _ _ _ _ _ _ _ (@ix_tup _) (@kZ _ _ _ _ _ _ _ (@ix_list _) (@eF _ 0 _ _ rfl kh aa ae) (@eF _ 5 _ _ rfl kj cJ cK) (fun _ _=>rfl)) (@eF _ 2 _ _ rfl qQ sy sA) (fun _ _=>rfl)) (@eF _ 3 _ _ rfl qR sB sC) (nj _))))) (@fS _ _ _ (@jm _ _ _ _ (@sf _ _ _ _))) (@mO _))) (by intro _; rfl)) (@fS _ _ _ (@jm _ _ _ _ (@sf _ _ _ _)))),?_⟩
 trivial
 refine⟨_,.inl L,by exact Oz63,by omega,?_⟩
 rw[Int.toNat_natCast]
 obtain⟨Pv,hP⟩:∃ Pv:Nat→St→Hp→Prop,Pv=fun i σ H'=>∃ z,vL ks lk (pTh sd st m) i=false∧H'=H∧σ=[some (V.ref kl),some (V.ref lt),some (V.int (sd:Int)),some (V.str (txt st)),some (V.int m),z]:=⟨_,rfl⟩
 refine wA Pv ?_ ?_ ?_
 ·rw[hP]
  exact⟨_,rfl,rfl,rfl⟩
 ·intro i σ H' hi h
  rw[hP] at h
  obtain⟨z,a0,rfl,rfl⟩:=h
  obtain⟨x,hx⟩:∃ x,kx[i]?=some x:=⟨_,List.getElem?_eq_getElem hi⟩
  obtain⟨p,k,rfl,hk,hp⟩:=A.at hx
  obtain⟨x,e1,e2,mm,nn⟩:=G.at hk
  have su:=xx (p:=pTh sd st m) hk e1
  rw[a0,Bool.false_or] at su
  have fin:vL ks lk (pTh sd st m) (i+1)=true→uZ ks lk (pTh sd st m)=true:=fun h=>by
   unfold vL at h
   unfold uZ
   rw[List.any_eq_true] at h ⊢
   obtain⟨y,hy,e⟩:=h
   exact⟨y,List.mem_of_mem_take hy,e⟩
  trivial
  rw[show (0+(i:Int))=((i:Nat):Int) by exact Oz82]
  refine⟨_,G.look,_,e2,_,rfl,?_⟩
  have next:pTh sd st m k x=false→Pv (i+1) [some (V.ref kl),some (V.ref lt),some (V.int (sd:Int)),some (V.str (txt st)),some (V.int m),some (V.int (i:Int))] H':=fun e=>by
   rw[hP]
   exact⟨_,by rw[su]; exact e,rfl,rfl⟩
  by_cases hm:m≤x
  ·rw[if_pos hm]
   have ats:atI (kRow k) (sd:Int)=some (.str (txt (if sd=0 then k.1 else k.2))):=by
    have:sd=0∨sd=1:=by omega
    rcases this with rfl | rfl <;> rfl
   refine⟨_,L,_,um hx,_,rfl,_,hp,_,ats,rfl,?_⟩
   by_cases hs:(if sd=0 then k.1 else k.2)=st
   ·rw[if_pos (by rw[hs])]
    have:=fin (by rw[su]; unfold pTh; rw[decide_eq_true hm,decide_eq_true hs]; rfl)
    rw[this] at q
    exact q
   ·rw[if_neg (fun z=>hs (by
     have z1:txt (if sd=0 then k.1 else k.2)=txt st:=V.str.inj z
     have:=zy (a:=if sd=0 then k.1 else k.2) (b:=st)
     rw[z1] at this
     simpa using this))]
    exact next (by unfold pTh; rw[decide_eq_false hs,Bool.and_false])
  ·rw[if_neg hm]
   exact next (by unfold pTh; rw[decide_eq_false hm,Bool.false_and])
 ·intro σ H' h
  rw[hP] at h
  obtain⟨z,a0,rfl,rfl⟩:=h
  trivial
  rw[lx,xW G.len] at a0
  rw[← a0]
  exact q
theorem DU (F:Fun K "_law_rank" "_law_rank" cI f fd) (M:Mg mg):FnOk P w K mg base CX0 1 f fd ["_law_kinds_here","_law_look","_law_kind"] (wK K):=by
 refine F.ok tS (fun vs H Q E h=>?_) (fun cdv A outer s H vs Q E hr h=>?_)
 ·obtain⟨kl,lt,p,ks,lk,k,rfl,_⟩:=h
  rfl
 obtain⟨kl,lt,p,ks,lk,k,rfl,G,hp,ok,q⟩:=h
 obtain⟨kx,L,A⟩:=G.kx
 have lx:=A.length
 refine⟨_,(@fz _ _ _ _ _ (@pG _ _ _ _ _ _ _ _ (@mL _ _ _ _ _ _ _ _ (Gf (xQ hr)) (@eF _ 2 _ _ rfl lO lI lJ) (@eF _ 0 _ _ rfl lN aa ae) (by with_unfolding_all rfl)) (@fS _ _ _ (@jm _ _ _ _ (@kZ _ _ _ _ _ _ _ (@ix_tup _) (@eF _ 1 _ _ rfl sD aL aM) (@wD _ _ _ _ _ _ _ _ _ _ _ _ PySem.F.plainAttrs_list PySem.F.slot_list_index PySem.F.type_list_index (Bm (K:=K) rfl (xQ hr)) (@eF _ 0 _ _ rfl lN aa ae) (@cg _ _ _ _ _ (@eF _ 2 _ _ rfl lO lI lJ) (@eY _) (cT rfl)) (by rfl) (by rfl) (by rfl) (by rfl) (by rfl)) (fun _ _=>rfl)))) (@mO _)) (@fS _ _ _ (@jm _ _ _ _ (@ff _ _ _ _)))),?_⟩
 trivial
 refine Bp hp ok L A G.ok ⟨_,rfl,?_⟩
 by_cases hk:k∈ks
 ·rw[if_pos (by simp [hk])]
  refine⟨.inl ⟨rfl,_,L⟩,?_⟩
  obtain⟨j,hj,hno⟩:=CI hk
  have lj:=(List.getElem?_eq_some_iff.mp hj).1
  have l4:=G.le
  obtain⟨x,e1,e2,_,_⟩:=G.at hj
  obtain⟨f1,f2⟩:=wF G.ok
  refine⟨kl,.ref p,kD k,ks.map kD,j,rfl,rfl,by exact Oz76 lj l4,vF hp,.lst L A.rep,xg ok,⟨f1,?_⟩,⟨kD k,by rw[List.getElem?_map,hj]; rfl,by rw[wI]; exact decide_eq_true rfl⟩,fun m z hm hz=>?_,?_⟩
  ·show PyData.depthAll (ks.map kD)+1≤40
   exact Oz21 f2
  ·rw[List.getElem?_map] at hz
   obtain⟨z',ez,rfl⟩:=Option.map_eq_some_iff.mp hz
   rw[wI]
   exact decide_eq_false (hno m z' hm ez)
  ·refine⟨_,_,rfl,G.look,_,e2,?_⟩
   rw[← zR hj hno e1]
   exact q _ (Same.refl _)
 ·rw[if_neg (by simp [hk])]
  rw[← yZ (lk:=lk) hk]
  exact q _ (Same.refl _)
theorem DN {d:Nat} (F:Fun K "_law_claims" "_law_claims" aN f fd) (M:Mg mg) (cN:Cal P w K mg base CX0 "_law_there" 1 ["_law_kinds_here","_law_look","_law_side","_law_name","_law_least"] (zp K)) (dJ:Cal P w K mg base CX0 "_law_rank" 1 ["_law_kinds_here","_law_look","_law_kind"] (wK K)) (bK:Cal P w K mg base CX0 "_law_claims" (3+d) ["_law_note_here","_law_kinds_here","_law_look"] (w9 K d)):FnOk P w K mg base CX0 (3+d+1) f fd ["_law_note_here","_law_kinds_here","_law_look"] (w9 K (d+1)):=by
 refine F.ok gB (fun vs H Q E h=>?_) (fun cdv A outer s H vs Q E hr h=>?_)
 ·obtain⟨t,kl,lt,n,ks,lk,rfl,_⟩:=h
  rfl
 obtain⟨t,kl,lt,n,ks,lk,rfl,R,ok,dp,G,q⟩:=h
 refine⟨_,(@fz _ _ _ _ _ (@ni _ _ 3 _ _ _ _ gB.nd rfl pH (@kZ _ _ _ _ _ _ _ (@ix_tup _) (@eF _ 0 _ _ rfl aT af ag) (@ff _ _ _ _) (fun _ _=>rfl)) (mj rfl) (.inl rfl)) (@fz _ _ _ _ _ (@pG _ _ _ _ _ _ _ _ (@mL _ _ _ _ _ _ _ _ (@qb _) (@eF _ 3 _ _ rfl ce cQ cR) (@nS _ _ _ _) (nj _)) (@fS _ _ _ (@jm _ _ _ _ (@vH _ _ _ _ _ _ _ (@gY _ _ _ _ _ _ _ _ _ _ _ bK hr bh (@cg _ _ _ _ _ (@kZ _ _ _ _ _ _ _ (@ix_tup _) (@eF _ 0 _ _ rfl aT af ag) (@ff _ _ _ _) (fun _ _=>rfl)) (@cg _ _ _ _ _ (@eF _ 1 _ _ rfl bg aa ae) (@cg _ _ _ _ _ (@eF _ 2 _ _ rfl aU aL aM) (@eY _) (cT rfl)) (cT rfl)) (cT rfl)) (by exact Oz10) bQ (cT rfl) (iT rfl (iT rfl gj))) (@vz _ _ _ _ _ (@gY _ _ _ _ _ _ _ _ _ _ _ bK hr bh (@cg _ _ _ _ _ (@kZ _ _ _ _ _ _ _ (@ix_tup _) (@eF _ 0 _ _ rfl aT af ag) (@ff _ _ _ _) (fun _ _=>rfl)) (@cg _ _ _ _ _ (@eF _ 1 _ _ rfl bg aa ae) (@cg _ _ _ _ _ (@eF _ 2 _ _ rfl aU aL aM) (@eY _) (cT rfl)) (cT rfl)) (cT rfl)) (by exact Oz10) bQ (cT rfl) (iT rfl (iT rfl gj))))))) (@mO _)) (@fz _ _ _ _ _ (@pG _ _ _ _ _ _ _ _ (@mL _ _ _ _ _ _ _ _ (@qb _) (@eF _ 3 _ _ rfl ce cQ cR) (@nS _ _ _ _) (nj _)) (@fS _ _ _ (@jm _ _ _ _ (@IQ _ _ _ _ _ _ _ (@gY _ _ _ _ _ _ _ _ _ _ _ bK hr bh (@cg _ _ _ _ _ (@kZ _ _ _ _ _ _ _ (@ix_tup _) (@eF _ 0 _ _ rfl aT af ag) (@ff _ _ _ _) (fun _ _=>rfl)) (@cg _ _ _ _ _ (@eF _ 1 _ _ rfl bg aa ae) (@cg _ _ _ _ _ (@eF _ 2 _ _ rfl aU aL aM) (@eY _) (cT rfl)) (cT rfl)) (cT rfl)) (by exact Oz10) bQ (cT rfl) (iT rfl (iT rfl gj))) (@vz _ _ _ _ _ (@gY _ _ _ _ _ _ _ _ _ _ _ bK hr bh (@cg _ _ _ _ _ (@kZ _ _ _ _ _ _ _ (@ix_tup _) (@eF _ 0 _ _ rfl aT af ag) (@ff _ _ _ _) (fun _ _=>rfl)) (@cg _ _ _ _ _ (@eF _ 1 _ _ rfl bg aa ae) (@cg _ _ _ _ _ (@eF _ 2 _ _ rfl aU aL aM) (@eY _) (cT rfl)) (cT rfl)) (cT rfl)) (by exact Oz10) bQ (cT rfl) (iT rfl (iT rfl gj))))))) (@mO _)) (@fz _ _ _ _ _ (@pG _ _ _ _ _ _ _ _ (@mL _ _ _ _ _ _ _ _ (@qb _) (@eF _ 3 _ _ rfl ce cQ cR) (@nS _ _ _ _) (nj _)) (@fS _ _ _ (@jm _ _ _ _ (@vH _ _ _ _ _ _ _ (@gY _ _ _ _ _ _ _ _ _ _ _ bK hr bh (@cg _ _ _ _ _ (@kZ _ _ _ _ _ _ _ (@ix_tup _) (@eF _ 0 _ _ rfl aT af ag) (@ff _ _ _ _) (fun _ _=>rfl)) (@cg _ _ _ _ _ (@eF _ 1 _ _ rfl bg aa ae) (@cg _ _ _ _ _ (@eF _ 2 _ _ rfl aU aL aM) (@eY _) (cT rfl)) (cT rfl)) (cT rfl)) (by exact Oz10) bQ (cT rfl) (iT rfl (iT rfl gj))) (@vz _ _ _ _ _ (@Cc _ _ _ _ (@gY _ _ _ _ _ _ _ _ _ _ _ bK hr bh (@cg _ _ _ _ _ (@kZ _ _ _ _ _ _ _ (@ix_tup _) (@eF _ 0 _ _ rfl aT af ag) (@ff _ _ _ _) (fun _ _=>rfl)) (@cg _ _ _ _ _ (@eF _ 1 _ _ rfl bg aa ae) (@cg _ _ _ _ _ (@eF _ 2 _ _ rfl aU aL aM) (@eY _) (cT rfl)) (cT rfl)) (cT rfl)) (by exact Oz10) bQ (cT rfl) (iT rfl (iT rfl gj)))))))) (@mO _)) (@fz _ _ _ _ _ (@pG _ _ _ _ _ _ _ _ (@mL _ _ _ _ _ _ _ _ (@qb _) (@eF _ 3 _ _ rfl ce cQ cR) (@nS _ _ _ _) (nj _)) (@fS _ _ _ (@jm _ _ _ _ (@vV _ _ _ _ _ _ _ _ (@Ac _) (@gY _ _ _ _ _ _ _ _ _ _ _ dJ hr eI (@cg _ _ _ _ _ (@eF _ 1 _ _ rfl bg aa ae) (@cg _ _ _ _ _ (@eF _ 2 _ _ rfl aU aL aM) (@cg _ _ _ _ _ (@kZ _ _ _ _ _ _ _ (@ix_tup _) (@eF _ 0 _ _ rfl aT af ag) (@ff _ _ _ _) (fun _ _=>rfl)) (@eY _) (cT rfl)) (cT rfl)) (cT rfl)) (by exact Oz32) lK (cT rfl) (iT rfl (iT rfl gj))) (@gY _ _ _ _ _ _ _ _ _ _ _ dJ hr eI (@cg _ _ _ _ _ (@eF _ 1 _ _ rfl bg aa ae) (@cg _ _ _ _ _ (@eF _ 2 _ _ rfl aU aL aM) (@cg _ _ _ _ _ (@kZ _ _ _ _ _ _ _ (@ix_tup _) (@eF _ 0 _ _ rfl aT af ag) (@ff _ _ _ _) (fun _ _=>rfl)) (@eY _) (cT rfl)) (cT rfl)) (cT rfl)) (by exact Oz32) lK (cT rfl) (iT rfl (iT rfl gj))) (nj _)))) (@mO _)) (@fz _ _ _ _ _ (@pG _ _ _ _ _ _ _ _ (@mL _ _ _ _ _ _ _ _ (@qb _) (@eF _ 3 _ _ rfl ce cQ cR) (@nS _ _ _ _) (nj _)) (@fS _ _ _ (@jm _ _ _ _ (@gY _ _ _ _ _ _ _ _ _ _ _ cN hr cV (@cg _ _ _ _ _ (@eF _ 1 _ _ rfl bg aa ae) (@cg _ _ _ _ _ (@eF _ 2 _ _ rfl aU aL aM) (@cg _ _ _ _ _ (@ff _ _ _ _) (@cg _ _ _ _ _ (@kZ _ _ _ _ _ _ _ (@ix_tup _) (@eF _ 0 _ _ rfl aT af ag) (@ff _ _ _ _) (fun _ _=>rfl)) (@cg _ _ _ _ _ (@ff _ _ _ _) (@eY _) (cT rfl)) (cT rfl)) (cT rfl)) (cT rfl)) (cT rfl)) (by exact Oz32) gA (cT rfl) (iT rfl (iT rfl (iT rfl (iT rfl gj))))))) (@mO _)) (@fz _ _ _ _ _ (@pG _ _ _ _ _ _ _ _ (@mL _ _ _ _ _ _ _ _ (@qb _) (@eF _ 3 _ _ rfl ce cQ cR) (@nS _ _ _ _) (nj _)) (@fS _ _ _ (@jm _ _ _ _ (@gY _ _ _ _ _ _ _ _ _ _ _ cN hr cV (@cg _ _ _ _ _ (@eF _ 1 _ _ rfl bg aa ae) (@cg _ _ _ _ _ (@eF _ 2 _ _ rfl aU aL aM) (@cg _ _ _ _ _ (@ff _ _ _ _) (@cg _ _ _ _ _ (@kZ _ _ _ _ _ _ _ (@ix_tup _) (@eF _ 0 _ _ rfl aT af ag) (@ff _ _ _ _) (fun _ _=>rfl)) (@cg _ _ _ _ _ (@ff _ _ _ _) (@eY _) (cT rfl)) (cT rfl)) (cT rfl)) (cT rfl)) (cT rfl)) (by exact Oz32) gA (cT rfl) (iT rfl (iT rfl (iT rfl (iT rfl gj))))))) (@mO _)) (@fz _ _ _ _ _ (@pG _ _ _ _ _ _ _ _ (@mL _ _ _ _ _ _ _ _ (@qb _) (@eF _ 3 _ _ rfl ce cQ cR) (@nS _ _ _ _) (nj _)) (@fS _ _ _ (@jm _ _ _ _ (@gY _ _ _ _ _ _ _ _ _ _ _ cN hr cV (@cg _ _ _ _ _ (@eF _ 1 _ _ rfl bg aa ae) (@cg _ _ _ _ _ (@eF _ 2 _ _ rfl aU aL aM) (@cg _ _ _ _ _ (@ff _ _ _ _) (@cg _ _ _ _ _ (@kZ _ _ _ _ _ _ _ (@ix_tup _) (@eF _ 0 _ _ rfl aT af ag) (@ff _ _ _ _) (fun _ _=>rfl)) (@cg _ _ _ _ _ (@ki _ _ _ _ _ _ _ _ _ (Bj rfl) m6 M.m_max FI (@cg _ _ _ _ _ (@eF _ 2 _ _ rfl aU aL aM) (@eY _) (cT rfl)) lC lB (cT rfl) gj) (@eY _) (cT rfl)) (cT rfl)) (cT rfl)) (cT rfl)) (cT rfl)) (by exact Oz32) gA (cT rfl) (iT rfl (iT rfl (iT rfl (iT rfl gj))))))) (@mO _)) (@fS _ _ _ (@jm _ _ _ _ (@sf _ _ _ _))))))))))),?_⟩
 trivial
 cases n with
 | any =>
  obtain⟨x0,T,r0⟩:=yg R
  cases mK r0
  refine⟨_,T,_,at0,rfl,?_⟩
  rw[if_neg (by decide)]
  refine⟨rfl,?_⟩
  rw[if_neg (by decide)]
  refine⟨rfl,?_⟩
  rw[if_neg (by decide)]
  refine⟨rfl,?_⟩
  rw[if_neg (by decide)]
  refine⟨rfl,?_⟩
  rw[if_neg (by decide)]
  refine⟨rfl,?_⟩
  rw[if_neg (by decide)]
  refine⟨rfl,?_⟩
  rw[if_neg (by decide)]
  exact q _ (Same.refl _)
 | made s =>
  obtain⟨x0,y0,T,r0,r1⟩:=uC R
  cases mK r0
  cases mK r1
  refine⟨_,T,_,at0,rfl,?_⟩
  rw[if_neg (by decide)]
  refine⟨rfl,?_⟩
  rw[if_neg (by decide)]
  refine⟨rfl,?_⟩
  rw[if_neg (by decide)]
  refine⟨rfl,?_⟩
  rw[if_neg (by decide)]
  refine⟨rfl,?_⟩
  rw[if_pos rfl]
  refine⟨_,T,_,at1,kl,lt,0,s,1,ks,lk,rfl,by decide,G,?_⟩
  rw[JD G.nn]
  exact q _ (Same.refl _)
 | used s =>
  obtain⟨x0,y0,T,r0,r1⟩:=uC R
  cases mK r0
  cases mK r1
  refine⟨_,T,_,at0,rfl,?_⟩
  rw[if_neg (by decide)]
  refine⟨rfl,?_⟩
  rw[if_neg (by decide)]
  refine⟨rfl,?_⟩
  rw[if_neg (by decide)]
  refine⟨rfl,?_⟩
  rw[if_neg (by decide)]
  refine⟨rfl,?_⟩
  rw[if_neg (by decide)]
  refine⟨rfl,?_⟩
  rw[if_pos rfl]
  refine⟨_,T,_,at1,kl,lt,1,s,1,ks,lk,rfl,by decide,G,?_⟩
  rw[Jz G.nn]
  exact q _ (Same.refl _)
 | chief s =>
  obtain⟨x0,y0,T,r0,r1⟩:=uC R
  cases mK r0
  cases mK r1
  refine⟨_,T,_,at0,rfl,?_⟩
  rw[if_neg (by decide)]
  refine⟨rfl,?_⟩
  rw[if_neg (by decide)]
  refine⟨rfl,?_⟩
  rw[if_neg (by decide)]
  refine⟨rfl,?_⟩
  rw[if_neg (by decide)]
  refine⟨rfl,?_⟩
  rw[if_neg (by decide)]
  refine⟨rfl,?_⟩
  rw[if_neg (by decide)]
  refine⟨rfl,?_⟩
  rw[if_pos rfl]
  refine⟨_,T,_,at1,lk,.inr G.look,by rw[G.len]; exact G.pos,fun mx hm htop=>?_⟩
  refine⟨kl,lt,0,s,mx,ks,lk,rfl,by decide,G,?_⟩
  rw[Ib hm htop]
  exact q _ (Same.refl _)
 | over a b =>
  obtain⟨x0,y0,z0,T,r0,r1,r2⟩:=qV R
  cases mK r0
  obtain⟨p1,rfl,T1⟩:=wN r1
  obtain⟨p2,rfl,T2⟩:=wN r2
  refine⟨_,T,_,at0,rfl,?_⟩
  rw[if_neg (by decide)]
  refine⟨rfl,?_⟩
  rw[if_neg (by decide)]
  refine⟨rfl,?_⟩
  rw[if_neg (by decide)]
  refine⟨rfl,?_⟩
  rw[if_pos rfl]
  refine⟨_,T,_,at1,_,_,_,ks,lk,a,rfl,G,T1,ok.1,fun H1 S1=>?_⟩
  refine⟨_,Same.tup S1 T,_,at2,_,_,_,ks,lk,b,rfl,G.same S1,Same.tup S1 T2,ok.2,fun H2 S2=>?_⟩
  exact⟨_,rfl,_,rfl,q _ (S1.trans S2)⟩
 | both x y =>
  obtain⟨x0,y0,z0,T,r0,r1,r2⟩:=qV R
  cases mK r0
  obtain⟨t1,rfl⟩:=pR r1
  obtain⟨t2,rfl⟩:=pR r2
  have dd:max x.dp y.dp+1≤d+1:=dp
  refine⟨_,T,_,at0,rfl,?_⟩
  rw[if_pos rfl]
  refine⟨_,T,_,at1,t1,kl,lt,x,ks,lk,rfl,r1,ok.1,(by exact Oz1 dd),G,fun H1 S1=>?_⟩
  refine⟨_,rfl,?_⟩
  by_cases hx:iS ks lk x=true
  ·rw[if_pos hx]
   refine⟨_,Same.tup S1 T,_,at2,t2,kl,lt,y,ks,lk,rfl,r2.same S1,ok.2,(by exact Oz0 dd),G.same S1,fun H2 S2=>?_⟩
   have e9:iS ks lk (.both x y)=iS ks lk y:=by simp [iS,hx]
   rw[← e9]
   exact q _ (S1.trans S2)
  ·rw[if_neg hx]
   have e9:iS ks lk (.both x y)=false:=by simp [iS,hx]
   rw[← e9]
   exact q _ S1
 | either x y =>
  obtain⟨x0,y0,z0,T,r0,r1,r2⟩:=qV R
  cases mK r0
  obtain⟨t1,rfl⟩:=pR r1
  obtain⟨t2,rfl⟩:=pR r2
  have dd:max x.dp y.dp+1≤d+1:=dp
  refine⟨_,T,_,at0,rfl,?_⟩
  rw[if_neg (by decide)]
  refine⟨rfl,?_⟩
  rw[if_pos rfl]
  refine⟨_,T,_,at1,t1,kl,lt,x,ks,lk,rfl,r1,ok.1,(by exact Oz1 dd),G,fun H1 S1=>?_⟩
  refine⟨_,rfl,?_⟩
  by_cases hx:iS ks lk x=true
  ·rw[if_pos hx]
   have e9:iS ks lk (.either x y)=true:=by simp [iS,hx]
   rw[← e9]
   exact q _ S1
  ·rw[if_neg hx]
   refine⟨_,Same.tup S1 T,_,at2,t2,kl,lt,y,ks,lk,rfl,r2.same S1,ok.2,(by exact Oz0 dd),G.same S1,fun H2 S2=>?_⟩
   have e9:iS ks lk (.either x y)=iS ks lk y:=by simp [iS,hx]
   rw[← e9]
   exact q _ (S1.trans S2)
 | but x y =>
  obtain⟨x0,y0,z0,T,r0,r1,r2⟩:=qV R
  cases mK r0
  obtain⟨t1,rfl⟩:=pR r1
  obtain⟨t2,rfl⟩:=pR r2
  have dd:max x.dp y.dp+1≤d+1:=dp
  refine⟨_,T,_,at0,rfl,?_⟩
  rw[if_neg (by decide)]
  refine⟨rfl,?_⟩
  rw[if_neg (by decide)]
  refine⟨rfl,?_⟩
  rw[if_pos rfl]
  refine⟨_,T,_,at1,t1,kl,lt,x,ks,lk,rfl,r1,ok.1,(by exact Oz1 dd),G,fun H1 S1=>?_⟩
  refine⟨_,rfl,?_⟩
  by_cases hx:iS ks lk x=true
  ·rw[if_pos hx]
   refine⟨_,Same.tup S1 T,_,at2,t2,kl,lt,y,ks,lk,rfl,r2.same S1,ok.2,(by exact Oz0 dd),G.same S1,fun H2 S2=>?_⟩
   have e9:iS ks lk (.but x y) = !iS ks lk y:=by simp [iS,hx]
   refine⟨_,rfl,?_⟩
   rw[← e9]
   exact q _ (S1.trans S2)
  ·rw[if_neg hx]
   have e9:iS ks lk (.but x y)=false:=by simp [iS,hx]
   rw[← e9]
   exact q _ S1
theorem yM (F:Fun K "_law_claims" "_law_claims" aN f fd) (M:Mg mg) (cN:Cal P w K mg base CX0 "_law_there" 1 ["_law_kinds_here","_law_look","_law_side","_law_name","_law_least"] (zp K)) (dJ:Cal P w K mg base CX0 "_law_rank" 1 ["_law_kinds_here","_law_look","_law_kind"] (wK K)) (b:Binds K fd ["_law_note_here","_law_kinds_here","_law_look"] []) (kp:PySem.W.keepIn K (.ref f)=true) (m:mg "_law_claims"=some (.ref f)):∀ d:Nat,FnOk P w K mg base CX0 (3+d) f fd ["_law_note_here","_law_kinds_here","_law_look"] (w9 K d)
 | 0=>by
  refine F.ok gB (fun vs H Q E h=>?_) (fun cdv A outer s H vs Q E hr h=>?_)
  ·obtain⟨t,kl,lt,n,ks,lk,rfl,_⟩:=h
   rfl
  obtain⟨t,kl,lt,n,ks,lk,rfl,R,ok,dp,G,q⟩:=h
  have:=Nt.dp_pos n
  exact (Oz49 dp this).elim
 | d+1=>DN F M cN dJ ⟨⟨f,fd,yM F M cN dJ b kp m d,b,kp,m⟩⟩
end
end MyF
namespace MyG
open My MyC MyD MyE MyF PySem L2
noncomputable def top (i:Nat):Stmt:=PySem.Challenge.pw_tariffgate_k43_looked.main.body.getD i (.Pass ⟨0,0,0,0⟩)
theorem di:(("_law_one":Str) == ("__debug__":Str))=false:=by decide
theorem dk:(("_law_one":Str) == ("__classdict__":Str))=false:=by decide
theorem bZ:(("_law_other":Str) == ("__debug__":Str))=false:=by decide
theorem cb:(("_law_other":Str) == ("__classdict__":Str))=false:=by decide
theorem iD:(("_law_deep":Str) == ("__debug__":Str))=false:=by decide
theorem iE:(("_law_deep":Str) == ("__classdict__":Str))=false:=by decide
theorem fh:(("_law_note":Str) == ("__debug__":Str))=false:=by decide
theorem gC:(("_law_plain":Str) == ("__debug__":Str))=false:=by decide
abbrev bz:Stmt:=top 58
theorem fk:FnScope ["_law_cell","_law_kinds_here","_law_one","_law_other"] ["_law_cell","_law_kinds_here"] (defScope bz):=⟨rfl,rfl,rfl,by decide +kernel,rfl,by decide +kernel,by decide +kernel⟩
theorem eM:Vis (defScope bz) "_law_cell":=by decreasing_trivial
theorem eN:Vis (defScope bz) "_law_kinds_here":=by decreasing_trivial
theorem cY:Vis (defScope bz) "_law_one":=by decreasing_trivial
theorem ko:Loc (defScope bz) "_law_one":=by first | exact Or.inl rfl | exact Or.inr rfl
theorem qW:Vis (defScope bz) "_law_other":=by decreasing_trivial
theorem qX:Loc (defScope bz) "_law_other":=by first | exact Or.inl rfl | exact Or.inr rfl
theorem i7:(defScope bz).names.lookup ("len":Str)=some .globalImplicit:=by rfl
abbrev aX:Stmt:=top 59
theorem fU:FnScope ["_law_cell","_law_kinds_here","_law_deep","_law_one","_law_other"] ["_law_cell","_law_kinds_here","_law_deep"] (defScope aX):=⟨rfl,rfl,rfl,by decide +kernel,rfl,by decide +kernel,by decide +kernel⟩
theorem dZ:Vis (defScope aX) "_law_cell":=by decreasing_trivial
theorem iF:Vis (defScope aX) "_law_kinds_here":=by decreasing_trivial
theorem iG:Vis (defScope aX) "_law_deep":=by decreasing_trivial
theorem sG:Vis (defScope aX) "_law_one":=by decreasing_trivial
theorem sH:Loc (defScope aX) "_law_one":=by first | exact Or.inl rfl | exact Or.inr rfl
theorem sI:Vis (defScope aX) "_law_other":=by decreasing_trivial
theorem sJ:Loc (defScope aX) "_law_other":=by first | exact Or.inl rfl | exact Or.inr rfl
theorem jA:(defScope aX).names.lookup ("_law_plain":Str)=some .globalImplicit:=by rfl
theorem fm:(defScope aX).names.lookup ("_law_note":Str)=some .globalImplicit:=by rfl
def wG (K:PySem.W.Frag):Sp:=fun vs H Q _=>∃ (c:Int) (kl:Addr) (kx:List V) (ks:List Kd2),vs=[.int c,.ref kl]∧SqL K H kl kx∧KnA K H kx ks∧1≤ks.length∧ks.length≤4∧(∀ k∈ks,okKind k) ∧
 ∀ (p:Addr) (H':Hp) (n:Nt),Same H H'→tT K H' (.ref p) n→n.ok→n.dp=1→Q (.ref p) H'
def zz (K:PySem.W.Frag) (d:Nat):Sp:=fun vs H Q _=>∃ (c:Int) (kl:Addr) (kx:List V) (ks:List Kd2),vs=[.int c,.ref kl,.int (d:Int)]∧1≤d∧0≤c∧c≤10 ^ 9∧SqL K H kl kx∧KnA K H kx ks∧1≤ks.length∧ks.length≤4∧(∀ k∈ks,okKind k) ∧
 ∀ (p:Addr) (H':Hp) (n:Nt),Same H H'→tT K H' (.ref p) n→n.ok→n.dp≤d→Q (.ref p) H'
section
variable {P:Program} {w:World} {K:PySem.W.Frag} {mg:Str→Option Value} {base:Heap} {f:Addr} {fd:FuncData}
theorem nW {n:Nat} (h:n≤64:=by decide):n≤sizeLine:=Nat.le_trans h (by decide)
theorem rP {s1 tl:TS} {D:Ends} {σ:St} {H:Hp} (h:∀ tl',tl'=tl→ze s1 tl' D σ H):ze s1 tl D σ H:=h tl rfl
theorem EZ {s1 s2 tl:TS} {D:Ends} {σ:St} {H:Hp} (h:∀ tl',tl'=tl→ze s1 (ze s2 tl') D σ H):ze s1 (ze s2 tl) D σ H:=h tl rfl
theorem CQ (F:Fun K "_law_plain" "_law_plain" bz f fd) (M:Mg mg):FnOk P w K mg base CX0 1 f fd ["_law_cell","_law_kinds_here"] (wG K):=by
 refine F.ok fk (fun vs H Q E h=>?_) (fun cdv A outer s H vs Q E hr h=>?_)
 ·obtain⟨c,kl,kx,ks,rfl,_⟩:=h
  rfl
 obtain⟨c,kl,kx,ks,rfl,LK,KA,k1,k4,okk,q⟩:=h
 have lk:=KA.length
 refine⟨_,(@fz _ _ _ _ _ (@ni _ _ 2 _ _ _ _ fk.nd rfl ko (@kZ _ _ _ _ _ _ _ (@ix_list _) (@eF _ 1 _ _ rfl eN aa ae) (@kT _ _ _ _ _ _ _ _ (@p5 _) (@kT _ _ _ _ _ _ _ _ (@rC _) (@eF _ 0 _ _ rfl eM ar au) (@ff _ _ _ _)) (@ki _ _ _ _ _ _ _ _ _ m9 i7 M.m_len qZ (@cg _ _ _ _ _ (@eF _ 1 _ _ rfl eN aa ae) (@eY _) (cT rfl)) aq ao (cT rfl) gj)) (fun _ _=>rfl)) (mj rfl) (.inl rfl)) (@fz _ _ _ _ _ (@ni _ _ 3 _ _ _ _ fk.nd rfl qX (@kZ _ _ _ _ _ _ _ (@ix_list _) (@eF _ 1 _ _ rfl eN aa ae) (@kT _ _ _ _ _ _ _ _ (@p5 _) (@kT _ _ _ _ _ _ _ _ (@rC _) (@eF _ 0 _ _ rfl eM ar au) (@ff _ _ _ _)) (@ki _ _ _ _ _ _ _ _ _ m9 i7 M.m_len qZ (@cg _ _ _ _ _ (@eF _ 1 _ _ rfl eN aa ae) (@eY _) (cT rfl)) aq ao (cT rfl) gj)) (fun _ _=>rfl)) (mj rfl) (.inl rfl)) (@fz _ _ _ _ _ (@pG _ _ _ _ _ _ _ _ (@mL _ _ _ _ _ _ _ _ (@qb _) (@kT _ _ _ _ _ _ _ _ (@p5 _) (@kT _ _ _ _ _ _ _ _ (@rC _) (@eF _ 0 _ _ rfl eM ar au) (@ff _ _ _ _)) (@ff _ _ _ _)) (@ff _ _ _ _) (nj _)) (@fS _ _ _ (@ni _ _ 2 _ _ _ _ fk.nd rfl ko (@nP _ _ _ _ _ (@cg _ _ _ _ _ (@kZ _ _ _ _ _ _ _ (@ix_tup _) (@eF _ 2 _ _ rfl cY di dk) (@ff _ _ _ _) (fun _ _=>rfl)) (@cg _ _ _ _ _ (@kZ _ _ _ _ _ _ _ (@ix_tup _) (@eF _ 2 _ _ rfl cY di dk) (@ff _ _ _ _) (fun _ _=>rfl)) (@eY _) (cT rfl)) (cT rfl))) (mj rfl) (.inl rfl))) (@mO _)) (@fS _ _ _ (@jm _ _ _ _ (@xD _ _ _ _ _ _ _ (@cg _ _ _ _ _ (@nP _ _ _ _ _ (@cg _ _ _ _ _ (@nS _ _ _ _) (@eY _) (cT rfl))) (@cg _ _ _ _ _ (@nP _ _ _ _ _ (@cg _ _ _ _ _ (@nS _ _ _ _) (@cg _ _ _ _ _ (@kZ _ _ _ _ _ _ _ (@ix_tup _) (@eF _ 2 _ _ rfl cY di dk) (@ff _ _ _ _) (fun _ _=>rfl)) (@eY _) (cT rfl)) (cT rfl))) (@cg _ _ _ _ _ (@nP _ _ _ _ _ (@cg _ _ _ _ _ (@nS _ _ _ _) (@cg _ _ _ _ _ (@kZ _ _ _ _ _ _ _ (@ix_tup _) (@eF _ 2 _ _ rfl cY di dk) (@ff _ _ _ _) (fun _ _=>rfl)) (@eY _) (cT rfl)) (cT rfl))) (@cg _ _ _ _ _ (@nP _ _ _ _ _ (@cg _ _ _ _ _ (@nS _ _ _ _) (@cg _ _ _ _ _ (@kZ _ _ _ _ _ _ _ (@ix_tup _) (@eF _ 2 _ _ rfl cY di dk) (@ff _ _ _ _) (fun _ _=>rfl)) (@eY _) (cT rfl)) (cT rfl))) (@cg _ _ _ _ _ (@nP _ _ _ _ _ (@cg _ _ _ _ _ (@nS _ _ _ _) (@cg _ _ _ _ _ (@eF _ 2 _ _ rfl cY di dk) (@cg _ _ _ _ _ (@eF _ 3 _ _ rfl qW bZ cb) (@eY _) (cT rfl)) (cT rfl)) (cT rfl))) (@eY _) (cT rfl)) (cT rfl)) (cT rfl)) (cT rfl)) (cT rfl)) (@kT _ _ _ _ _ _ _ _ (@p5 _) (@eF _ 0 _ _ rfl eM ar au) (@ff _ _ _ _)) (fun _ _=>rfl))))))),?_⟩
 refine EZ fun tl htl=>?_
 trivial
 have pick:∀ z:Int,∃ (a:Addr) (k:Kd2),atI kx (z % (kx.length:Int))=some (.ref a)∧SqT K H a (kRow k)∧okKind k:=fun z=>by
  have j0:=Int.emod_nonneg z (show (kx.length:Int)≠0 by exact Oz99 k1 lk)
  have j1:=Int.emod_lt_of_pos z (show (0:Int)<(kx.length:Int) by exact Oz31 k1 lk)
  obtain⟨j,hj⟩:∃ j:Nat,z % (kx.length:Int)=j:=⟨(z % (kx.length:Int)).toNat,by exact Oz2 j0⟩
  obtain⟨x,hx⟩:∃ x,kx[j]?=some x:=⟨_,List.getElem?_eq_getElem (by exact Oz16 j1 hj)⟩
  obtain⟨a,k,rfl,hk,T⟩:=KA.at hx
  exact⟨a,k,by rw[hj]; exact um hx,T,okk _ (List.mem_of_getElem? hk)⟩
 obtain⟨a1,k1',p1,T1,o1⟩:=pick (c / 5)
 obtain⟨a2,k2',p2,T2,o2⟩:=pick (c / 20)
 refine⟨cdiv (by decide) (by decide),_,.inl LK,by exact Oz31 k1 lk,_,LK,_,p1,cdiv (by decide) (by decide),_,.inl LK,by exact Oz31 k1 lk,_,LK,_,p2,?_⟩
 show tl _ _ _
 rw[htl]
 clear htl tl
 refine rP fun tl htl=>?_
 have fin:∀ (H1:Hp) (a:Addr) (k:Kd2),Same H H1→SqT K H1 a (kRow k)→okKind k→tl { nx:=fun _ H'=>Q .non H',rt:=Q } [some (V.int c),some (V.ref kl),some (V.ref a),some (V.ref a2)] H1:=fun H1 a k S1 T ok=>by
  rw[htl]
  trivial
  have e0:atI (kRow k) 0=some (.str (txt k.1)):=rfl
  have e1:atI (kRow k) 1=some (.str (txt k.2)):=rfl
  refine⟨nW,fun t0 ht0=>?_⟩
  obtain⟨H6,g6,S6,T6⟩:=oR (K:=K) ht0 [V.str (Str.ofString "any")]
  rw[← g6]
  clear g6
  refine⟨_,Same.tup S6 T,_,e0,nW,fun t1 ht1=>?_⟩
  obtain⟨H7,g7,S7,T7⟩:=oR (K:=K) ht1 [V.str (Str.ofString "made"),V.str (txt k.1)]
  rw[← g7]
  clear g7
  refine⟨_,Same.tup (S6.trans S7) T,_,e1,nW,fun t2 ht2=>?_⟩
  obtain⟨H8,g8,S8,T8⟩:=oR (K:=K) ht2 [V.str (Str.ofString "used"),V.str (txt k.2)]
  rw[← g8]
  clear g8
  refine⟨_,Same.tup (S6.trans (S7.trans S8)) T,_,e0,nW,fun t3 ht3=>?_⟩
  obtain⟨H9,g9,S9,T9⟩:=oR (K:=K) ht3 [V.str (Str.ofString "chief"),V.str (txt k.1)]
  rw[← g9]
  clear g9
  refine⟨nW,fun t4 ht4=>?_⟩
  obtain⟨H10,g10,S10,T10⟩:=oR (K:=K) ht4 [V.str (Str.ofString "over"),V.ref a,V.ref a2]
  rw[← g10]
  clear g10
  have S610:=S6.trans (S7.trans (S8.trans (S9.trans S10)))
  obtain⟨i,hi,li⟩:∃ i:Nat,c % 5=i∧i<5:=⟨(c % 5).toNat,by omega,by omega⟩
  have all:∀ v∈[V.ref t0,V.ref t1,V.ref t2,V.ref t3,V.ref t4],∃ (t:Addr) (n:Nt),v=.ref t∧tT K H10 (.ref t) n∧n.ok∧n.dp=1:=by
   simp only [List.forall_mem_cons]
   exact⟨⟨_,.any,rfl,.tup (Same.tup (S7.trans (S8.trans (S9.trans S10))) T6) (.cons (.str _) .nil),trivial,rfl⟩,
    ⟨_,.made k.1,rfl,.tup (Same.tup (S8.trans (S9.trans S10)) T7) (.cons (.str _) (.cons (.str _) .nil)),ok.1,rfl⟩,
    ⟨_,.used k.2,rfl,.tup (Same.tup (S9.trans S10) T8) (.cons (.str _) (.cons (.str _) .nil)),ok.2,rfl⟩,
    ⟨_,.chief k.1,rfl,.tup (Same.tup S10 T9) (.cons (.str _) (.cons (.str _) .nil)),ok.1,rfl⟩,
    ⟨_,.over k k2',rfl,.tup T10 (.cons (.str _) (.cons (vF (Same.tup S610 T)) (.cons (vF (Same.tup (S1.trans S610) T2)) .nil))),⟨ok,o2⟩,rfl⟩,fun _ h=>by cases h⟩
  obtain⟨v,hv⟩:∃ v,([V.ref t0,V.ref t1,V.ref t2,V.ref t3,V.ref t4]:List V)[i]?=some v:=⟨_,List.getElem?_eq_getElem (by show i<5; omega)⟩
  obtain⟨t,n,rfl,R,o,d⟩:=all v (List.mem_of_getElem? hv)
  exact⟨nW,by decide,by omega,_,(by rw[hi,Int.toNat_natCast]; exact hv),q _ _ n (S1.trans S610) R o d⟩
 trivial
 refine⟨cdiv (by decide) (by decide),by decide,?_⟩
 by_cases h1:c / 80 % 6=1
 ·rw[if_pos h1]
  refine⟨_,T1,_,rfl,_,T1,_,rfl,nW,fun t ht=>?_⟩
  obtain⟨H1,g1,S1,N1⟩:=oR (K:=K) ht (kRow (k1'.2,k1'.1))
  have g1':H1=upd H t (.tup [V.str (txt k1'.2),V.str (txt k1'.1)]):=g1
  rw[← g1']
  exact fin H1 t _ S1 N1 ⟨o1.2,o1.1⟩
 ·rw[if_neg h1]
  exact fin H a1 k1' (Same.refl _) T1 o1
theorem Gd {d:Nat} (F:Fun K "_law_note" "_law_note" aX f fd) (M:Mg mg) (cu:Cal P w K mg base CX0 "_law_plain" 1 ["_law_cell","_law_kinds_here"] (wG K))
  (d9:Cal P w K mg base CX0 "_law_note" (2+d) ["_law_cell","_law_kinds_here","_law_deep"] (zz K d)):FnOk P w K mg base CX0 (2+d+1) f fd ["_law_cell","_law_kinds_here","_law_deep"] (zz K (d+1)):=by
 refine F.ok fU (fun vs H Q E h=>?_) (fun cdv A outer s H vs Q E hr h=>?_)
 ·obtain⟨c,kl,kx,ks,rfl,_⟩:=h
  rfl
 obtain⟨c,kl,kx,ks,rfl,d1,c0,c9,LK,KA,k1,k4,okk,q⟩:=h
 refine⟨_,(@fz _ _ _ _ _ (@pG _ _ _ _ _ _ _ _ (@PW.pt _ _ _ (@wR _ _ _ _ _ _ _ (@mL _ _ _ _ _ _ _ _ (@qb _) (@eF _ 2 _ _ rfl iG iD iE) (@ff _ _ _ _) (nj _)) (@wC _ _ _ _ (@mL _ _ _ _ _ _ _ _ (@qb _) (@kT _ _ _ _ _ _ _ _ (@p5 _) (@eF _ 0 _ _ rfl dZ ar au) (@ff _ _ _ _)) (@ff _ _ _ _) (nj _))))) (@fS _ _ _ (@jm _ _ _ _ (@gY _ _ _ _ _ _ _ _ _ _ _ cu hr jA (@cg _ _ _ _ _ (@kT _ _ _ _ _ _ _ _ (@rC _) (@eF _ 0 _ _ rfl dZ ar au) (@ff _ _ _ _)) (@cg _ _ _ _ _ (@eF _ 1 _ _ rfl iF aa ae) (@eY _) (cT rfl)) (cT rfl)) (by omega) gC (cT rfl) (iT rfl gj)))) (@mO _)) (@fz _ _ _ _ _ (@ni _ _ 3 _ _ _ _ fU.nd rfl sH (@gY _ _ _ _ _ _ _ _ _ _ _ d9 hr fm (@cg _ _ _ _ _ (@kT _ _ _ _ _ _ _ _ (@p5 _) (@kT _ _ _ _ _ _ _ _ (@yf _) (@eF _ 0 _ _ rfl dZ ar au) (@ff _ _ _ _)) (@ff _ _ _ _)) (@cg _ _ _ _ _ (@eF _ 1 _ _ rfl iF aa ae) (@cg _ _ _ _ _ (@kT _ _ _ _ _ _ _ _ (@yl _) (@eF _ 2 _ _ rfl iG iD iE) (@ff _ _ _ _)) (@eY _) (cT rfl)) (cT rfl)) (cT rfl)) (by exact Oz100) fh (cT rfl) (iT rfl (iT rfl gj))) (mj rfl) (.inl rfl)) (@fz _ _ _ _ _ (@ni _ _ 4 _ _ _ _ fU.nd rfl sJ (@gY _ _ _ _ _ _ _ _ _ _ _ d9 hr fm (@cg _ _ _ _ _ (@kT _ _ _ _ _ _ _ _ (@p5 _) (@kT _ _ _ _ _ _ _ _ (@yf _) (@eF _ 0 _ _ rfl dZ ar au) (@ff _ _ _ _)) (@ff _ _ _ _)) (@cg _ _ _ _ _ (@eF _ 1 _ _ rfl iF aa ae) (@cg _ _ _ _ _ (@kT _ _ _ _ _ _ _ _ (@yl _) (@eF _ 2 _ _ rfl iG iD iE) (@ff _ _ _ _)) (@eY _) (cT rfl)) (cT rfl)) (cT rfl)) (by exact Oz100) fh (cT rfl) (iT rfl (iT rfl gj))) (mj rfl) (.inl rfl)) (@fS _ _ _ (@jm _ _ _ _ (@nP _ _ _ _ _ (@cg _ _ _ _ _ (@xD _ _ _ _ _ _ _ (@cg _ _ _ _ _ (@nS _ _ _ _) (@cg _ _ _ _ _ (@nS _ _ _ _) (@cg _ _ _ _ _ (@nS _ _ _ _) (@eY _) (cT rfl)) (cT rfl)) (cT rfl)) (@kT _ _ _ _ _ _ _ _ (@p5 _) (@kT _ _ _ _ _ _ _ _ (@rC _) (@eF _ 0 _ _ rfl dZ ar au) (@ff _ _ _ _)) (@ff _ _ _ _)) (fun _ _=>rfl)) (@cg _ _ _ _ _ (@eF _ 3 _ _ rfl sG di dk) (@cg _ _ _ _ _ (@eF _ 4 _ _ rfl sI bZ cb) (@eY _) (cT rfl)) (cT rfl)) (cT rfl)))))))),?_⟩
 trivial
 have plain:CDivB c 3∧wG K [V.int (c / 3),V.ref kl] H Q E0:=⟨cdiv (by decide) (by decide),c / 3,kl,kx,ks,rfl,LK,KA,k1,k4,okk,fun p H' n e R o dd=>q p H' n e R o (by omega)⟩
 by_cases h1:((d+1:Nat):Int)=1
 ·rw[if_pos h1]
  exact plain
 rw[if_neg h1]
 refine⟨by decide,?_⟩
 by_cases h3:c % 3=0
 ·rw[if_pos h3]
  exact plain
 rw[if_neg h3]
 have ed:((d+1:Nat):Int)-1=(d:Int):=by omega
 rw[ed]
 have big:(10:Int) ^ 9≤10 ^ 61:=by decide
 have r0:=Int.emod_nonneg (c * 48271) (show (1000003:Int)≠0 by decide)
 have r1:=Int.emod_lt_of_pos (c * 48271) (show (0:Int)<1000003 by decide)
 have s0:=Int.emod_nonneg (c * 69621) (show (999983:Int)≠0 by decide)
 have s1:=Int.emod_lt_of_pos (c * 69621) (show (0:Int)<999983 by decide)
 refine⟨C6 (by exact Oz90 c0) (by exact Oz98 c9) (by decide) (by decide),by decide,_,kl,kx,ks,rfl,by exact Oz59 h1,r0,by omega,LK,KA,k1,k4,okk,fun p1 H1 x S1 R1 o1 dp1=>?_⟩
 refine⟨C6 (by exact Oz90 c0) (by exact Oz98 c9) (by decide) (by decide),by decide,_,kl,kx,ks,rfl,by exact Oz59 h1,s0,by omega,S1.seq LK,KA.same S1,k1,k4,okk,fun p2 H2 y S2 R2 o2 dp2=>?_⟩
 have R1':=R1.same S2
 obtain⟨j,hj⟩:∃ j:Int,c / 3 % 3=j:=⟨_,rfl⟩
 refine⟨nW,cdiv (by decide) (by decide),by decide,by omega,?_⟩
 rw[hj]
 have:j=0∨j=1∨j=2:=by omega
 rcases this with e | e | e <;> subst e
 ·refine⟨_,rfl,nW,fun t ht=>q _ _ (.both x y) (S1.trans (S2.trans (gI ht _))) (.tup (SqT.of fj) (.cons (.str _) (.cons (R1'.same (gI ht _)) (.cons (R2.same (gI ht _)) .nil)))) ⟨o1,o2⟩ ?_⟩
  show max x.dp y.dp+1≤d+1
  exact Oz20 dp1 dp2
 ·refine⟨_,rfl,nW,fun t ht=>q _ _ (.either x y) (S1.trans (S2.trans (gI ht _))) (.tup (SqT.of fj) (.cons (.str _) (.cons (R1'.same (gI ht _)) (.cons (R2.same (gI ht _)) .nil)))) ⟨o1,o2⟩ ?_⟩
  show max x.dp y.dp+1≤d+1
  exact Oz20 dp1 dp2
 ·refine⟨_,rfl,nW,fun t ht=>q _ _ (.but x y) (S1.trans (S2.trans (gI ht _))) (.tup (SqT.of fj) (.cons (.str _) (.cons (R1'.same (gI ht _)) (.cons (R2.same (gI ht _)) .nil)))) ⟨o1,o2⟩ ?_⟩
  show max x.dp y.dp+1≤d+1
  exact Oz20 dp1 dp2
theorem zI (F:Fun K "_law_note" "_law_note" aX f fd) (M:Mg mg) (cu:Cal P w K mg base CX0 "_law_plain" 1 ["_law_cell","_law_kinds_here"] (wG K))
  (b:Binds K fd ["_law_cell","_law_kinds_here","_law_deep"] []) (kp:PySem.W.keepIn K (.ref f)=true) (m:mg "_law_note"=some (.ref f)):∀ d:Nat,FnOk P w K mg base CX0 (2+d) f fd ["_law_cell","_law_kinds_here","_law_deep"] (zz K d)
 | 0=>by
  refine F.ok fU (fun vs H Q E h=>?_) (fun cdv A outer s H vs Q E hr h=>?_)
  ·obtain⟨c,kl,kx,ks,rfl,_⟩:=h
   rfl
  obtain⟨c,kl,kx,ks,rfl,d1,_⟩:=h
  exact absurd d1 (by decide)
 | d+1=>Gd F M cu ⟨⟨f,fd,zI F M cu b kp m d,b,kp,m⟩⟩
end
end MyG
namespace MyI
open My MyB MyC MyD MyE MyF MyG PySem L2
noncomputable def top (i:Nat):Stmt:=PySem.Challenge.pw_tariffgate_k43_looked.main.body.getD i (.Pass ⟨0,0,0,0⟩)
theorem al:(("_law_rows_here":Str) == ("__debug__":Str))=false:=by decide
theorem am:(("_law_rows_here":Str) == ("__classdict__":Str))=false:=by decide
theorem ii:(("_law_at":Str) == ("__debug__":Str))=false:=by decide
theorem ij:(("_law_at":Str) == ("__classdict__":Str))=false:=by decide
theorem gD:(("_law_elder":Str) == ("__debug__":Str))=false:=by decide
theorem gE:(("_law_elder":Str) == ("__classdict__":Str))=false:=by decide
theorem cO:(("_law_number":Str) == ("__debug__":Str))=false:=by decide
theorem cP:(("_law_number":Str) == ("__classdict__":Str))=false:=by decide
theorem jf:(("_law_row":Str) == ("__debug__":Str))=false:=by decide
theorem jg:(("_law_row":Str) == ("__classdict__":Str))=false:=by decide
abbrev ai:Stmt:=top 60
theorem bE:FnScope ["_law_script","_law_kinds_here","_law_cell","_law_rows_here","_law_k","_law_more","_law_at","_law_elder","_law_note_here","_law_number"] ["_law_script","_law_kinds_here"] (defScope ai):=⟨rfl,rfl,rfl,by decide +kernel,rfl,by decide +kernel,by decide +kernel⟩
theorem lP:Vis (defScope ai) "_law_script":=by decreasing_trivial
theorem iH:Vis (defScope ai) "_law_kinds_here":=by decreasing_trivial
theorem lQ:Vis (defScope ai) "_law_cell":=by decreasing_trivial
theorem sK:Loc (defScope ai) "_law_cell":=by first | exact Or.inl rfl | exact Or.inr rfl
theorem dq:Vis (defScope ai) "_law_rows_here":=by decreasing_trivial
theorem sL:Loc (defScope ai) "_law_rows_here":=by first | exact Or.inl rfl | exact Or.inr rfl
theorem sM:Vis (defScope ai) "_law_k":=by decreasing_trivial
theorem sN:Loc (defScope ai) "_law_k":=by first | exact Or.inl rfl | exact Or.inr rfl
theorem du:Vis (defScope ai) "_law_more":=by decreasing_trivial
theorem sO:Loc (defScope ai) "_law_more":=by first | exact Or.inl rfl | exact Or.inr rfl
theorem sP:Vis (defScope ai) "_law_at":=by decreasing_trivial
theorem lR:Loc (defScope ai) "_law_at":=by first | exact Or.inl rfl | exact Or.inr rfl
theorem iI:Vis (defScope ai) "_law_elder":=by decreasing_trivial
theorem sQ:Loc (defScope ai) "_law_elder":=by first | exact Or.inl rfl | exact Or.inr rfl
theorem sR:Vis (defScope ai) "_law_note_here":=by decreasing_trivial
theorem iJ:Loc (defScope ai) "_law_note_here":=by first | exact Or.inl rfl | exact Or.inr rfl
theorem sS:Vis (defScope ai) "_law_number":=by decreasing_trivial
theorem sU:Loc (defScope ai) "_law_number":=by first | exact Or.inl rfl | exact Or.inr rfl
theorem ej:(defScope ai).names.lookup ("_law_cell_at":Str)=some .globalImplicit:=by rfl
theorem m7:(defScope ai).names.lookup ("range":Str)=some .globalImplicit:=by rfl
theorem dw:(defScope ai).names.lookup ("len":Str)=some .globalImplicit:=by rfl
theorem jP:(defScope ai).names.lookup ("_law_note":Str)=some .globalImplicit:=by rfl
theorem Im {cs:List Nat} (a:asc cs):PyData.canLay0 (.str (txt cs))=true:=by
 show (txt cs).cps.all (·<0x110000)=true
 rw[List.all_toArray,List.all_eq_true]
 intro c hc
 have:=of_decide_eq_true (List.all_eq_true.mp a c hc)
 exact decide_eq_true (by exact Oz104 this)
theorem two_flat {z:Str} {s:List Nat} (e:PyData.canLay0 (.str z)=true) (h:nameB s=true):PyData.canLay0 (.tuple [.str z,.str (txt s)])=true:=by
 show (PyData.canLay0 (.str z) && (PyData.canLay0 (.str (txt s)) && true))=true
 rw[e,Im (xN h).1]
 rfl
theorem En {k:Kd2} (h:okKind k):PyData.canLay0 (kD k)=true:=by
 show (PyData.canLay0 (.str (txt k.1)) && (PyData.canLay0 (.str (txt k.2)) && true))=true
 rw[Im (xN h.1).1,Im (xN h.2).1]
 rfl
theorem xw {z:Str} {x y:PyData} (e:PyData.canLay0 (.str z)=true) (a:PyData.canLay0 x=true) (b:PyData.canLay0 y=true):PyData.canLay0 (.tuple [.str z,x,y])=true:=by
 show (PyData.canLay0 (.str z) && (PyData.canLay0 x && (PyData.canLay0 y && true)))=true
 rw[e,a,b]
 rfl
theorem wQ:∀ n:Nt,n.ok→PyData.canLay0 n.data=true∧PyData.depth n.data≤n.dp+1
 | .any,_=>⟨by decide +kernel,by show max 0 0+1≤1+1; decide⟩
 | .made s,h=>⟨two_flat (by decide +kernel) h,by show max 0 (max 0 0)+1≤1+1; decide⟩
 | .used s,h=>⟨two_flat (by decide +kernel) h,by show max 0 (max 0 0)+1≤1+1; decide⟩
 | .chief s,h=>⟨two_flat (by decide +kernel) h,by show max 0 (max 0 0)+1≤1+1; decide⟩
 | .over a b,h=>⟨xw (by decide +kernel) (En h.1) (En h.2),by show max 0 (max (max 0 (max 0 0)+1) (max (max 0 (max 0 0)+1) 0))+1≤1+1; decide⟩
 | .both x y,h=>by
  obtain⟨a1,b1⟩:=wQ x h.1
  obtain⟨a2,b2⟩:=wQ y h.2
  exact⟨xw (by decide +kernel) a1 a2,by show max 0 (max (PyData.depth x.data) (max (PyData.depth y.data) 0))+1≤max x.dp y.dp+1+1; exact Oz4 b1 b2⟩
 | .either x y,h=>by
  obtain⟨a1,b1⟩:=wQ x h.1
  obtain⟨a2,b2⟩:=wQ y h.2
  exact⟨xw (by decide +kernel) a1 a2,by show max 0 (max (PyData.depth x.data) (max (PyData.depth y.data) 0))+1≤max x.dp y.dp+1+1; exact Oz4 b1 b2⟩
 | .but x y,h=>by
  obtain⟨a1,b1⟩:=wQ x h.1
  obtain⟨a2,b2⟩:=wQ y h.2
  exact⟨xw (by decide +kernel) a1 a2,by show max 0 (max (PyData.depth x.data) (max (PyData.depth y.data) 0))+1≤max x.dp y.dp+1+1; exact Oz4 b1 b2⟩
def TS (H H':Hp):Prop:=∀ b u,H b=some u→((∃ ys,u=.tup ys)∨∃ ob ys,u=.frz ob (.tup ys))→H' b=some u
theorem TS.of {H H':Hp} (e:Same H H'):TS H H':=fun b u h _=>e b u h
theorem TS.trans {H H' H2:Hp} (a:TS H H') (b:TS H' H2):TS H H2:=fun c u h k=>b c u (a c u h k) k
theorem TS.upd {H:Hp} {D:Addr} {o o':HO} (hD:H D=some o) (n1:∀ ys,o≠.tup ys) (n2:∀ ob ys,o≠.frz ob (.tup ys)):TS H (L2.upd H D o'):=fun b u h k=>by
 rw[gS]
 ·exact h
 ·rintro rfl
  rw[hD] at h
  cases h
  rcases k with ⟨ys,e⟩ | ⟨ob,ys,e⟩
  ·exact n1 _ e
  ·exact n2 _ _ e
theorem TS.lst {H:Hp} {D:Addr} {xs:List V} {o':HO} (hD:H D=some (.lst xs)):TS H (L2.upd H D o'):=TS.upd hD (fun _ z=>by cases z) (fun _ _ z=>by cases z)
theorem TS.tup {K:PySem.W.Frag} {H H':Hp} {p:Addr} {xs:List V} (e:TS H H') (h:SqT K H p xs):SqT K H' p xs:=by
 rcases h with (h | ⟨o,h⟩) | h
 ·exact .inl (.inl (e _ _ h (.inl ⟨_,rfl⟩)))
 ·exact .inl (.inr ⟨o,e _ _ h (.inr ⟨_,_,rfl⟩)⟩)
 ·exact .inr h
theorem TS.at {H H':Hp} {p:Addr} {xs:List V} (e:TS H H') (h:H p=some (.tup xs)):H' p=some (.tup xs):=e _ _ h (.inl ⟨_,rfl⟩)
theorem vR {K:PySem.W.Frag} {H H':Hp} (e:TS H H'):∀ {n:Nt} {v:V},tT K H v n→tT K H' v n
 | .any,v,R=>by
  obtain⟨a,rfl⟩:=pR R
  obtain⟨x0,T,r0⟩:=yg R
  cases mK r0
  exact .tup (e.tup T) (.cons (.str _) .nil)
 | .made s,v,R=>by
  obtain⟨a,rfl⟩:=pR R
  obtain⟨x0,y0,T,r0,r1⟩:=uC R
  cases mK r0
  cases mK r1
  exact .tup (e.tup T) (.cons (.str _) (.cons (.str _) .nil))
 | .used s,v,R=>by
  obtain⟨a,rfl⟩:=pR R
  obtain⟨x0,y0,T,r0,r1⟩:=uC R
  cases mK r0
  cases mK r1
  exact .tup (e.tup T) (.cons (.str _) (.cons (.str _) .nil))
 | .chief s,v,R=>by
  obtain⟨a,rfl⟩:=pR R
  obtain⟨x0,y0,T,r0,r1⟩:=uC R
  cases mK r0
  cases mK r1
  exact .tup (e.tup T) (.cons (.str _) (.cons (.str _) .nil))
 | .over k k',v,R=>by
  obtain⟨a,rfl⟩:=pR R
  obtain⟨x0,y0,z0,T,r0,r1,r2⟩:=qV R
  cases mK r0
  obtain⟨p1,rfl,T1⟩:=wN r1
  obtain⟨p2,rfl,T2⟩:=wN r2
  exact .tup (e.tup T) (.cons (.str _) (.cons (vF (e.tup T1)) (.cons (vF (e.tup T2)) .nil)))
 | .both x y,v,R=>by
  obtain⟨a,rfl⟩:=pR R
  obtain⟨x0,y0,z0,T,r0,r1,r2⟩:=qV R
  cases mK r0
  exact .tup (e.tup T) (.cons (.str _) (.cons (vR e r1) (.cons (vR e r2) .nil)))
 | .either x y,v,R=>by
  obtain⟨a,rfl⟩:=pR R
  obtain⟨x0,y0,z0,T,r0,r1,r2⟩:=qV R
  cases mK r0
  exact .tup (e.tup T) (.cons (.str _) (.cons (vR e r1) (.cons (vR e r2) .nil)))
 | .but x y,v,R=>by
  obtain⟨a,rfl⟩:=pR R
  obtain⟨x0,y0,z0,T,r0,r1,r2⟩:=qV R
  cases mK r0
  exact .tup (e.tup T) (.cons (.str _) (.cons (vR e r1) (.cons (vR e r2) .nil)))
structure Rw where
 num:List Int
 note:Nt
 rule:Str
def RowAt (K:PySem.W.Frag) (H:Hp) (v:V) (r:Rw):Prop:=∃ p a t:Addr,v=.ref p∧SqT K H p [.ref a,.ref t,.str r.rule]∧H a=some (.tup (r.num.map V.int))∧tT K H (.ref t) r.note
theorem RowAt.ts {K:PySem.W.Frag} {H H':Hp} {v:V} {r:Rw} (h:RowAt K H v r) (e:TS H H'):RowAt K H' v r:=by
 obtain⟨p,a,t,h1,h2,h3,h4⟩:=h
 exact⟨p,a,t,h1,e.tup h2,e.at h3,vR e h4⟩
abbrev RowsAt (K:PySem.W.Frag) (H:Hp) (vs:List V) (rs:List Rw):Prop:=Paired (fun v r=>RowAt K H v r) vs rs
theorem wj {α β:Type} {R:α→β→Prop} {a:α} {b:β} (h:R a b):∀ {xs:List α} {ys:List β},Paired R xs ys→Paired R (xs++[a]) (ys++[b])
 | _,_,.nil=>.cons h .nil
 | _,_,.cons r t=>.cons r (wj h t)
theorem uH {α β:Type} {R:α→β→Prop}:∀ {xs:List α} {ys:List β} {i:Nat} {x:α},Paired R xs ys→xs[i]?=some x→∃ y,ys[i]?=some y∧R x y
 | _,_,_,_,.nil,h=>by cases h
 | _,_,0,_,.cons r _,h=>by cases h; exact⟨_,rfl,r⟩
 | _,_,i+1,_,.cons _ t,h=>uH (i:=i) t (by simpa using h)
theorem RowsAt.ts {K:PySem.W.Frag} {H H':Hp} {vs:List V} {rs:List Rw} (h:RowsAt K H vs rs) (e:TS H H'):RowsAt K H' vs rs:=Paired.mapP h fun v r=>fun h=>RowAt.ts h e
noncomputable def upN (k:List Int):List Int:=k.dropLast
structure RsOk (d:Nat) (rs:List Rw):Prop where
 nd:(rs.map Rw.num).Nodup
 len:∀ r∈rs,1≤r.num.length∧r.num.length≤4
 part:∀ r∈rs,∀ x∈r.num,1≤x∧x≤99
 up:∀ r∈rs,upN r.num=[]∨upN r.num∈rs.map Rw.num
 ok:∀ r∈rs,r.note.ok∧r.note.dp≤d
 rule:∀ r∈rs,r.rule = "one"∨r.rule = "near"
noncomputable def lastF (c:Int) (j:Nat):Int:=1+(c / 8+37 * (j:Int)) % 99
theorem Il (c:Int) (j:Nat):1≤lastF c j∧lastF c j≤99:=by
 unfold lastF
 omega
theorem G8 {c:Int} {i j:Nat} (hi:i<99) (hj:j<99) (h:lastF c i=lastF c j):i=j:=by
 unfold lastF at h
 omega
noncomputable def cnt (rs:List Rw) (at':List Int):Nat:=(rs.filter fun r=>decide (upN r.num=at')).length
structure Grow (c:Int) (rs:List Rw):Prop extends RsOk 4 rs where
 el:∀ r∈rs,∃ j,j<cnt rs (upN r.num)∧r.num=upN r.num++[lastF c j]∧(j=0→r.note.dp≤3)
theorem CP (rs:List Rw) (r:Rw) (at':List Int):cnt (rs++[r]) at'=cnt rs at'+if upN r.num=at' then 1 else 0:=by
 unfold cnt
 rw[List.filter_append,List.length_append]
 by_cases h:upN r.num=at'
 ·rw[if_pos h,List.filter_cons_of_pos (by simpa using h)]
  rfl
 ·rw[if_neg h,List.filter_cons_of_neg (by simpa using h)]
  rfl
theorem Hv (c:Int):Grow c []:=⟨⟨.nil,(fun r h=>by cases h),(fun r h=>by cases h),(fun r h=>by cases h),(fun r h=>by cases h),fun r h=>by cases h⟩,fun r h=>by cases h⟩
theorem zd (at':List Int) (x:Int):upN (at'++[x])=at':=by unfold upN; simp
theorem Gk {c:Int} {rs:List Rw} {at':List Int} {n:Nt} {z:Str} (g:Grow c rs) (h64:rs.length<90) (ha:at'=[]∨at'∈rs.map Rw.num) (l3:at'.length≤3) (okn:n.ok) (d4:n.dp≤4) (d3:cnt rs at'=0→n.dp≤3) (hz:z = "one"∨z = "near"):Grow c (rs++[⟨at'++[lastF c (cnt rs at')],n,z⟩]):=by
 have mem:∀ {r:Rw},r∈rs++[⟨at'++[lastF c (cnt rs at')],n,z⟩]→r∈rs∨r=⟨at'++[lastF c (cnt rs at')],n,z⟩:=fun {r} h=>by
  rcases List.mem_append.mp h with h | h
  ·exact .inl h
  ·exact .inr (List.mem_singleton.mp h)
 have pa:∀ x∈at',1≤x∧x≤99:=fun x hx=>by
  rcases ha with rfl | ha
  ·cases hx
  ·obtain⟨r,hr,rfl⟩:=List.mem_map.mp ha
   exact g.part r hr x hx
 have new:at'++[lastF c (cnt rs at')] ∉ rs.map Rw.num:=fun h=>by
  obtain⟨r,hr,e⟩:=List.mem_map.mp h
  obtain⟨j,hj,e2,_⟩:=g.el r hr
  have eu:upN r.num=at':=by rw[e]; exact zd _ _
  rw[eu] at hj e2
  rw[e] at e2
  have el:lastF c (cnt rs at')=lastF c j:=by
   have:=List.append_cancel_left e2
   simpa using this
  have cl:cnt rs at'≤rs.length:=List.length_filter_le _ _
  have:=G8 (by omega) (by omega) el
  omega
 refine⟨⟨?_,fun r hr=>?_,fun r hr x hx=>?_,fun r hr=>?_,fun r hr=>?_,fun r hr=>?_⟩,fun r hr=>?_⟩
 ·rw[List.map_append]
  refine List.nodup_append.mpr ⟨g.nd,by simp,fun a ha b hb=>?_⟩
  have:b=at'++[lastF c (cnt rs at')]:=by simpa using hb
  rw[this]
  rintro rfl
  exact new ha
 ·rcases mem hr with h | rfl
  ·exact g.len r h
  ·show 1≤(at'++[lastF c (cnt rs at')]).length∧_≤4
   rw[List.length_append,List.length_singleton]
   omega
 ·rcases mem hr with h | rfl
  ·exact g.part r h x hx
  ·rcases List.mem_append.mp hx with h | h
   ·exact pa x h
   ·rw[List.mem_singleton.mp h]
    exact Il _ _
 ·rw[List.map_append]
  rcases mem hr with h | rfl
  ·rcases g.up r h with h | h
   ·exact .inl h
   ·exact .inr (List.mem_append_left _ h)
  ·show upN (at'++_)=[]∨upN (at'++_)∈_
   rw[zd]
   rcases ha with h | h
   ·exact .inl h
   ·exact .inr (List.mem_append_left _ h)
 ·rcases mem hr with h | rfl
  ·exact g.ok r h
  ·exact⟨okn,d4⟩
 ·rcases mem hr with h | rfl
  ·exact g.rule r h
  ·exact hz
 ·rcases mem hr with h | rfl
  ·obtain⟨j,hj,e,d⟩:=g.el r h
   exact⟨j,by rw[CP]; omega,e,d⟩
  ·refine⟨cnt rs at',?_,?_,d3⟩
   ·show cnt rs at'<cnt _ (upN (at'++_))
    rw[zd,CP]
    show cnt rs at'<cnt rs at'+if upN (at'++_)=at' then 1 else 0
    rw[zd,if_pos rfl]
    omega
   ·show at'++_=upN (at'++_)++_
    rw[zd]
theorem K9 {k:List Int}:vo (k.map V.int) none (some 3)=(k.take 3).map V.int:=by
 have e:HT.sIx (k.map V.int).length (k.map V.int).length (some 3)=min 3 (k.map V.int).length:=HT.sIx_nat _ _ 3
 unfold vo
 rw[e,HT.sIx_none,List.drop_zero,Nat.sub_zero,List.length_map,List.map_take]
 by_cases h:k.length≤3
 ·rw[Nat.min_eq_right h,List.take_of_length_le (by rw[List.length_map]; exact Nat.le_refl _),List.take_of_length_le (by rw[List.length_map]; exact h)]
 ·rw[Nat.min_eq_left (by omega)]
theorem Kc {k:List Int} (h:1≤k.length):vo (k.map V.int) none (some (-1))=(upN k).map V.int:=by
 have e:HT.sIx (k.map V.int).length (k.map V.int).length (some (-1))=k.length-1:=by
  rw[List.length_map]
  show (if (-1:Int)<0 then (-1+(k.length:Int)).toNat else min (-1:Int).toNat k.length)=_
  rw[if_pos (by decide)]
  omega
 unfold vo upN
 rw[e,HT.sIx_none,List.drop_zero,Nat.sub_zero,List.dropLast_eq_take,List.map_take]
noncomputable def uR (k:List Int):PyData:=.tuple (k.map PyData.int)
theorem zv (k k':List Int):PyData.eqv (uR k) (uR k')=decide (k=k'):=HT.eqvAll_ints k k'
theorem z9 {K:PySem.W.Frag} {H:Hp}:∀ ns:List Int,RepAll K H (ns.map V.int) (ns.map PyData.int)
 | []=>.nil
 | n::ns=>.cons (.int n) (z9 ns)
theorem wm {K:PySem.W.Frag} {H:Hp} {p:Addr} {k:List Int} (h:SqT K H p (k.map V.int)):Rep K H (.ref p) (uR k):=.tup h (z9 k)
theorem xm:∀ ns:List Int,PyData.canLayAll0 (ns.map PyData.int)=true∧PyData.depthAll (ns.map PyData.int)=0
 | []=>⟨rfl,rfl⟩
 | n::ns=>by
  obtain⟨a,b⟩:=xm ns
  refine⟨?_,?_⟩
  ·show (true && PyData.canLayAll0 (ns.map PyData.int))=true
   rw[a]
   rfl
  ·show max 0 (PyData.depthAll (ns.map PyData.int))=0
   omega
theorem vM (k:List Int):vQ (uR k):=⟨(xm k).1,by show PyData.depthAll (k.map PyData.int)+1≤40; rw[(xm k).2]; decide⟩
noncomputable def rwD (r:Rw):PyData:=.tuple [uR r.num,r.note.data,.str r.rule]
theorem IX {K:PySem.W.Frag} {H:Hp} {v:V} {r:Rw} (h:RowAt K H v r):Rep K H v (rwD r):=by
 obtain⟨p,a,t,rfl,h2,h3,h4⟩:=h
 exact .tup h2 (.cons (wm (SqT.of h3)) (.cons h4 (.cons (.str _) .nil)))
theorem Cq {K:PySem.W.Frag} {H:Hp}:∀ {vs:List V} {rs:List Rw},RowsAt K H vs rs→RepAll K H vs (rs.map rwD)
 | _,_,.nil=>.nil
 | _,_,.cons h t=>.cons (IX h) (Cq t)
theorem HW {r:Rw} (h:r.note.ok∧r.note.dp≤5) (hz:r.rule = "one"∨r.rule = "near"):PyData.canLay0 (rwD r)=true∧PyData.depth (rwD r)≤10:=by
 obtain⟨a,b⟩:=wQ r.note h.1
 have c:=vM r.num
 have d:PyData.canLay0 (.str r.rule)=true:=by rcases hz with e | e <;> rw[e] <;> decide +kernel
 refine⟨?_,?_⟩
 ·show (PyData.canLay0 (uR r.num) && (PyData.canLay0 r.note.data && (PyData.canLay0 (.str r.rule) && true)))=true
  rw[c.1,a,d]
  rfl
 ·show max (PyData.depthAll (r.num.map PyData.int)+1) (max (PyData.depth r.note.data) (max 0 0))+1≤10
  rw[(xm r.num).2]
  omega
theorem Bu:∀ {rs:List Rw},(∀ r∈rs,(r.note.ok∧r.note.dp≤5)∧(r.rule = "one"∨r.rule = "near"))→PyData.canLayAll0 (rs.map rwD)=true∧PyData.depthAll (rs.map rwD)≤10
 | [],_=>⟨rfl,by show 0≤10; decide⟩
 | r::rs,h=>by
  obtain⟨a,b⟩:=HW (h r (.head _)).1 (h r (.head _)).2
  obtain⟨c,d⟩:=Bu fun r hr=>h r (.tail _ hr)
  refine⟨?_,?_⟩
  ·show (PyData.canLay0 (rwD r) && PyData.canLayAll0 (rs.map rwD))=true
   rw[a,c]
   rfl
  ·show max (PyData.depth (rwD r)) (PyData.depthAll (rs.map rwD))≤10
   omega
theorem RsOk.mono {d e:Nat} {rs:List Rw} (h:RsOk d rs) (l:d≤e):RsOk e rs:=⟨h.nd,h.len,h.part,h.up,fun r hr=>⟨(h.ok r hr).1,Nat.le_trans (h.ok r hr).2 l⟩,h.rule⟩
theorem RsOk.flat {rs:List Rw} (h:RsOk 5 rs):vQ (.list (rs.map rwD)):=by
 obtain⟨a,b⟩:=Bu fun r hr=>⟨⟨(h.ok r hr).1,by have:=(h.ok r hr).2; omega⟩,h.rule r hr⟩
 exact⟨a,by show PyData.depthAll (rs.map rwD)+1≤40; omega⟩
theorem Ie {rs:List Rw} {at':List Int} {j:Nat} {r:Rw} (h:rs[j]?=some r):(rs.take (j+1)).filter (fun r=>decide (upN r.num=at'))=(rs.take j).filter (fun r=>decide (upN r.num=at'))++if upN r.num=at' then [r] else []:=by
 rw[List.take_succ,h,List.filter_append]
 by_cases e:upN r.num=at'
 ·rw[if_pos e]
  show _++[r].filter _=_
  rw[List.filter_cons_of_pos (by simpa using e)]
  rfl
 ·rw[if_neg e]
  show _++[r].filter _=_
  rw[List.filter_cons_of_neg (by simpa using e)]
  rfl
def BX (K:PySem.W.Frag):Sp:=fun vs H Q E=>∃ d,d≤3∧zz K d vs H Q E
def AE (K:PySem.W.Frag):Sp:=fun vs H Q _=>∃ (a kl:Addr) (ns:List Int) (kx:List V) (ks:List Kd2),vs=[.ref a,.ref kl]∧SqL K H a (ns.map V.int)∧SqL K H kl kx∧KnA K H kx ks∧1≤ks.length∧ks.length≤4∧(∀ k∈ks,okKind k) ∧
 ∀ (l:Addr) (vs:List V) (rs:List Rw) (H':Hp),Same H H'→H l=none→H' l=some (.lst vs)→RowsAt K H' vs rs→RsOk 4 rs→1≤rs.length→rs.length≤8→Q (.ref l) H'
section
variable {P:Program} {w:World} {K:PySem.W.Frag} {mg:Str→Option Value} {base:Heap} {f:Addr} {fd:FuncData}
theorem DJ (F:Fun K "_law_rows" "_law_rows" ai f fd) (M:Mg mg) (aB:Cal P w K mg base CX0 "_law_cell_at" 1 ["_law_script","_law_k"] (wO K)) (d9:Cal P w K mg base CX0 "_law_note" 5 ["_law_cell","_law_kinds_here","_law_deep"] (BX K)):FnOk P w K mg base CX0 6 f fd ["_law_script","_law_kinds_here"] (AE K):=by
 refine F.ok bE (fun vs H Q E h=>?_) (fun cdv A outer s H vs Q E hr h=>?_)
 ·obtain⟨a,kl,ns,kx,ks,rfl,_⟩:=h
  rfl
 obtain⟨a,kl,ns,kx,ks,rfl,hS,LK,KA,k1,k4,okk,q⟩:=h
 have lk:=KA.length
 refine⟨_,(@fz _ _ _ _ _ (@ni _ _ 2 _ _ _ _ bE.nd rfl sK (@gY _ _ _ _ _ _ _ _ _ _ _ aB hr ej (@cg _ _ _ _ _ (@eF _ 0 _ _ rfl lP av aw) (@cg _ _ _ _ _ (@ff _ _ _ _) (@eY _) (cT rfl)) (cT rfl)) (by decide) aG (cT rfl) (iT rfl gj)) (mj rfl) (.inl rfl)) (@fz _ _ _ _ _ (@ni _ _ 3 _ _ _ _ bE.nd rfl sL (@vY _ _ _ _ (@eY _)) (mj rfl) (.inl rfl)) (@fz _ _ _ _ _ (@vZ _ _ _ _ _ _ _ _ PassesOwn.never rfl (@vP _ _ _ _ _ _ m7 M.m_range (@cg _ _ _ _ _ (@kT _ _ _ _ _ _ _ _ (@vv _) (@ff _ _ _ _) (@kT _ _ _ _ _ _ _ _ (@p5 _) (@eF _ 2 _ _ rfl lQ ar au) (@xD _ _ _ _ _ _ _ (@cg _ _ _ _ _ (@ff _ _ _ _) (@cg _ _ _ _ _ (@ff _ _ _ _) (@cg _ _ _ _ _ (@ff _ _ _ _) (@cg _ _ _ _ _ (@ff _ _ _ _) (@eY _) (cT rfl)) (cT rfl)) (cT rfl)) (cT rfl)) (@kT _ _ _ _ _ _ _ _ (@yl _) (@ki _ _ _ _ _ _ _ _ _ m9 dw M.m_len qZ (@cg _ _ _ _ _ (@eF _ 1 _ _ rfl iH aa ae) (@eY _) (cT rfl)) aq ao (cT rfl) gj) (@ff _ _ _ _)) (fun _ _=>rfl)))) (@eY _) (cT rfl)) (star1' rfl)) (@pF _ _ 4 _ bE.nd rfl sN (.inl rfl)) (@fz _ _ _ _ _ (@ni _ _ 5 _ _ _ _ bE.nd rfl sO (@gY _ _ _ _ _ _ _ _ _ _ _ aB hr ej (@cg _ _ _ _ _ (@eF _ 0 _ _ rfl lP av aw) (@cg _ _ _ _ _ (@kT _ _ _ _ _ _ _ _ (@vv _) (@ff _ _ _ _) (@eF _ 4 _ _ rfl sM cJ cK)) (@eY _) (cT rfl)) (cT rfl)) (by decide) aG (cT rfl) (iT rfl gj)) (mj rfl) (.inl rfl)) (@fz _ _ _ _ _ (@ni _ _ 6 _ _ _ _ bE.nd rfl lR (@nP _ _ _ _ _ (@eY _)) (mj rfl) (.inl rfl)) (@fz _ _ _ _ _ (@pG _ _ _ _ _ _ _ _ (@PW.pt _ _ _ (@vA _ _ _ _ _ _ _ (@mL _ _ _ _ _ _ _ _ (Ka (xQ hr)) (@eF _ 3 _ _ rfl dq al am) (@vY _ _ _ _ (@eY _)) (nj _)) (@vB _ _ _ _ (@mL _ _ _ _ _ _ _ _ (@qb _) (@kT _ _ _ _ _ _ _ _ (@p5 _) (@eF _ 5 _ _ rfl du bp bq) (@ff _ _ _ _)) (@ff _ _ _ _) (nj _))))) (@fS _ _ _ (@ni _ _ 6 _ _ _ _ bE.nd rfl lR (@wM _ _ _ _ _ _ _ _ _ _ Jp (@kZ _ _ _ _ _ _ _ (@ix_tup _) (@kZ _ _ _ _ _ _ _ (@ix_list _) (@eF _ 3 _ _ rfl dq al am) (@kT _ _ _ _ _ _ _ _ (@p5 _) (@kT _ _ _ _ _ _ _ _ (@rC _) (@eF _ 5 _ _ rfl du bp bq) (@ff _ _ _ _)) (@ki _ _ _ _ _ _ _ _ _ m9 dw M.m_len qZ (@cg _ _ _ _ _ (@eF _ 3 _ _ rfl dq al am) (@eY _) (cT rfl)) aq ao (cT rfl) gj)) (fun _ _=>rfl)) (@ff _ _ _ _) (fun _ _=>rfl)) (@xH _) (@xC _ _ _ (@ff _ _ _ _))) (mj rfl) (.inl rfl))) (@mO _)) (@fz _ _ _ _ _ (@yH _ _ _ _ _ _ _ _ _ _ _ _ _ _ _ 7 _ _ _ bE.nd rfl sQ rfl (CompOk.make (N':=["_law_at","_law_row"]) (ix:=[6]) (nl:=1) (by rfl) (fm1 rfl fm0) (by rfl) (by decide +kernel) rfl (by decide +kernel) rfl (And.intro ⟨rfl,.inl rfl,.inl rfl⟩ True.intro)) (@uo _ _ _ _ (@eF _ 3 _ _ rfl dq al am)) (fun _ _ _ _ _=>(@pF _ _ 1 _ (show List.Nodup (["_law_at","_law_row"]:List Str) from by decide) rfl (Or.inl rfl) (by first | exact .inl rfl | exact .inr rfl | assumption))) (fun _ _ _ _ _=>(@wk _ _ _ (@mL _ _ _ _ _ _ _ _ (D6 (K:=K) rfl (xQ hr)) (@wM _ _ _ _ _ _ _ _ _ _ (CC (K:=K) rfl) (@kZ _ _ _ _ _ _ _ (vq (K:=K) rfl) (@pv _ 1 _ _ (by rfl) (by decreasing_trivial) (by decide) (by decide)) (@ff _ _ _ _) (fun _ _=>rfl)) (@xH _) (@xC _ _ _ (@IK _ _ _ _ _ _ (@GO _) (@ff _ _ _ _)))) (@pv _ 0 _ _ (by rfl) (by decreasing_trivial) (by decide) (by decide)) (nj _)))) (fun _ _ _ _ _=>(@pv _ 1 _ _ (by rfl) (by decreasing_trivial) (by decide) (by decide))) (by rfl) (by intro _; rfl) (by first | exact .inl rfl | exact .inr rfl | assumption)) (@fz _ _ _ _ _ (@ni _ _ 8 _ _ _ _ bE.nd rfl iJ (@gY _ _ _ _ _ _ _ _ _ _ _ d9 hr jP (@cg _ _ _ _ _ (@kT _ _ _ _ _ _ _ _ (@p5 _) (@kT _ _ _ _ _ _ _ _ (@Gx _) (@eF _ 5 _ _ rfl du bp bq) (@ff _ _ _ _)) (@ff _ _ _ _)) (@cg _ _ _ _ _ (@eF _ 1 _ _ rfl iH aa ae) (@cg _ _ _ _ _ (@kT _ _ _ _ _ _ _ _ (@yl _) (@ff _ _ _ _) (@kT _ _ _ _ _ _ _ _ (@rC _) (@ki _ _ _ _ _ _ _ _ _ m9 dw M.m_len qZ (@cg _ _ _ _ _ (@eF _ 1 _ _ rfl iH aa ae) (@eY _) (cT rfl)) aq ao (cT rfl) gj) (@ff _ _ _ _))) (@eY _) (cT rfl)) (cT rfl)) (cT rfl)) (by decide) fh (cT rfl) (iT rfl (iT rfl gj))) (mj rfl) (.inl rfl)) (@fz _ _ _ _ _ (@pG _ _ _ _ _ _ _ _ (@mL _ _ _ _ _ _ _ _ (@qb _) (@kT _ _ _ _ _ _ _ _ (@p5 _) (@kT _ _ _ _ _ _ _ _ (@rC _) (@eF _ 5 _ _ rfl du bp bq) (@ff _ _ _ _)) (@ff _ _ _ _)) (@ff _ _ _ _) (nj _)) (@fS _ _ _ (@ni _ _ 8 _ _ _ _ bE.nd rfl iJ (@nP _ _ _ _ _ (@cg _ _ _ _ _ (@nS _ _ _ _) (@eY _) (cT rfl))) (mj rfl) (.inl rfl))) (@mO _)) (@fz _ _ _ _ _ (@pG _ _ _ _ _ _ _ _ (@PW.pt _ _ _ (@vA _ _ _ _ _ _ _ (@mL _ _ _ _ _ _ _ _ (@Ac _) (@kT _ _ _ _ _ _ _ _ (@p5 _) (@kT _ _ _ _ _ _ _ _ (@rC _) (@eF _ 5 _ _ rfl du bp bq) (@ff _ _ _ _)) (@ff _ _ _ _)) (@ff _ _ _ _) (nj _)) (@vB _ _ _ _ (@mL _ _ _ _ _ _ _ _ (@qb _) (@ki _ _ _ _ _ _ _ _ _ m9 dw M.m_len qZ (@cg _ _ _ _ _ (@eF _ 7 _ _ rfl iI gD gE) (@eY _) (cT rfl)) aq ao (cT rfl) gj) (@ff _ _ _ _) (nj _))))) (@fS _ _ _ (@ni _ _ 8 _ _ _ _ bE.nd rfl iJ (@nP _ _ _ _ _ (@cg _ _ _ _ _ (@nS _ _ _ _) (@cg _ _ _ _ _ (@nP _ _ _ _ _ (@cg _ _ _ _ _ (@nS _ _ _ _) (@eY _) (cT rfl))) (@cg _ _ _ _ _ (@kZ _ _ _ _ _ _ _ (@ix_tup _) (@kZ _ _ _ _ _ _ _ (@ix_list _) (@eF _ 7 _ _ rfl iI gD gE) (@ff _ _ _ _) (fun _ _=>rfl)) (@ff _ _ _ _) (fun _ _=>rfl)) (@eY _) (cT rfl)) (cT rfl)) (cT rfl))) (mj rfl) (.inl rfl))) (@mO _)) (@fz _ _ _ _ _ (@ni _ _ 9 _ _ _ _ bE.nd rfl sU (@kT _ _ _ _ _ _ _ _ HF (@eF _ 6 _ _ rfl sP ii ij) (@nP _ _ _ _ _ (@cg _ _ _ _ _ (@kT _ _ _ _ _ _ _ _ (@vv _) (@ff _ _ _ _) (@kT _ _ _ _ _ _ _ _ (@p5 _) (@kT _ _ _ _ _ _ _ _ (@vv _) (@kT _ _ _ _ _ _ _ _ (@rC _) (@eF _ 2 _ _ rfl lQ ar au) (@ff _ _ _ _)) (@kT _ _ _ _ _ _ _ _ (@yf _) (@ff _ _ _ _) (@ki _ _ _ _ _ _ _ _ _ m9 dw M.m_len qZ (@cg _ _ _ _ _ (@eF _ 7 _ _ rfl iI gD gE) (@eY _) (cT rfl)) aq ao (cT rfl) gj))) (@ff _ _ _ _))) (@eY _) (cT rfl)))) (mj rfl) (.inl rfl)) (@fS _ _ _ (@wH _ _ _ _ (@wD _ _ _ _ _ _ _ _ _ _ _ _ PySem.F.plainAttrs_list PySem.F.slot_list_append PySem.F.type_list_append we (@eF _ 3 _ _ rfl dq al am) (@cg _ _ _ _ _ (@nP _ _ _ _ _ (@cg _ _ _ _ _ (@eF _ 9 _ _ rfl sS cO cP) (@cg _ _ _ _ _ (@eF _ 8 _ _ rfl sR af ag) (@cg _ _ _ _ _ (@xD _ _ _ _ _ _ _ (@cg _ _ _ _ _ (@nS _ _ _ _) (@cg _ _ _ _ _ (@nS _ _ _ _) (@eY _) (cT rfl)) (cT rfl)) (@kT _ _ _ _ _ _ _ _ (@p5 _) (@kT _ _ _ _ _ _ _ _ (@rC _) (@eF _ 5 _ _ rfl du bp bq) (@ff _ _ _ _)) (@ff _ _ _ _)) (fun _ _=>rfl)) (@eY _) (cT rfl)) (cT rfl)) (cT rfl))) (@eY _) (cT rfl)) (by rfl) (by rfl) (by rfl) (by rfl) (by rfl)) (mj rfl))))))))))) (by intro _; rfl)) (@fS _ _ _ (@jm _ _ _ _ (@eF _ 3 _ _ rfl dq al am)))))),?_⟩
 trivial
 refine r9 hS (by decide) ?_
 obtain⟨c,hc⟩:∃ c,cellAt ns 5=c:=⟨_,rfl⟩
 rw[hc]
 refine⟨nW,fun l hl=>?_⟩
 obtain⟨H1,g1,S1,L1⟩:∃ H1,H1=upd H l (.lst [])∧Same H H1∧H1 l=some (.lst []):=⟨_,rfl,gI hl _,fj⟩
 rw[← g1]
 clear g1
 obtain⟨mv,hmv,m4,m8⟩:∃ mv:Int,[V.int 8,V.int 8,V.int 8,V.int 4][((kx.length:Int)-1).toNat]?=some (.int mv)∧4≤mv∧mv≤8:=by
  have:kx.length=1∨kx.length=2∨kx.length=3∨kx.length=4:=by omega
  rcases this with e | e | e | e <;> rw[e]
  ·exact⟨8,rfl,by decide,by decide⟩
  ·exact⟨8,rfl,by decide,by decide⟩
  ·exact⟨8,rfl,by decide,by decide⟩
  ·exact⟨4,rfl,by decide,by decide⟩
 have e0:=Int.emod_nonneg c (show mv≠0 by omega)
 have e1:=Int.emod_lt_of_pos c (show 0<mv by exact Oz80 m4)
 obtain⟨mm,hmm,mm1,mm8⟩:∃ mm:Nat,1+c % mv=(mm:Int)∧1≤mm∧mm≤8:=⟨(1+c % mv).toNat,by omega,by omega,by omega⟩
 refine⟨nW,_,.inl (S1.seq LK),by omega,_,hmv,_,rfl,_,rfl,by exact Oz80 m4,by omega,by omega,?_⟩
 rw[hmm,Int.toNat_natCast]
 obtain⟨Pv,hP⟩:∃ Pv:Nat→St→Hp→Prop,Pv=fun i σ H'=>∃ (vs:List V) (rs:List Rw) (y4 y5 y6 y7 y8 y9:Option V),H' l=some (.lst vs)∧RowsAt K H' vs rs∧Grow c rs∧rs.length=i∧Same H H'∧σ=[some (V.ref a),some (V.ref kl),some (V.int c),some (V.ref l),y4,y5,y6,y7,y8,y9]:=⟨_,rfl⟩
 refine wA Pv ?_ ?_ ?_
 ·rw[hP]
  exact⟨[],[],_,_,_,_,_,_,L1,.nil,Hv c,rfl,S1,rfl⟩
 ·intro i σ H' hi h
  rw[hP] at h
  obtain⟨vs,rs,y4,y5,y6,y7,y8,y9,dl,ra,gr,li,e,rfl⟩:=h
  have lv:vs.length=rs.length:=Paired.length ra
  refine EZ fun tl htl=>?_
  trivial
  refine r9 (e.seq hS) (by omega) ?_
  obtain⟨mo,hmo⟩:∃ mo,cellAt ns (6+(0+(i:Int)))=mo:=⟨_,rfl⟩
  rw[hmo]
  refine⟨nW,fun p6 hp6=>?_⟩
  obtain⟨H2,g2,S2,T2⟩:∃ H2,H2=upd H' p6 (.tup [])∧Same H' H2∧H2 p6=some (.tup []):=⟨_,rfl,gI hp6 _,fj⟩
  rw[← g2]
  clear g2
  show tl _ _ _
  rw[htl]
  clear htl tl
  refine rP fun tl htl=>?_
  obtain⟨DE,hDE⟩:∃ DE:Ends,DE={ nx:=Pv (i+1),rt:=Q,bk:=Hy (CB 3) { nx:=fun _ H'=>Q .non H',rt:=Q },ct:=Pv (i+1) }:=⟨_,rfl⟩
  rw[← hDE]
  have c3:∀ (H3:Hp) (pa:Addr) (at':List Int),Same H' H3→H3 pa=some (.tup (at'.map V.int))→(at'=[]∨at'∈rs.map Rw.num)→at'.length≤3→tl DE [some (V.ref a),some (V.ref kl),some (V.int c),some (V.ref l),some (V.int (0+(i:Int))),some (V.int mo),some (V.ref pa),y7,y8,y9] H3:=by
   intro H3 pa at' S3 TA ha l3
   rw[htl]
   clear htl tl
   refine rP fun tl htl=>?_
   have dl3:=S3 _ _ dl
   have ra3:=RowsAt.ts ra (TS.of S3)
   trivial
   refine⟨⟨_,SqL.of dl3⟩,fun D hD=>?_⟩
   obtain⟨Pc,hC⟩:∃ Pc:Nat→St→Hp→Prop,Pc=fun j τ H4=>∃ (es:List V) (z:Option V),H4 D=some (.lst es)∧RowsAt K H4 es ((rs.take j).filter fun r=>decide (upN r.num=at'))∧Same H3 H4∧τ=[some (.ref pa),z]:=⟨_,rfl⟩
   refine se vs Pc ?_ (fun j τ H4 _ h=>by rw[hC] at h; obtain⟨_,_,_,_,e,_⟩:=h; exact SqL.of (e _ _ dl3)) ?_ ?_
   ·rw[hC]
    exact⟨[],_,fj,.nil,gI hD _,rfl⟩
   ·intro j v τ H4 R' hv h next
    rw[hC] at h
    obtain⟨es,z,dD,re,e4,rfl⟩:=h
    have lj:=(List.getElem?_eq_some_iff.mp hv).1
    obtain⟨r,hr',hrow⟩:=uH (RowsAt.ts ra3 (TS.of e4)) hv
    obtain⟨p',a',t',rfl,h2',h3',h4'⟩:=id hrow
    have mr:=List.mem_of_getElem? hr'
    trivial
    refine⟨_,h2',_,at0,a',_,rfl,SqT.of h3',fun p7 H5 S5 T5=>?_⟩
    rw[Kc (gr.len r mr).1] at T5
    refine⟨_,_,wm T5,wm (SqT.of ((e4.trans S5) _ _ TA)),vM _,vM _,_,rfl,?_⟩
    rw[if_neg (show ¬ (false=true) from Bool.false_ne_true),zv]
    have dD5:=S5 _ _ dD
    have re5:=RowsAt.ts re (TS.of S5)
    have le:es.length≤8:=by
     have:=Paired.length re
     rw[this]
     refine Nat.le_trans (List.length_filter_le _ _) ?_
     rw[List.length_take]
     omega
    have ct:=Ie (at':=at') hr'
    by_cases eu:upN r.num=at'
    ·rw[if_pos (decide_eq_true eu)]
     refine⟨_,dD5,Nat.lt_of_lt_of_le (m:=64) (by omega) (by decide),next _ _ ?_⟩
     rw[hC]
     refine⟨es++[.ref p'],_,fj,?_,pI (e4.trans S5) hD _,rfl⟩
     rw[ct,if_pos eu]
     exact wj (RowAt.ts (RowAt.ts hrow (TS.of S5)) (TS.lst dD5)) (RowsAt.ts re5 (TS.lst dD5))
    ·rw[if_neg (by rw[decide_eq_false eu]; decide)]
     refine next _ _ ?_
     rw[hC]
     exact⟨es,_,dD5,by rw[ct,if_neg eu,List.append_nil]; exact re5,e4.trans S5,rfl⟩
   intro τ H4 h
   rw[hC] at h
   obtain⟨es,z,dD,re,e4,rfl⟩:=h
   clear hC Pc
   rw[lv,List.take_length] at re
   show tl _ _ _
   rw[htl]
   clear htl tl
   refine rP fun tl htl=>?_
   trivial
   have S4:=S3.trans e4
   have les:es.length=cnt rs at':=Paired.length re
   have lc8:cnt rs at'≤rs.length:=List.length_filter_le _ _
   obtain⟨d,hd,d1,d3⟩:∃ d:Nat,3-(kx.length:Int) / 4=d∧1≤d∧d≤3:=⟨(3-(kx.length:Int) / 4).toNat,by omega,by omega,by omega⟩
   have r0:=Int.emod_nonneg (mo * 16807) (show (1000003:Int)≠0 by decide)
   have r1:=Int.emod_lt_of_pos (mo * 16807) (show (0:Int)<1000003 by decide)
   have eS:=e.trans S4
   refine⟨.inr ⟨by omega,by omega⟩,by decide,_,.inl (eS.seq LK),cdiv (by decide) (by decide),d,d3,_,kl,kx,ks,by rw[hd],d1,r0,by omega,eS.seq LK,KA.same eS,k1,k4,okk,fun t8 H5 n5 S5 R5 o5 dp5=>?_⟩
   show tl _ _ _
   rw[htl]
   clear htl tl
   refine rP fun tl htl=>?_
   have c6:∀ (H6:Hp) (t:Addr) (n:Nt),Same H4 H6→tT K H6 (.ref t) n→n.ok→n.dp≤3→tl DE [some (V.ref a),some (V.ref kl),some (V.int c),some (V.ref l),some (V.int (0+(i:Int))),some (V.int mo),some (V.ref pa),some (V.ref D),some (V.ref t),y9] H6:=by
    intro H6 t6 n6 S6 R6 o6 dp6
    rw[htl]
    clear htl tl
    refine rP fun tl htl=>?_
    have c7:∀ (H7:Hp) (t:Addr) (n:Nt),Same H4 H7→tT K H7 (.ref t) n→n.ok→n.dp≤4→(cnt rs at'=0→n.dp≤3)→tl DE [some (V.ref a),some (V.ref kl),some (V.int c),some (V.ref l),some (V.int (0+(i:Int))),some (V.int mo),some (V.ref pa),some (V.ref D),some (V.ref t),y9] H7:=by
     intro H7 t7 n7 S7 R7 o7 dp7 dz7
     rw[htl]
     clear htl tl
     trivial
     have dD7:=S7 _ _ dD
     have TA7:=(e4.trans S7) _ _ TA
     have big:(10:Int) ^ 9≤10 ^ 61:=by decide
     refine⟨cdiv (by decide) (by decide),_,.inl (SqL.of dD7),C6 (by decide) (by decide) (by omega) (by omega),by decide,nW,fun p hp=>?_⟩
     have elast:1+(c / 8+37 * ((es.length:Nat):Int)) % 99=lastF c (cnt rs at'):=by
      rw[les]
      rfl
     rw[elast]
     obtain⟨H8,g8,S8,T8⟩:∃ H8,H8=upd H7 p (.tup [V.int (lastF c (cnt rs at'))])∧Same H7 H8∧H8 p=some (.tup [V.int (lastF c (cnt rs at'))]):=⟨_,rfl,gI hp _,fj⟩
     rw[← g8]
     clear g8
     refine⟨pa,p,_,_,rfl,rfl,S8 _ _ TA7,T8,Nat.le_trans (m:=64) (by rw[List.length_map,List.length_singleton]; omega) (by decide),fun p9 H9 S9 T9=>?_⟩
     have T9':H9 p9=some (.tup ((at'++[lastF c (cnt rs at')]).map V.int)):=by rw[T9,List.map_append]; rfl
     have S39:=S4.trans (S7.trans (S8.trans S9))
     have dl9:=S39 _ _ dl
     obtain⟨z,hz,hz2⟩:∃ z:Str,[V.str (Str.ofString "one"),V.str (Str.ofString "near")][(mo / 64 % 2).toNat]?=some (.str z)∧(z = "one"∨z = "near"):=by
      have:mo / 64 % 2=0∨mo / 64 % 2=1:=by omega
      rcases this with e | e <;> rw[e]
      ·exact⟨_,rfl,.inl rfl⟩
      ·exact⟨_,rfl,.inr rfl⟩
     refine⟨.inl ⟨rfl,_,SqL.of dl9⟩,nW,cdiv (by decide) (by decide),by decide,by omega,_,hz,nW,fun p0 hp0=>?_⟩
     obtain⟨Ha,ga,Sa,Ta⟩:∃ Ha,Ha=upd H9 p0 (.tup [V.ref p9,V.ref t7,V.str z])∧Same H9 Ha∧Ha p0=some (.tup [V.ref p9,V.ref t7,V.str z]):=⟨_,rfl,gI hp0 _,fj⟩
     rw[← ga]
     clear ga
     have dla:=Sa _ _ dl9
     refine⟨_,dla,Nat.lt_of_lt_of_le (m:=64) (by omega) (by decide),?_⟩
     rw[hDE]
     show Pv (i+1) _ _
     rw[hP]
     have S3a:=S39.trans Sa
     have S7a:=(S8.trans S9).trans Sa
     refine⟨_,rs++[⟨at'++[lastF c (cnt rs at')],n7,z⟩],_,_,_,_,_,_,fj,?_,?_,by rw[List.length_append,li]; rfl,pI (e.trans S3a) hl _,rfl⟩
     ·refine wj (RowAt.ts ⟨p0,p9,t7,rfl,SqT.of Ta,Sa _ _ T9',R7.same S7a⟩ (TS.lst dla)) (RowsAt.ts (RowsAt.ts ra (TS.of S3a)) (TS.lst dla))
     ·exact Gk gr (by omega) ha l3 o7 dp7 dz7 hz2
    trivial
    have dD6:=S6 _ _ dD
    refine⟨cdiv (by decide) (by decide),by decide,?_⟩
    have stay:=c7 H6 t6 n6 S6 R6 o6 (by omega) (fun _=>dp6)
    by_cases h1:1<mo / 16 % 4
    ·rw[if_pos h1]
     refine⟨_,.inl (SqL.of dD6),?_⟩
     by_cases h2:((es.length:Nat):Int)=1
     ·rw[if_pos h2]
      refine⟨nW,fun p hp=>?_⟩
      obtain⟨H7,g7,S7,T7⟩:=oR (K:=K) hp [V.str (Str.ofString "any")]
      rw[← g7]
      clear g7
      have dD7:=S7 _ _ dD6
      obtain⟨x,hx⟩:∃ x,es[0]?=some x:=⟨_,List.getElem?_eq_getElem (by omega)⟩
      obtain⟨r,hr',hrow⟩:=uH (RowsAt.ts re (TS.of (S6.trans S7))) hx
      obtain⟨p',a',t',rfl,h2',h3',h4'⟩:=id hrow
      have mr:=List.mem_filter.mp (List.mem_of_getElem? hr')
      have eu:upN r.num=at':=of_decide_eq_true mr.2
      obtain⟨j,hj,_,dj⟩:=gr.el r mr.1
      rw[eu] at hj
      have dr:=dj (by omega)
      have okr:=gr.ok r mr.1
      refine⟨_,SqL.of dD7,_,um (j:=0) hx,_,rfl,_,h2',_,at1,nW,fun p8 hp8=>?_⟩
      obtain⟨H8,g8,S8,T8⟩:=oR (K:=K) hp8 [V.str (Str.ofString "but"),V.ref p,V.ref t']
      rw[← g8]
      clear g8
      refine c7 H8 p8 (.but .any r.note) ((S6.trans S7).trans S8) (.tup T8 (.cons (.str _) (.cons (.tup (Same.tup S8 T7) (.cons (.str _) .nil)) (.cons (h4'.same S8) .nil)))) ⟨trivial,okr.1⟩ ?_ (fun z=>by omega)
      show max 1 r.note.dp+1≤4
      omega
     ·rw[if_neg h2]
      exact stay
    ·rw[if_neg h1]
     exact stay
   trivial
   refine⟨cdiv (by decide) (by decide),by decide,?_⟩
   by_cases h1:mo / 16 % 4=1
   ·rw[if_pos h1]
    refine⟨nW,fun p hp=>?_⟩
    obtain⟨H7,g7,S7,T7⟩:=oR (K:=K) hp [V.str (Str.ofString "any")]
    rw[← g7]
    clear g7
    exact c6 H7 p .any (S5.trans S7) (.tup T7 (.cons (.str _) .nil)) trivial (by decide)
   ·rw[if_neg h1]
    exact c6 H5 t8 n5 S5 R5 o5 (by omega)
  trivial
  refine⟨nW,fun p hp=>?_⟩
  obtain⟨H3,g3,S3,L3⟩:∃ H3,H3=upd H2 p (.lst [])∧Same H2 H3∧H3 p=some (.lst []):=⟨_,rfl,gI hp _,fj⟩
  rw[← g3]
  clear g3
  have S23:=S2.trans S3
  have dl3:=S23 _ _ dl
  have ra3:=RowsAt.ts ra (TS.of S23)
  have keep:=c3 H3 p6 [] S23 (S3 _ _ T2) (.inl rfl) (by decide)
  refine⟨.list (rs.map rwD),.list [],.lst (SqL.of dl3) (Cq ra3),.lst (SqL.of L3) .nil,(gr.toRsOk.mono (by decide)).flat,⟨by decide +kernel,by decide +kernel⟩,_,rfl,?_⟩
  by_cases hr0:rs=[]
  ·rw[if_neg (by rw[hr0]; decide)]
   exact keep
  ·rw[if_pos (by
    cases rs with
    | nil=>exact absurd rfl hr0
    | cons r rs=>rfl)]
   have r1:1≤rs.length:=by
    cases rs with
    | nil=>exact absurd rfl hr0
    | cons r rs=>simp
   refine⟨by decide,?_⟩
   by_cases hm2:mo % 2=1
   ·rw[if_pos hm2]
    have j0:=Int.emod_nonneg (mo / 2) (show (vs.length:Int)≠0 by omega)
    have j1:=Int.emod_lt_of_pos (mo / 2) (show (0:Int)<(vs.length:Int) by exact Oz68 lv r1)
    obtain⟨j,hj⟩:∃ j:Nat,mo / 2 % (vs.length:Int)=j:=⟨(mo / 2 % (vs.length:Int)).toNat,by exact Oz2 j0⟩
    obtain⟨x,hx⟩:∃ x,vs[j]?=some x:=⟨_,List.getElem?_eq_getElem (by exact Oz16 j1 hj)⟩
    obtain⟨r,hr,p',a',t',rfl,h2',h3',_⟩:=uH ra3 hx
    have mr:=List.mem_of_getElem? hr
    refine⟨cdiv (by decide) (by decide),_,.inl (SqL.of dl3),by exact Oz68 lv r1,_,SqL.of dl3,_,(by rw[hj]; exact um hx),_,rfl,_,h2',_,at0,_,_,rfl,h3',fun p7 H4 S4 T4=>?_⟩
    rw[K9] at T4
    refine c3 H4 p7 _ (S23.trans S4) T4 ?_ (by rw[List.length_take]; omega)
    have ll:=gr.len r mr
    by_cases l4:r.num.length≤3
    ·rw[List.take_of_length_le l4]
     exact .inr (List.mem_map.mpr ⟨r,mr,rfl⟩)
    ·have:r.num.take 3=upN r.num:=by
      unfold upN
      rw[List.dropLast_eq_take,show r.num.length-1=3 by omega]
     rw[this]
     exact gr.up r mr
   ·rw[if_neg hm2]
    exact keep
 ·intro σ H' h
  rw[hP] at h
  obtain⟨vs,rs,y4,y5,y6,y7,y8,y9,dl,ra,gr,li,e,rfl⟩:=h
  trivial
  exact q _ vs rs _ e hl dl ra gr.toRsOk (by omega) (by omega)
end
end MyI
namespace MyJ
open My MyB MyC MyD MyE MyF MyG MyI PySem L2
noncomputable def top (i:Nat):Stmt:=PySem.Challenge.pw_tariffgate_k43_looked.main.body.getD i (.Pass ⟨0,0,0,0⟩)
abbrev bi:Stmt:=top 61
theorem gF:FnScope ["_law_rows_here","_law_cell","_law_at","_law_row"] ["_law_rows_here","_law_cell"] (defScope bi):=⟨rfl,rfl,rfl,by decide +kernel,rfl,by decide +kernel,by decide +kernel⟩
theorem fL:Vis (defScope bi) "_law_rows_here":=by decreasing_trivial
theorem jB:Vis (defScope bi) "_law_cell":=by decreasing_trivial
theorem jC:Vis (defScope bi) "_law_at":=by decreasing_trivial
theorem pJ:Loc (defScope bi) "_law_at":=by first | exact Or.inl rfl | exact Or.inr rfl
theorem jD:Vis (defScope bi) "_law_row":=by decreasing_trivial
theorem pK:Loc (defScope bi) "_law_row":=by first | exact Or.inl rfl | exact Or.inr rfl
theorem ng:(defScope bi).names.lookup ("len":Str)=some .globalImplicit:=by rfl
theorem RsOk.perm {d:Nat} {rs rs':List Rw} (h:RsOk d rs) (p:rs'.Perm rs):RsOk d rs' where
 nd:=(p.map Rw.num).nodup_iff.mpr h.nd
 len:=fun r hr=>h.len r (p.mem_iff.mp hr)
 part:=fun r hr=>h.part r (p.mem_iff.mp hr)
 up:=fun r hr=>(h.up r (p.mem_iff.mp hr)).imp id fun z=>(p.map Rw.num).mem_iff.mpr z
 ok:=fun r hr=>h.ok r (p.mem_iff.mp hr)
 rule:=fun r hr=>h.rule r (p.mem_iff.mp hr)
theorem Bo {α β:Type} {R:α→β→Prop}:∀ (n:Nat) {xs:List α} {ys:List β},Paired R xs ys→Paired R (xs.take n) (ys.take n)
 | 0,_,_,_=>by rw[List.take_zero,List.take_zero]; exact .nil
 | n+1,_,_,.nil=>.nil
 | n+1,_,_,.cons r t=>.cons r (Bo n t)
theorem A0 {α β:Type} {R:α→β→Prop}:∀ (n:Nat) {xs:List α} {ys:List β},Paired R xs ys→Paired R (xs.drop n) (ys.drop n)
 | 0,_,_,h=>h
 | n+1,_,_,.nil=>.nil
 | n+1,_,_,.cons r t=>A0 n t
theorem BV {α β:Type} {R:α→β→Prop} {xs':List α} {ys':List β} (h:Paired R xs' ys'):∀ {xs:List α} {ys:List β},Paired R xs ys→Paired R (xs++xs') (ys++ys')
 | _,_,.nil=>h
 | _,_,.cons r t=>.cons r (BV h t)
theorem BW {α β:Type} {R:α→β→Prop}:∀ {xs:List α} {ys:List β},Paired R xs ys→Paired R xs.reverse ys.reverse
 | _,_,.nil=>.nil
 | _,_,.cons r t=>by rw[List.reverse_cons,List.reverse_cons]; exact wj r (BW t)
theorem HX {xs:List V} {n:Nat}:vo xs (some (n:Int)) none=xs.drop n:=by
 have e:HT.sIx xs.length 0 (some (n:Int))=min n xs.length:=HT.sIx_nat _ _ n
 unfold vo
 rw[e,HT.sIx_none]
 by_cases h:n≤xs.length
 ·rw[Nat.min_eq_left h,List.take_of_length_le (by rw[List.length_drop]; exact Nat.le_refl _)]
 ·rw[Nat.min_eq_right (by exact Oz26 h),List.drop_of_length_le (Nat.le_refl _),List.drop_of_length_le (by exact Oz26 h),List.take_nil]
theorem Al {xs:List V} {n:Nat}:vo xs none (some (n:Int))=xs.take n:=by
 have e:HT.sIx xs.length xs.length (some (n:Int))=min n xs.length:=HT.sIx_nat _ _ n
 unfold vo
 rw[e,HT.sIx_none,List.drop_zero,Nat.sub_zero]
 by_cases h:n≤xs.length
 ·rw[Nat.min_eq_left h]
 ·rw[Nat.min_eq_right (by exact Oz26 h),List.take_of_length_le (Nat.le_refl _),List.take_of_length_le (by exact Oz26 h)]
def yV (K:PySem.W.Frag):Sp:=fun vs H Q _=>∃ (l:Addr) (c:Int) (vs':List V) (rs:List Rw),vs=[.ref l,.int c]∧H l=some (.lst vs')∧RowsAt K H vs' rs∧1≤rs.length∧rs.length≤8 ∧
 ∀ (l':Addr) (us:List V) (rs':List Rw) (H':Hp),Same H H'→H l'=none→H' l'=some (.lst us)→RowsAt K H' us rs'→rs'.Perm rs→Q (.ref l') H'
section
variable {P:Program} {w:World} {K:PySem.W.Frag} {mg:Str→Option Value} {base:Heap} {f:Addr} {fd:FuncData}
theorem BL (F:Fun K "_law_turned" "_law_turned" bi f fd) (M:Mg mg):FnOk P w K mg base CX0 1 f fd ["_law_rows_here","_law_cell"] (yV K):=by
 refine F.ok gF (fun vs H Q E h=>?_) (fun cdv A outer s H vs Q E hr h=>?_)
 ·obtain⟨l,c,vs',rs,rfl,_⟩:=h
  rfl
 obtain⟨l,c,vs',rs,rfl,dl,ra,r1,r8,q⟩:=h
 have lv:vs'.length=rs.length:=Paired.length ra
 refine⟨_,(@fz _ _ _ _ _ (@ni _ _ 2 _ _ _ _ gF.nd rfl pJ (@kT _ _ _ _ _ _ _ _ (@p5 _) (@eF _ 1 _ _ rfl jB ar au) (@ki _ _ _ _ _ _ _ _ _ m9 ng M.m_len qZ (@cg _ _ _ _ _ (@eF _ 0 _ _ rfl fL al am) (@eY _) (cT rfl)) aq ao (cT rfl) gj)) (mj rfl) (.inl rfl)) (@fz _ _ _ _ _ (@ni _ _ 3 _ _ _ _ gF.nd rfl pK (@kT _ _ _ _ _ _ _ _ (@G9 _) (@wM _ _ _ _ _ _ _ _ _ _ (@AO _) (@eF _ 0 _ _ rfl fL al am) (@xC _ _ _ (@eF _ 2 _ _ rfl jC ii ij)) (@xH _)) (@wM _ _ _ _ _ _ _ _ _ _ (@AO _) (@eF _ 0 _ _ rfl fL al am) (@xH _) (@xC _ _ _ (@eF _ 2 _ _ rfl jC ii ij)))) (mj rfl) (.inl rfl)) (@fz _ _ _ _ _ (@pG _ _ _ _ _ _ _ _ (@mL _ _ _ _ _ _ _ _ (@qb _) (@kT _ _ _ _ _ _ _ _ (@p5 _) (@kT _ _ _ _ _ _ _ _ (@rC _) (@eF _ 1 _ _ rfl jB ar au) (@ff _ _ _ _)) (@ff _ _ _ _)) (@ff _ _ _ _) (nj _)) (@fS _ _ _ (@wH _ _ _ _ (@JW _ _ _ _ _ _ _ _ _ PySem.F.plainAttrs_list PySem.F.slot_list_reverse PySem.F.type_list_reverse F0 (@eF _ 3 _ _ rfl jD jf jg) (by rfl) (by rfl)) (mj rfl))) (@mO _)) (@fS _ _ _ (@jm _ _ _ _ (@eF _ 3 _ _ rfl jD jf jg)))))),?_⟩
 trivial
 have j0:=Int.emod_nonneg c (show (vs'.length:Int)≠0 by exact Oz99 r1 lv)
 have j1:=Int.emod_lt_of_pos c (show (0:Int)<(vs'.length:Int) by exact Oz31 r1 lv)
 obtain⟨j,hj,lj⟩:∃ j:Nat,c % (vs'.length:Int)=j∧j≤vs'.length:=⟨(c % (vs'.length:Int)).toNat,by exact Oz2 j0,by omega⟩
 refine⟨_,.inl (SqL.of dl),by exact Oz31 r1 lv,_,SqL.of dl,fun p hp=>?_⟩
 rw[hj,HX]
 obtain⟨H1,g1,S1,L1⟩:∃ H1,H1=upd H p (.lst (vs'.drop j))∧Same H H1∧H1 p=some (.lst (vs'.drop j)):=⟨_,rfl,gI hp _,fj⟩
 rw[← g1]
 clear g1
 refine⟨_,SqL.of (S1 _ _ dl),fun p2 hp2=>?_⟩
 rw[Al]
 obtain⟨H2,g2,S2,L2'⟩:∃ H2,H2=upd H1 p2 (.lst (vs'.take j))∧Same H1 H2∧H2 p2=some (.lst (vs'.take j)):=⟨_,rfl,gI hp2 _,fj⟩
 rw[← g2]
 clear g2
 refine⟨_,S2 _ _ L1,_,L2',Nat.le_trans (m:=64) (by rw[List.length_drop,List.length_take]; omega) (by decide),fun p3 hp3=>?_⟩
 obtain⟨H3,g3,S3,L3⟩:∃ H3,H3=upd H2 p3 (.lst (vs'.drop j++vs'.take j))∧Same H2 H3∧H3 p3=some (.lst (vs'.drop j++vs'.take j)):=⟨_,rfl,gI hp3 _,fj⟩
 rw[← g3]
 clear g3
 have S03:=(S1.trans S2).trans S3
 have n3:H p3=none:=(S1.trans S2).free hp3
 have ra3:=RowsAt.ts ra (TS.of S03)
 have rt:RowsAt K H3 (vs'.drop j++vs'.take j) (rs.drop j++rs.take j):=BV (Bo j ra3) (A0 j ra3)
 have pm:(rs.drop j++rs.take j).Perm rs:=List.perm_append_comm.trans (by rw[List.take_append_drop])
 refine⟨cdiv (by decide) (by decide),by decide,?_⟩
 by_cases h1:c / 8 % 2=1
 ·rw[if_pos h1]
  refine⟨.inl ⟨rfl,_,SqL.of L3⟩,_,L3,?_⟩
  exact q _ _ _ _ (pI S03 n3 _) n3 fj (RowsAt.ts (BW rt) (TS.lst L3)) ((List.reverse_perm _).trans pm)
 ·rw[if_neg h1]
  exact q _ _ _ _ S03 n3 L3 rt pm
end
end MyJ
namespace MyK
open My MyB MyC MyD MyE MyF MyG MyI MyJ PySem L2
noncomputable def top (i:Nat):Stmt:=PySem.Challenge.pw_tariffgate_k43_looked.main.body.getD i (.Pass ⟨0,0,0,0⟩)
theorem sV:(("is_number":Str) == ("__debug__":Str))=false:=by decide
theorem gG:(("is_picking":Str) == ("__debug__":Str))=false:=by decide
theorem jQ:(("numbers":Str) == ("__debug__":Str))=false:=by decide
theorem jR:(("numbers":Str) == ("__classdict__":Str))=false:=by decide
theorem sW:(("above":Str) == ("__debug__":Str))=false:=by decide
theorem sX:(("above":Str) == ("__classdict__":Str))=false:=by decide
theorem sY:(("has_place":Str) == ("__debug__":Str))=false:=by decide
theorem uO:(("is_row":Str) == ("__debug__":Str))=false:=by decide
abbrev bV:Stmt:=top 45
theorem rf:FnScope ["thing"] ["thing"] (defScope bV):=⟨rfl,rfl,rfl,by decide +kernel,rfl,by decide +kernel,by decide +kernel⟩
theorem jE:Vis (defScope bV) "thing":=by decreasing_trivial
theorem iQ:(defScope bV).names.lookup ("isinstance":Str)=some .globalImplicit:=by rfl
theorem nh:(defScope bV).names.lookup ("str":Str)=some .globalImplicit:=by rfl
abbrev cG:Stmt:=top 46
theorem uP:FnScope ["thing"] ["thing"] (defScope cG):=⟨rfl,rfl,rfl,by decide +kernel,rfl,by decide +kernel,by decide +kernel⟩
theorem il:Vis (defScope cG) "thing":=by decreasing_trivial
theorem kM:(defScope cG).names.lookup ("isinstance":Str)=some .globalImplicit:=by rfl
theorem pL:(defScope cG).names.lookup ("tuple":Str)=some .globalImplicit:=by rfl
theorem sZ:(defScope cG).names.lookup ("len":Str)=some .globalImplicit:=by rfl
theorem lS:(defScope cG).names.lookup ("is_number":Str)=some .globalImplicit:=by rfl
theorem kN:(defScope cG).names.lookup ("is_picking":Str)=some .globalImplicit:=by rfl
abbrev bR:Stmt:=top 47
theorem lT:FnScope ["numbers","number","above"] ["numbers","number"] (defScope bR):=⟨rfl,rfl,rfl,by decide +kernel,rfl,by decide +kernel,by decide +kernel⟩
theorem kq:Vis (defScope bR) "numbers":=by decreasing_trivial
theorem kr:Vis (defScope bR) "number":=by decreasing_trivial
theorem ky:Vis (defScope bR) "above":=by decreasing_trivial
theorem rg:Loc (defScope bR) "above":=by first | exact Or.inl rfl | exact Or.inr rfl
abbrev bG:Stmt:=top 48
theorem mJ:FnScope ["thing","numbers"] ["thing"] (defScope bG):=⟨rfl,rfl,rfl,by decide +kernel,rfl,by decide +kernel,by decide +kernel⟩
theorem fo:Vis (defScope bG) "thing":=by decreasing_trivial
theorem tf:Vis (defScope bG) "numbers":=by decreasing_trivial
theorem tj:Loc (defScope bG) "numbers":=by first | exact Or.inl rfl | exact Or.inr rfl
theorem jF:(defScope bG).names.lookup ("isinstance":Str)=some .globalImplicit:=by rfl
theorem ou:(defScope bG).names.lookup ("list":Str)=some .globalImplicit:=by rfl
theorem pM:(defScope bG).names.lookup ("len":Str)=some .globalImplicit:=by rfl
theorem jG:(defScope bG).names.lookup ("all":Str)=some .globalImplicit:=by rfl
def Aa (z:Str):Prop:=z = "one"∨z = "near"
def xT (K:PySem.W.Frag):Sp:=fun vs H Q _=>∃ z:Str,vs=[.str z]∧Aa z∧∀ H',Same H H'→Q (.bl true) H'
def KP (k:List Int):Prop:=1≤k.length∧k.length≤4∧∀ x∈k,1≤x∧x≤99
def Au (K:PySem.W.Frag):Sp:=fun vs H Q _=>∃ (v:V) (r:Rw),vs=[v]∧RowAt K H v r∧KP r.num∧Aa r.rule∧∀ H',Same H H'→Q (.bl true) H'
def NumsAt (K:PySem.W.Frag) (H:Hp) (vs:List V) (ks:List (List Int)):Prop:=Paired (fun v k=>∃ a:Addr,v=.ref a∧H a=some (.tup (k.map V.int))) vs ks
theorem NumsAt.ts {K:PySem.W.Frag} {H H':Hp} {vs:List V} {ks:List (List Int)} (h:NumsAt K H vs ks) (e:TS H H'):NumsAt K H' vs ks:=Paired.mapP h fun v k=>by rintro⟨a,h1,h2⟩; exact⟨a,h1,e.at h2⟩
theorem NumsAt.rep {K:PySem.W.Frag} {H:Hp}:∀ {vs:List V} {ks:List (List Int)},NumsAt K H vs ks→RepAll K H vs (ks.map uR)
 | _,_,.nil=>.nil
 | _,_,.cons ⟨a,e,h⟩ t=>by
  subst e
  exact .cons (wm (SqT.of h)) (NumsAt.rep t)
theorem Bw:∀ ks:List (List Int),PyData.canLayAll0 (ks.map uR)=true∧PyData.depthAll (ks.map uR)≤1
 | []=>⟨rfl,by show 0≤1; decide⟩
 | k::ks=>by
  obtain⟨a,b⟩:=Bw ks
  have c:=vM k
  refine⟨?_,?_⟩
  ·show (PyData.canLay0 (uR k) && PyData.canLayAll0 (ks.map uR))=true
   rw[c.1,a]
   rfl
  ·show max (PyData.depthAll (k.map PyData.int)+1) (PyData.depthAll (ks.map uR))≤1
   rw[(xm k).2]
   omega
theorem Br (k:List Int):∀ ks:List (List Int),((ks.map uR).countP fun z=>PyData.eqv z (uR k))=ks.count k
 | []=>rfl
 | c::ks=>by
  rw[List.map_cons,List.countP_cons,Br k ks,List.count_cons,zv]
  by_cases h:c=k
  ·rw[decide_eq_true h,if_pos rfl,if_pos (by rw[h]; exact beq_self_eq_true _)]
  ·rw[decide_eq_false h,if_neg (by decide),if_neg (by intro e; exact h (eq_of_beq e))]
def yq (K:PySem.W.Frag):Sp:=fun vs H Q _=>∃ (l a:Addr) (us:List V) (ks:List (List Int)) (k:List Int),vs=[.ref l,.ref a]∧SqL K H l us∧NumsAt K H us ks∧ks.Nodup∧k∈ks∧1≤k.length∧ks.length≤24∧(upN k=[]∨upN k∈ks)∧H a=some (.tup (k.map V.int))∧∀ H',Same H H'→Q (.bl true) H'
def yN (K:PySem.W.Frag):Sp:=fun vs H Q _=>∃ (l:Addr) (us:List V) (rs:List Rw),vs=[.ref l]∧SqL K H l us∧RowsAt K H us rs∧RsOk 5 rs∧1≤rs.length∧rs.length≤24∧∀ H',Same H H'→Q (.bl true) H'
section
variable {P:Program} {w:World} {K:PySem.W.Frag} {mg:Str→Option Value} {base:Heap} {f:Addr} {fd:FuncData}
theorem BD (F:Fun K "is_picking" "is_picking" bV f fd) (M:Mg mg):FnOk P w K mg base CX0 1 f fd ["thing"] (xT K):=by
 refine F.ok rf (fun vs H Q E h=>?_) (fun cdv A outer s H vs Q E hr h=>?_)
 ·obtain⟨z,rfl,_⟩:=h
  rfl
 obtain⟨z,rfl,hz,q⟩:=h
 refine⟨_,(@fS _ _ _ (@jm _ _ _ _ (@vH _ _ _ _ _ _ _ (@ki _ _ _ _ _ _ _ _ _ uF iQ M.m_isinstance qU (@cg _ _ _ _ _ (@eF _ 0 _ _ rfl jE az aA) (@cg _ _ _ _ _ (@uT _ _ (.ty "str") _ _ nh M.m_str Fk rfl kR kQ) (@eY _) (cT rfl)) (cT rfl)) aE aD (cT rfl) (iT rfl gj)) (@vz _ _ _ _ _ (@vV _ _ _ _ _ _ _ _ yO (@eF _ 0 _ _ rfl jE az aA) (@nP _ _ _ _ _ (@cg _ _ _ _ _ (@nS _ _ _ _) (@cg _ _ _ _ _ (@nS _ _ _ _) (@eY _) (cT rfl)) (cT rfl))) (by with_unfolding_all rfl)))))),?_⟩
 trivial
 refine⟨nW,fun p hp=>⟨p,_,rfl,.inr (SqT.of fj),rfl,rfl,?_⟩⟩
 have e:(if false=true then !inV (V.str z) [V.str (Str.ofString "one"),V.str (Str.ofString "near")] else inV (V.str z) [V.str (Str.ofString "one"),V.str (Str.ofString "near")])=true:=by
  rcases hz with rfl | rfl <;> decide +kernel
 rw[e]
 exact q _ (gI hp _)
theorem Gu (F:Fun K "is_row" "is_row" cG f fd) (M:Mg mg) (jh:Cal P w K mg base CX0 "is_number" 3 ["thing"] (yz K)) (dy:Cal P w K mg base CX0 "is_picking" 1 ["thing"] (xT K)):FnOk P w K mg base CX0 4 f fd ["thing"] (Au K):=by
 refine F.ok uP (fun vs H Q E h=>?_) (fun cdv A outer s H vs Q E hr h=>?_)
 ·obtain⟨v,r,rfl,_⟩:=h
  rfl
 obtain⟨v,r,rfl,hrow,okn,okr,q⟩:=h
 refine⟨_,(@fz _ _ _ _ _ (@pG _ _ _ _ _ _ _ _ (@PW.pt _ _ _ (@wR _ _ _ _ _ _ _ (@tw _ _ _ _ (@qY _ _ _ (@ki _ _ _ _ _ _ _ _ _ uF kM M.m_isinstance qU (@cg _ _ _ _ _ (@eF _ 0 _ _ rfl il az aA) (@cg _ _ _ _ _ (@uT _ _ (.ty "tuple") _ _ pL M.m_tuple wL rfl dh dg) (@eY _) (cT rfl)) (cT rfl)) aE aD (cT rfl) (iT rfl gj)) (rS rfl))) (@wC _ _ _ _ (@mL _ _ _ _ _ _ _ _ (@zx _) (@ki _ _ _ _ _ _ _ _ _ m9 sZ M.m_len qZ (@cg _ _ _ _ _ (@eF _ 0 _ _ rfl il az aA) (@eY _) (cT rfl)) aq ao (cT rfl) gj) (@ff _ _ _ _) (nj _))))) (@fS _ _ _ (@jm _ _ _ _ (@sf _ _ _ _))) (@mO _)) (@fS _ _ _ (@jm _ _ _ _ (@vH _ _ _ _ _ _ _ (@gY _ _ _ _ _ _ _ _ _ _ _ jh hr lS (@cg _ _ _ _ _ (@kZ _ _ _ _ _ _ _ (@ix_tup _) (@eF _ 0 _ _ rfl il az aA) (@ff _ _ _ _) (fun _ _=>rfl)) (@eY _) (cT rfl)) (by decide) sV (cT rfl) gj) (@vz _ _ _ _ _ (@gY _ _ _ _ _ _ _ _ _ _ _ dy hr kN (@cg _ _ _ _ _ (@kZ _ _ _ _ _ _ _ (@ix_tup _) (@eF _ 0 _ _ rfl il az aA) (@ff _ _ _ _) (fun _ _=>rfl)) (@eY _) (cT rfl)) (by decide) gG (cT rfl) gj)))))),?_⟩
 obtain⟨p,a,t,rfl,h2,h3,h4⟩:=id hrow
 trivial
 refine⟨_,Kd.tup h2,?_⟩
 rw[if_neg (by decide)]
 refine⟨_,.inr h2,?_⟩
 rw[if_pos (by rfl)]
 obtain⟨k1,k4,kp⟩:=okn
 refine⟨_,h2,_,at0,_,_,rfl,.tup (SqT.of h3) (fun x hx=>?_),fun H1 S1=>⟨_,rfl,?_⟩⟩
 ·obtain⟨i,_,rfl⟩:=List.mem_map.mp hx
  exact⟨.int,rfl⟩
 have e:(prefB (r.num.map V.int) && decide (1≤(r.num.map V.int).length))=true:=by
  unfold prefB
  rw[List.length_map,decide_eq_true k4,decide_eq_true k1,Bool.and_true,Bool.true_and,List.all_eq_true]
  intro x hx
  obtain⟨i,hi,rfl⟩:=List.mem_map.mp hx
  exact decide_eq_true (kp i hi)
 rw[if_pos e]
 exact⟨_,Same.tup S1 h2,_,at2,_,rfl,okr,fun H2 S2=>q _ (S1.trans S2)⟩
theorem CH (F:Fun K "has_place" "has_place" bR f fd) (M:Mg mg):FnOk P w K mg base CX0 1 f fd ["numbers","number"] (yq K):=by
 refine F.ok lT (fun vs H Q E h=>?_) (fun cdv A outer s H vs Q E hr h=>?_)
 ·obtain⟨l,a,us,ks,k,rfl,_⟩:=h
  rfl
 obtain⟨l,a,us,ks,k,rfl,hL,hN,nd,mk,k1,k24,up,ha,q⟩:=h
 refine⟨_,(@fz _ _ _ _ _ (@ni _ _ 2 _ _ _ _ lT.nd rfl rg (@wM _ _ _ _ _ _ _ _ _ _ (CC rfl) (@eF _ 1 _ _ rfl kr dz dA) (@xH _) (@xC _ _ _ (@IK _ _ _ _ _ _ (@GO _) (@ff _ _ _ _)))) (mj rfl) (.inl rfl)) (@fS _ _ _ (@jm _ _ _ _ (@vH _ _ _ _ _ _ _ (@vV _ _ _ _ _ _ _ _ (@qb _) (@wD _ _ _ _ _ _ _ _ _ _ _ _ PySem.F.plainAttrs_list PySem.F.slot_list_count PySem.F.type_list_count (BB (K:=K) rfl (xQ hr)) (@eF _ 0 _ _ rfl kq jQ jR) (@cg _ _ _ _ _ (@eF _ 1 _ _ rfl kr dz dA) (@eY _) (cT rfl)) (by rfl) (by rfl) (by rfl) (by rfl) (by rfl)) (@ff _ _ _ _) (nj _)) (@vz _ _ _ _ _ (@IQ _ _ _ _ _ _ _ (@vV _ _ _ _ _ _ _ _ (Gj (xQ hr)) (@eF _ 2 _ _ rfl ky sW sX) (@nP _ _ _ _ _ (@eY _)) (nj _)) (@vz _ _ _ _ _ (@vV _ _ _ _ _ _ _ _ (Gf (xQ hr)) (@eF _ 2 _ _ rfl ky sW sX) (@eF _ 0 _ _ rfl kq jQ jR) (by with_unfolding_all rfl))))))))),?_⟩
 obtain⟨f1,f2⟩:=Bw ks
 have fl:vQ (.list (ks.map uR)):=⟨f1,by show PyData.depthAll (ks.map uR)+1≤40; exact Oz21 f2⟩
 trivial
 refine⟨_,_,rfl,SqT.of ha,fun p1 H1 S1 T1=>?_⟩
 rw[Kc k1] at T1
 have rl:Rep K H1 (.ref l) (.list (ks.map uR)):=.lst (S1.seq hL) (hN.ts (TS.of S1)).rep
 refine⟨.inl ⟨rfl,_,S1.seq hL⟩,l,_,uR k,_,rfl,rfl,wm (SqT.of (S1 _ _ ha)),rl,vM k,fl,rfl,?_⟩
 have ec:((ks.map uR).countP fun z=>PyData.eqv z (uR k))=1:=by
  rw[Br]
  have h1:=List.nodup_iff_count.mp nd k
  have h2:=List.count_pos_iff.mpr mk
  omega
 rw[ec,if_pos (show V.int ((1:Nat):Int)=V.int 1 from rfl)]
 refine⟨nW,fun p2 hp2=>?_⟩
 obtain⟨H2,g2,S2,T2⟩:=oR (K:=K) hp2 []
 rw[← g2]
 clear g2
 refine⟨_,uR [],wm (Same.tup S2 T1),wm T2,vM _,vM _,_,rfl,?_⟩
 rw[if_neg (show ¬ (false=true) from Bool.false_ne_true),zv]
 by_cases e0:upN k=[]
 ·rw[if_pos (decide_eq_true e0)]
  exact q _ (S1.trans S2)
 ·rw[if_neg (by rw[decide_eq_false e0]; decide)]
  refine⟨l,_,_,rfl,wm (Same.tup S2 T1),.inl (rl.same S2),vM _,fl,?_⟩
  rw[if_neg (show ¬ (false=true) from Bool.false_ne_true)]
  have ea:((ks.map uR).any fun y=>PyData.eqv y (uR (upN k)))=true:=by
   rw[List.any_eq_true]
   refine⟨uR (upN k),List.mem_map.mpr ⟨_,up.resolve_left e0,rfl⟩,?_⟩
   rw[zv]
   exact decide_eq_true rfl
  rw[ea]
  exact q _ (S1.trans S2)
theorem Dq (F:Fun K "are_rows" "are_rows" bG f fd) (M:Mg mg) (nq:Cal P w K mg base CX0 "is_row" 4 ["thing"] (Au K)) (ji:Cal P w K mg base CX0 "has_place" 1 ["numbers","number"] (yq K)):FnOk P w K mg base CX0 5 f fd ["thing"] (yN K):=by
 refine F.ok mJ (fun vs H Q E h=>?_) (fun cdv A outer s H vs Q E hr h=>?_)
 ·obtain⟨l,us,rs,rfl,_⟩:=h
  rfl
 obtain⟨l,us,rs,rfl,hL,ra,ok,r1,r24,q⟩:=h
 have lu:us.length=rs.length:=Paired.length ra
 refine⟨_,(@fz _ _ _ _ _ (@pG _ _ _ _ _ _ _ _ (@PW.pt _ _ _ (@wR _ _ _ _ _ _ _ (@tw _ _ _ _ (@qY _ _ _ (@ki _ _ _ _ _ _ _ _ _ uF jF M.m_isinstance qU (@cg _ _ _ _ _ (@eF _ 0 _ _ rfl fo az aA) (@cg _ _ _ _ _ (@uT _ _ (.ty "list") _ _ ou M.m_list x9 rfl eT eR) (@eY _) (cT rfl)) (cT rfl)) aE aD (cT rfl) (iT rfl gj)) (rS rfl))) (@wC _ _ _ _ (@tw _ _ _ _ (@yC _ _ _ _ _ _ _ _ _ _ _ _ xB xB (@ff _ _ _ _) (@ki _ _ _ _ _ _ _ _ _ m9 pM M.m_len qZ (@cg _ _ _ _ _ (@eF _ 0 _ _ rfl fo az aA) (@eY _) (cT rfl)) aq ao (cT rfl) gj) (@ff _ _ _ _) (by with_unfolding_all rfl)))))) (@fS _ _ _ (@jm _ _ _ _ (@sf _ _ _ _))) (@mO _)) (@fz _ _ _ _ _ (@pG _ _ _ _ _ _ _ _ (@tw _ _ _ _ (@qY _ _ _ (@ki _ _ _ _ _ _ _ _ _ (wg rfl) jG M.m_all zu (@cg _ _ _ _ _ (@rZ _ _ _ _ _ _ _ _ _ _ _ _ _ _ _ rfl (CompOk.make (N':=["row"]) (ix:=[]) (nl:=1) (by rfl) fm0 (by rfl) (by decide +kernel) rfl (by decide +kernel) rfl True.intro) (@uo _ _ _ _ (@eF _ 0 _ _ rfl fo az aA)) (fun _ _ _ _ _=>(@pF _ _ 0 _ (show List.Nodup (["row"]:List Str) from by decide) rfl (Or.inl rfl) (by first | exact .inl rfl | exact .inr rfl | assumption))) (fun _ _ _ _ _=>(@uU _)) (fun _ _ _ _ _=>(@gY _ _ _ _ _ _ _ _ _ _ _ nq hr rfl (@cg _ _ _ _ _ (@pv _ 0 _ _ (by rfl) (by decreasing_trivial) (by decide) (by decide)) (@eY _) (cT rfl)) (by decide) uO (cT rfl) gj)) (by intro _; rfl)) (@eY _) (cT rfl)) ir iq (cT rfl) gj) (rS rfl))) (@fS _ _ _ (@jm _ _ _ _ (@sf _ _ _ _))) (@mO _)) (@fz _ _ _ _ _ (@ni _ _ 1 _ _ _ _ mJ.nd rfl tj (@rZ _ _ _ _ _ _ _ _ _ _ _ _ _ _ _ rfl (CompOk.make (N':=["row"]) (ix:=[]) (nl:=1) (by rfl) fm0 (by rfl) (by decide +kernel) rfl (by decide +kernel) rfl True.intro) (@uo _ _ _ _ (@eF _ 0 _ _ rfl fo az aA)) (fun _ _ _ _ _=>(@pF _ _ 0 _ (show List.Nodup (["row"]:List Str) from by decide) rfl (Or.inl rfl) (by first | exact .inl rfl | exact .inr rfl | assumption))) (fun _ _ _ _ _=>(@uU _)) (fun _ _ _ _ _=>(@kZ _ _ _ _ _ _ _ (vq (K:=K) rfl) (@pv _ 0 _ _ (by rfl) (by decreasing_trivial) (by decide) (by decide)) (@ff _ _ _ _) (fun _ _=>rfl))) (by intro _; rfl)) (by rfl) (.inl rfl)) (@fS _ _ _ (@jm _ _ _ _ (@ki _ _ _ _ _ _ _ _ _ (wg rfl) jG M.m_all zu (@cg _ _ _ _ _ (@rZ _ _ _ _ _ _ _ _ _ _ _ _ _ _ _ rfl (CompOk.make (N':=["numbers","number"]) (ix:=[1]) (nl:=1) (by rfl) (fm1 rfl fm0) (by rfl) (by decide +kernel) rfl (by decide +kernel) rfl (And.intro ⟨rfl,.inl rfl,.inl rfl⟩ True.intro)) (@uo _ _ _ _ (@eF _ 1 _ _ rfl tf jQ jR)) (fun _ _ _ _ _=>(@pF _ _ 1 _ (show List.Nodup (["numbers","number"]:List Str) from by decide) rfl (Or.inl rfl) (by first | exact .inl rfl | exact .inr rfl | assumption))) (fun _ _ _ _ _=>(@uU _)) (fun _ _ _ _ _=>(@gY _ _ _ _ _ _ _ _ _ _ _ ji hr rfl (@cg _ _ _ _ _ (@pv _ 0 _ _ (by rfl) (by decreasing_trivial) (by decide) (by decide)) (@cg _ _ _ _ _ (@pv _ 1 _ _ (by rfl) (by decreasing_trivial) (by decide) (by decide)) (@eY _) (cT rfl)) (cT rfl)) (by decide) sY (cT rfl) (iT rfl gj))) (by intro _; rfl)) (@eY _) (cT rfl)) ir iq (cT rfl) gj)))))),?_⟩
 trivial
 refine⟨_,Kd.lst hL,?_⟩
 rw[if_neg (by decide)]
 refine⟨_,.inl hL,?_⟩
 rw[if_pos (by omega),if_pos (by omega)]
 refine⟨⟨_,hL⟩,fun D hD=>?_⟩
 obtain⟨Pc,hC⟩:∃ Pc:Nat→St→Hp→Prop,Pc=fun j τ H1=>∃ z,H1 D=some (.lst ((List.replicate j true).map V.bl))∧Same H H1∧τ=[z]:=⟨_,rfl⟩
 refine se us Pc ?_ (fun j τ H1 _ h=>by rw[hC] at h; obtain⟨_,_,e,_⟩:=h; exact e.seq hL) ?_ ?_
 ·rw[hC]
  exact⟨_,fj,gI hD _,rfl⟩
 ·intro j v τ H1 R' hv h next
  rw[hC] at h
  obtain⟨z,dD,e,rfl⟩:=h
  have lj:=(List.getElem?_eq_some_iff.mp hv).1
  obtain⟨r,hr',hrow⟩:=uH (RowsAt.ts ra (TS.of e)) hv
  have mr:=List.mem_of_getElem? hr'
  trivial
  refine⟨v,r,rfl,hrow,⟨(ok.len r mr).1,(ok.len r mr).2,ok.part r mr⟩,ok.rule r mr,fun H2 S2=>?_⟩
  refine⟨_,S2 _ _ dD,Nat.lt_of_lt_of_le (m:=64) (by rw[List.length_map,List.length_replicate]; omega) (by decide),next _ _ ?_⟩
  rw[hC]
  exact⟨_,by rw[fj,List.replicate_succ',List.map_append]; rfl,pI (e.trans S2) hD _,rfl⟩
 intro τ H1 h
 rw[hC] at h
 obtain⟨z,dD,e,rfl⟩:=h
 clear hC Pc
 refine⟨_,rfl,_,SqL.of dD,?_⟩
 rw[if_neg (by simp)]
 refine⟨⟨_,e.seq hL⟩,fun D2 hD2=>?_⟩
 obtain⟨Pc,hC⟩:∃ Pc:Nat→St→Hp→Prop,Pc=fun j τ H2=>∃ (ns:List V) (z:Option V),H2 D2=some (.lst ns)∧NumsAt K H2 ns ((rs.map Rw.num).take j)∧Same H1 H2∧τ=[z]:=⟨_,rfl⟩
 refine se us Pc ?_ (fun j τ H2 _ h=>by rw[hC] at h; obtain⟨_,_,_,_,e2,_⟩:=h; exact (e.trans e2).seq hL) ?_ ?_
 ·rw[hC]
  exact⟨[],_,fj,.nil,gI hD2 _,rfl⟩
 ·intro j v τ H2 R' hv h next
  rw[hC] at h
  obtain⟨ns,z,dD2,na,e2,rfl⟩:=h
  have lj:=(List.getElem?_eq_some_iff.mp hv).1
  obtain⟨r,hr',hrow⟩:=uH (RowsAt.ts ra (TS.of (e.trans e2))) hv
  obtain⟨p',a',t',rfl,h2',h3',h4'⟩:=id hrow
  have ln:ns.length≤24:=by
   have:=Paired.length na
   rw[this,List.length_take,List.length_map]
   exact Oz47 r24
  trivial
  refine⟨_,h2',_,at0,_,dD2,Nat.lt_of_lt_of_le (m:=64) (by exact Oz46 ln) (by decide),next _ _ ?_⟩
  rw[hC]
  refine⟨ns++[.ref a'],_,fj,?_,pI e2 hD2 _,rfl⟩
  rw[List.take_succ,List.getElem?_map,hr']
  exact wj ⟨a',rfl,(TS.lst dD2).at h3'⟩ (na.ts (TS.lst dD2))
 intro τ H2 h
 rw[hC] at h
 obtain⟨ns,z,dD2,na,e2,rfl⟩:=h
 clear hC Pc
 rw[lu,List.take_of_length_le (by rw[List.length_map]; exact Nat.le_refl _)] at na
 have ln:ns.length=rs.length:=by rw[Paired.length na,List.length_map]
 refine⟨_,rfl,⟨_,SqL.of dD2⟩,fun D3 hD3=>?_⟩
 obtain⟨Pc,hC⟩:∃ Pc:Nat→St→Hp→Prop,Pc=fun j τ H3=>∃ z,H3 D3=some (.lst ((List.replicate j true).map V.bl))∧Same H2 H3∧τ=[some (.ref D2),z]:=⟨_,rfl⟩
 refine se ns Pc ?_ (fun j τ H3 _ h=>by rw[hC] at h; obtain⟨_,_,e3,_⟩:=h; exact SqL.of (e3 _ _ dD2)) ?_ ?_
 ·rw[hC]
  exact⟨_,fj,gI hD3 _,rfl⟩
 ·intro j v τ H3 R' hv h next
  rw[hC] at h
  obtain⟨z,dD3,e3,rfl⟩:=h
  have lj:=(List.getElem?_eq_some_iff.mp hv).1
  have na3:=na.ts (TS.of e3)
  obtain⟨k,hk,a',rfl,h3'⟩:=uH na3 hv
  have mk:=List.mem_of_getElem? hk
  obtain⟨r,mr,rfl⟩:=List.mem_map.mp mk
  trivial
  refine⟨D2,a',ns,rs.map Rw.num,r.num,rfl,SqL.of (e3 _ _ dD2),na3,ok.nd,mk,(ok.len r mr).1,by rw[List.length_map]; exact r24,ok.up r mr,h3',fun H4 S4=>?_⟩
  refine⟨_,S4 _ _ dD3,Nat.lt_of_lt_of_le (m:=64) (by rw[List.length_map,List.length_replicate]; omega) (by decide),next _ _ ?_⟩
  rw[hC]
  exact⟨_,by rw[fj,List.replicate_succ',List.map_append]; rfl,pI (e3.trans S4) hD3 _,rfl⟩
 intro τ H3 h
 rw[hC] at h
 obtain⟨z,dD3,e3,rfl⟩:=h
 refine⟨_,rfl,_,SqL.of dD3,?_⟩
 have:((List.replicate ns.length true).all id)=true:=by simp
 rw[this]
 exact q _ ((e.trans e2).trans e3)
end
end MyK
namespace MyL
open My MyB MyC MyD MyE MyF MyG MyI MyJ MyK PySem L2
noncomputable def top (i:Nat):Stmt:=PySem.Challenge.pw_tariffgate_k43_looked.main.body.getD i (.Pass ⟨0,0,0,0⟩)
abbrev cC:Stmt:=top 49
theorem rh:FnScope ["note","kinds","looks"] ["note","kinds","looks"] (defScope cC):=⟨rfl,rfl,rfl,by decide +kernel,rfl,by decide +kernel,by decide +kernel⟩
theorem pN:Vis (defScope cC) "looks":=by decreasing_trivial
theorem nr:(defScope cC).names.lookup ("len":Str)=some .globalImplicit:=by rfl
def zW (K:PySem.W.Frag) (cs:NC) (C:Addr) (sp:Sp):Prop:=∃ j,j<8∧C=v7 cs j∧sp=yv K cs
theorem Jj {K:PySem.W.Frag} {cs:NC} {H:Hp} {a:Addr} {n:Nt} (O:ObjN K cs H a n):∃ C dx fs,H a=some (.ins C dx fs)∧fs.lookup ("claims":Str)=none∧zW K cs C (yv K cs):=by
 cases n with
 | any=>obtain⟨dx,h⟩:=O; exact⟨_,_,_,h,rfl,0,by decide,rfl,rfl⟩
 | made s=>obtain⟨dx,h⟩:=O; exact⟨_,_,_,h,rfl,1,by decide,rfl,rfl⟩
 | used s=>obtain⟨dx,h⟩:=O; exact⟨_,_,_,h,rfl,2,by decide,rfl,rfl⟩
 | chief s=>obtain⟨dx,h⟩:=O; exact⟨_,_,_,h,rfl,3,by decide,rfl,rfl⟩
 | over k1 k2=>obtain⟨dx,_,_,h,_⟩:=O; exact⟨_,_,_,h,rfl,4,by decide,rfl,rfl⟩
 | both x y=>obtain⟨dx,_,_,h,_⟩:=O; exact⟨_,_,_,h,rfl,5,by decide,rfl,rfl⟩
 | either x y=>obtain⟨dx,_,_,h,_⟩:=O; exact⟨_,_,_,h,rfl,6,by decide,rfl,rfl⟩
 | but x y=>obtain⟨dx,_,_,h,_⟩:=O; exact⟨_,_,_,h,rfl,7,by decide,rfl,rfl⟩
theorem Hs {n:Nat} (a:1≤n) (b:n≤4):∀ r∈LK n,r.length=n∧(∀ x∈r,0≤x)∧MthL.look r=r∧∃ x∈r,0<x:=four (p:=fun n=>∀ r∈LK n,r.length=n∧(∀ x∈r,0≤x)∧MthL.look r=r∧∃ x∈r,0<x) (by decide +kernel) (by decide +kernel) (by decide +kernel) (by decide +kernel) a b
noncomputable def cntL (ks:List Kd2) (n:Nt) (L:List (List Int)):Nat:=(L.filter fun lk=>iS ks lk n).length
structure KdAt (K:PySem.W.Frag) (H:Hp) (kl:Addr) (ks:List Kd2):Prop where
 kx:∃ xs,SqL K H kl xs∧KnA K H xs ks
 pos:1≤ks.length
 le:ks.length≤4
 ok:∀ k∈ks,okKind k
theorem KdAt.same {K:PySem.W.Frag} {H H':Hp} {kl:Addr} {ks:List Kd2} (h:KdAt K H kl ks) (e:Same H H'):KdAt K H' kl ks:=⟨let ⟨xs,a,b⟩:=h.kx; ⟨xs,e.seq a,b.same e⟩,h.pos,h.le,h.ok⟩
theorem KdAt.ground {K:PySem.W.Frag} {H:Hp} {kl lt:Addr} {ks:List Kd2} {lk:List Int} (h:KdAt K H kl ks) (T:SqT K H lt (lk.map V.int)) (len:lk.length=ks.length) (nn:∀ x∈lk,0≤x):Ground K H kl lt ks lk:=⟨h.kx,T,len,h.pos,h.le,h.ok,nn⟩
def xY (K:PySem.W.Frag) (cs:NC):Sp:=fun vs H Q _=>∃ (a kl ll:Addr) (us:List V) (n:Nt) (ks:List Kd2) (L:List (List Int)),vs=[.ref a,.ref kl,.ref ll]∧ObjN K cs H a n∧n.ok∧n.dp≤5∧KdAt K H kl ks∧SqL K H ll us∧Tps K H us L∧L.length≤1000∧(∀ lk∈L,lk.length=ks.length∧∀ x∈lk,0≤x)∧∀ H',Same H H'→Q (.int (cntL ks n L:Nat)) H'
theorem AZ {ks:List Kd2} {n:Nt} {L:List (List Int)} {j:Nat} {lk:List Int} (h:L[j]?=some lk):cntL ks n (L.take (j+1))=cntL ks n (L.take j)+if iS ks lk n=true then 1 else 0:=by
 unfold cntL
 rw[List.take_succ,h,List.filter_append,List.length_append]
 show _+([lk].filter _).length=_
 by_cases e:iS ks lk n=true
 ·rw[if_pos e,List.filter_cons_of_pos (by exact e)]
  rfl
 ·rw[if_neg e,List.filter_cons_of_neg (by exact e)]
  rfl
section
variable {P:Program} {w:World} {K:PySem.W.Frag} {mg:Str→Option Value} {base:Heap} {f:Addr} {fd:FuncData} {cs:NC}
theorem BK (F:Fun K "claimed_of" "claimed_of" cC f fd) (M:Mg mg) (D_claims:∀ C sp,zW K cs C sp→Disp P w K mg base "claims" 9 ["self","kinds","look"] C sp):FnOk P w K mg base CX0 10 f fd ["note","kinds","looks"] (xY K cs):=by
 refine F.ok rh (fun vs H Q E h=>?_) (fun cdv A outer s H vs Q E hr h=>?_)
 ·obtain⟨a,kl,ll,us,n,ks,L,rfl,_⟩:=h
  rfl
 obtain⟨a,kl,ll,us,n,ks,L,rfl,O,okn,dp,kd,hL,tp,l1,lks,q⟩:=h
 have lu:=Tps.len tp
 refine⟨_,(@fS _ _ _ (@jm _ _ _ _ (@ki _ _ _ _ _ _ _ _ _ m9 nr M.m_len qZ (@cg _ _ _ _ _ (@rZ _ _ _ _ _ _ _ _ _ _ _ _ _ _ _ rfl (CompOk.make (N':=["kinds","note","look"]) (ix:=[1,0]) (nl:=1) (by rfl) (fm1 rfl (fm1 rfl fm0)) (by rfl) (by decide +kernel) rfl (by decide +kernel) rfl (And.intro ⟨rfl,.inl rfl,.inl rfl⟩ (And.intro ⟨rfl,.inl rfl,.inl rfl⟩ True.intro))) (@uo _ _ _ _ (@eF _ 2 _ _ rfl pN iy iA)) (fun _ _ _ _ _=>(@pF _ _ 2 _ (show List.Nodup (["kinds","note","look"]:List Str) from by decide) rfl (Or.inl rfl) (by first | exact .inl rfl | exact .inr rfl | assumption))) (fun _ _ _ _ _=>(@wk _ _ _ (@qY _ _ _ (@sF _ _ _ _ _ _ _ _ _ _ _ _ _ _ (@pv _ 1 _ _ (by rfl) (by decreasing_trivial) (by decide) (by decide)) D_claims hr (@cg _ _ _ _ _ (@pv _ 0 _ _ (by rfl) (by decreasing_trivial) (by decide) (by decide)) (@cg _ _ _ _ _ (@pv _ 2 _ _ (by rfl) (by decreasing_trivial) (by decide) (by decide)) (@eY _) (cT rfl)) (cT rfl)) (by decide) (cT rfl) (iT rfl gj) (by rfl)) (rS rfl)))) (fun _ _ _ _ _=>(@pv _ 2 _ _ (by rfl) (by decreasing_trivial) (by decide) (by decide))) (by intro _; rfl)) (@eY _) (cT rfl)) aq ao (cT rfl) gj))),?_⟩
 trivial
 refine⟨⟨_,hL⟩,fun D hD=>?_⟩
 obtain⟨Pc,hC⟩:∃ Pc:Nat→St→Hp→Prop,Pc=fun j τ H1=>∃ (es:List V) (z:Option V),H1 D=some (.lst es)∧es.length=cntL ks n (L.take j)∧Same H H1∧τ=[some (V.ref kl),some (V.ref a),z]:=⟨_,rfl⟩
 refine se us Pc ?_ (fun j τ H1 _ h=>by rw[hC] at h; obtain⟨_,_,_,_,e,_⟩:=h; exact e.seq hL) ?_ ?_
 ·rw[hC]
  exact⟨[],_,fj,rfl,gI hD _,rfl⟩
 ·intro j v τ H1 R' hv h next
  rw[hC] at h
  obtain⟨es,z,dD,le,e,rfl⟩:=h
  have lj:=(List.getElem?_eq_some_iff.mp hv).1
  obtain⟨lk,p,hlk,rfl,T⟩:=Tps.get (Tps.same e tp) hv
  have ok:=lks lk (List.mem_of_getElem? hlk)
  have ct:=AZ (ks:=ks) (n:=n) hlk
  have cl:cntL ks n (L.take j)≤1000:=by
   refine Nat.le_trans (List.length_filter_le _ _) ?_
   rw[List.length_take]
   omega
  have O1:=ObjN.same e O
  obtain⟨C,dx,fs,h1,h2,hD'⟩:=Jj O1
  trivial
  refine⟨C,dx,fs,h1,h2,_,hD',?_⟩
  refine⟨a,kl,p,n,ks,lk,rfl,O1,okn,dp,(kd.same e).ground T ok.1 ok.2,fun H2 S2=>⟨_,rfl,?_⟩⟩
  by_cases hc:iS ks lk n=true
  ·rw[if_pos hc]
   refine⟨_,S2 _ _ dD,Nat.lt_of_lt_of_le (m:=2000) (by omega) (by decide),next _ _ ?_⟩
   rw[hC]
   exact⟨_,_,fj,by rw[List.length_append,le,ct,if_pos hc]; rfl,pI (e.trans S2) hD _,rfl⟩
  ·rw[if_neg hc]
   refine next _ _ ?_
   rw[hC]
   exact⟨es,_,S2 _ _ dD,by rw[le,ct,if_neg hc]; rfl,e.trans S2,rfl⟩
 intro τ H1 h
 rw[hC] at h
 obtain⟨es,z,dD,le,e,rfl⟩:=h
 rw[lu,List.take_length] at le
 refine⟨_,rfl,_,.inl (SqL.of dD),?_⟩
 rw[le]
 exact q _ e
end
end MyL
namespace MyM
open My MyB MyC MyD MyE MyF MyG MyI MyJ MyK MyL PySem L2
noncomputable def top (i:Nat):Stmt:=PySem.Challenge.pw_tariffgate_k43_looked.main.body.getD i (.Pass ⟨0,0,0,0⟩)
noncomputable def inner:Stmt→Nat→Stmt
 | .ClassDef _ _ _ b _ _ _ _ _ _ _,j=>b.getD j (.Pass ⟨0,0,0,0⟩)
 | st,_=>st
theorem ua:(("rule":Str) == ("__debug__":Str))=false:=by decide
theorem ub:(("rule":Str) == ("__classdict__":Str))=false:=by decide
theorem tU:(("kinds_of":Str) == ("__debug__":Str))=false:=by decide
theorem iK:(("all_looks":Str) == ("__debug__":Str))=false:=by decide
theorem tV:(("are_rows":Str) == ("__debug__":Str))=false:=by decide
theorem uD:(("note_of":Str) == ("__debug__":Str))=false:=by decide
theorem rj:(("claimed_of":Str) == ("__debug__":Str))=false:=by decide
noncomputable abbrev aj:Stmt:=inner (top 50) 0
theorem fq:FnScope ["self","kinds","rule","rows","row","looks","number"] ["self","kinds","rule","rows"] (defScope aj):=⟨rfl,rfl,rfl,by decide +kernel,rfl,by decide +kernel,by decide +kernel⟩
theorem aY:Vis (defScope aj) "self":=by decreasing_trivial
theorem rm:Vis (defScope aj) "kinds":=by decreasing_trivial
theorem kz:Vis (defScope aj) "rule":=by decreasing_trivial
theorem gH:Vis (defScope aj) "rows":=by decreasing_trivial
theorem eO:Vis (defScope aj) "row":=by decreasing_trivial
theorem rp:Loc (defScope aj) "row":=by first | exact Or.inl rfl | exact Or.inr rfl
theorem rq:Vis (defScope aj) "looks":=by decreasing_trivial
theorem rA:Loc (defScope aj) "looks":=by first | exact Or.inl rfl | exact Or.inr rfl
theorem kC:Vis (defScope aj) "number":=by decreasing_trivial
theorem rB:Loc (defScope aj) "number":=by first | exact Or.inl rfl | exact Or.inr rfl
theorem jS:(defScope aj).names.lookup ("kinds_of":Str)=some .globalImplicit:=by rfl
theorem jj:(defScope aj).names.lookup ("is_picking":Str)=some .globalImplicit:=by rfl
theorem jT:(defScope aj).names.lookup ("are_rows":Str)=some .globalImplicit:=by rfl
theorem lU:(defScope aj).names.lookup ("sorted":Str)=some .globalImplicit:=by rfl
theorem kO:(defScope aj).names.lookup ("note_of":Str)=some .globalImplicit:=by rfl
theorem jH:(defScope aj).names.lookup ("all_looks":Str)=some .globalImplicit:=by rfl
theorem ow:(defScope aj).names.lookup ("len":Str)=some .globalImplicit:=by rfl
theorem jk:(defScope aj).names.lookup ("claimed_of":Str)=some .globalImplicit:=by rfl
noncomputable abbrev keyN (k:List Int):List Key:=k.map Sum.inl
theorem z4 (k:List Int):(keyN k).map kV=k.map V.int:=by
 rw[List.map_map]
 rfl
theorem keyN_inj {a b:List Int}:keyN a=keyN b↔a=b:=⟨fun h=>List.map_inj_right (fun x y h=>Sum.inl.inj h) |>.mp h,fun h=>by rw[h]⟩
structure TrOk (K:PySem.W.Frag) (cs:NC) (H:Hp) (gl nl pl tl cl:Addr) (ks:List Kd2) (z:Str) (rs:List Rw) (ns:List V) (sk:List (List Int)) (pk tk ck:List (List Key×V)):Prop where
 kd:KdAt K H gl ks
 n:H nl=some (.lst ns)
 na:NumsAt K H ns sk
 p:H pl=some (.dT pk)
 t:H tl=some (.dT tk)
 c:H cl=some (.dT ck)
 perm:sk.Perm (rs.map Rw.num)
 asc:sk.Pairwise (fun a b=>Sru.lexI a b=true)
 p0:valV pk (keyN [])=some (.str z)
 pr:∀ r∈rs,valV pk (keyN r.num)=some (.str r.rule)
 tr:∀ r∈rs,∃ a,valV tk (keyN r.num)=some (.ref a)∧ObjN K cs H a r.note
 cr:∀ r∈rs,valV ck (keyN r.num)=some (.int (cntL ks r.note (LK ks.length):Nat))
noncomputable def Ig (gl nl pl tl cl:Addr):List (Str×V):=[("goods",.ref gl),("numbers",.ref nl),("pickings",.ref pl),("notes",.ref tl),("counts",.ref cl)]
def TreeAt (K:PySem.W.Frag) (cs:NC) (C:Addr) (H:Hp) (x:Addr) (ks:List Kd2) (z:Str) (rs:List Rw):Prop:=∃ dx gl nl pl tl cl ns sk pk tk ck,H x=some (.ins C dx (Ig gl nl pl tl cl))∧TrOk K cs H gl nl pl tl cl ks z rs ns sk pk tk ck
structure TrC (K:PySem.W.Frag) (C:Addr):Prop where
 cl:Cls K C
 n1:NoAttr K C "goods"
 n2:NoAttr K C "numbers"
 n3:NoAttr K C "pickings"
 n4:NoAttr K C "notes"
 n5:NoAttr K C "counts"
def K8 (C:Addr):HO→Prop
 | .dT _=>False
 | .ins C' _ _=>C'≠C
 | _=>True
def ST (C:Addr) (H H':Hp):Prop:=∀ b u,H b=some u→K8 C u→H' b=some u
theorem ST.of {C:Addr} {H H':Hp} (e:Same H H'):ST C H H':=fun b u h _=>e b u h
theorem ST.refl (C:Addr) (H:Hp):ST C H H:=fun b u h _=>h
theorem ST.trans {C:Addr} {H H' H2:Hp} (a:ST C H H') (b:ST C H' H2):ST C H H2:=fun c u h k=>b c u (a c u h k) k
theorem ST.ins {C x:Addr} {H:Hp} {dx:_} {fs:List (Str×V)} {o:HO} (h:H x=some (.ins C dx fs)):ST C H (L2.upd H x o):=fun b u hb k=>by
 rw[gS]
 ·exact hb
 ·rintro rfl
  rw[h] at hb
  cases hb
  exact k rfl
theorem ST.dT {C x:Addr} {H:Hp} {kvs:List (List Key×V)} {o:HO} (h:H x=some (.dT kvs)):ST C H (L2.upd H x o):=fun b u hb k=>by
 rw[gS]
 ·exact hb
 ·rintro rfl
  rw[h] at hb
  cases hb
  exact k
theorem ST.lst {C x:Addr} {H H':Hp} {xs:List V} (e:ST C H H') (h:H x=some (.lst xs)):H' x=some (.lst xs):=e _ _ h trivial
theorem ST.ts {C:Addr} {H H':Hp} (e:ST C H H'):TS H H':=fun b u h k=>e b u h (by
 rcases k with ⟨ys,rfl⟩ | ⟨ob,ys,rfl⟩ <;> exact trivial)
theorem ST.seq {K:PySem.W.Frag} {C a:Addr} {H H':Hp} {xs:List V} (e:ST C H H') (h:SqL K H a xs):SqL K H' a xs:=by
 rcases h with (h | ⟨o,h⟩) | h
 ·exact .inl (.inl (e _ _ h trivial))
 ·exact .inl (.inr ⟨o,e _ _ h trivial⟩)
 ·exact .inr h
theorem ObjN.st {K:PySem.W.Frag} {cs:NC} {C:Addr} {H H':Hp} (ne:∀ j,j<8→v7 cs j≠C) (e:ST C H H'):∀ {n:Nt} {a:Addr},ObjN K cs H a n→ObjN K cs H' a n
 | .any,_,⟨dx,h⟩=>⟨dx,e _ _ h (ne 0 (by decide))⟩
 | .made _,_,⟨dx,h⟩=>⟨dx,e _ _ h (ne 1 (by decide))⟩
 | .used _,_,⟨dx,h⟩=>⟨dx,e _ _ h (ne 2 (by decide))⟩
 | .chief _,_,⟨dx,h⟩=>⟨dx,e _ _ h (ne 3 (by decide))⟩
 | .over _ _,_,⟨dx,p1,p2,h,t1,t2⟩=>⟨dx,p1,p2,e _ _ h (ne 4 (by decide)),e.ts.tup t1,e.ts.tup t2⟩
 | .both _ _,_,⟨dx,p1,p2,h,t1,t2⟩=>⟨dx,p1,p2,e _ _ h (ne 5 (by decide)),ObjN.st ne e t1,ObjN.st ne e t2⟩
 | .either _ _,_,⟨dx,p1,p2,h,t1,t2⟩=>⟨dx,p1,p2,e _ _ h (ne 6 (by decide)),ObjN.st ne e t1,ObjN.st ne e t2⟩
 | .but _ _,_,⟨dx,p1,p2,h,t1,t2⟩=>⟨dx,p1,p2,e _ _ h (ne 7 (by decide)),ObjN.st ne e t1,ObjN.st ne e t2⟩
theorem KnA.ts {K:PySem.W.Frag} {H H':Hp} {xs:List V} {ks:List Kd2} (h:KnA K H xs ks) (e:TS H H'):KnA K H' xs ks:=by
 induction h with
 | nil=>exact .nil
 | cons a _ ih=>exact .cons (e.tup a) ih
theorem KdAt.st {K:PySem.W.Frag} {C:Addr} {H H':Hp} {kl:Addr} {ks:List Kd2} (h:KdAt K H kl ks) (e:ST C H H'):KdAt K H' kl ks:=⟨let ⟨xs,a,b⟩:=h.kx; ⟨xs,e.seq a,KnA.ts b e.ts⟩,h.pos,h.le,h.ok⟩
theorem GZ {K:PySem.W.Frag} {H H':Hp} (e:TS H H') {vs:List V} {L:List (List Int)} (h:Tps K H vs L):Tps K H' vs L:=Paired.mapP h fun v r=>by rintro⟨p,a,b⟩; exact⟨p,a,e.tup b⟩
theorem range_getD {α:Type} (l:List α) (d:α):(List.range l.length).map (fun i=>l.getD i d)=l:=by
 refine List.ext_getElem (by simp) fun i h1 h2=>?_
 simp [List.getD,h2]
theorem Bk {K:PySem.W.Frag} {H:Hp} {ns:List V} {ks:List (List Int)} (h:NumsAt K H ns ks):∀ out:List Nat,(∀ i∈out,i<ks.length)→NumsAt K H (out.map fun i=>ns.getD i .non) (out.map fun i=>ks.getD i [])
 | [],_=>.nil
 | i::out,hi=>by
  refine .cons ?_ (Bk h out fun j hj=>hi j (.tail _ hj))
  have li:=hi i (.head _)
  have ln:ns.length=ks.length:=Paired.length h
  obtain⟨x,hx⟩:∃ x,ns[i]?=some x:=⟨_,List.getElem?_eq_getElem (by exact Oz24 li ln)⟩
  obtain⟨k,hk,a,e,hh⟩:=uH h hx
  refine⟨a,?_,?_⟩
  ·show ns.getD i .non=_
   simp only [List.getD,hx,Option.getD_some]
   exact e
  ·show H a=some (.tup ((ks.getD i []).map V.int))
   rw[show ks.getD i []=k by simp only [List.getD,hk,Option.getD_some]]
   exact hh
theorem J1 {rs:List Rw} {i:Nat} {r r':Rw} (nd:(rs.map Rw.num).Nodup) (h:rs[i]?=some r) (h':r'∈rs.take i):r'.num≠r.num:=by
 obtain⟨j,hj,e⟩:=List.getElem_of_mem h'
 rw[List.length_take] at hj
 have li:=(List.getElem?_eq_some_iff.mp h).1
 have hj':rs[j]?=some r':=by
  rw[List.getElem_take] at e
  rw[List.getElem?_eq_getElem (by exact Oz62 hj),e]
 intro en
 have:=(List.getElem?_inj (l:=rs.map Rw.num) (i:=j) (j:=i) (by rw[List.length_map]; exact Oz62 hj) nd).mp (by
  rw[List.getElem?_map,List.getElem?_map,h,hj']
  show some r'.num=some r.num
  rw[en])
 omega
theorem yL {α:Type} {l:List α} {i:Nat} {a b:α} (h:l[i]?=some a) (hb:b∈l.take (i+1)):b∈l.take i∨b=a:=by
 rw[List.take_succ,h] at hb
 rcases List.mem_append.mp hb with hb | hb
 ·exact .inl hb
 ·exact .inr (by simpa using hb)
def xq (K:PySem.W.Frag) (cs:NC) (C:Addr):Sp:=fun vs H Q _=>∃ (x kl rl:Addr) (dx:_) (z:Str) (kx us:List V) (ks:List Kd2) (rs:List Rw),vs=[.ref x,.ref kl,.str z,.ref rl]∧H x=some (.ins C dx [])∧SqL K H kl kx∧KnA K H kx ks∧KsOk ks∧Aa z∧SqL K H rl us∧RowsAt K H us rs∧RsOk 5 rs∧1≤rs.length∧rs.length≤24 ∧
 ∀ H',TreeAt K cs C H' x ks z rs→(∀ b u,b≠x→H b=some u→H' b=some u)→Q .non H'
section
variable {P:Program} {w:World} {K:PySem.W.Frag} {mg:Str→Option Value} {base:Heap} {f:Addr} {fd:FuncData} {cs:NC} {C:Addr}
theorem CW (F:Fun K "__init__" "Tree.__init__" aj f fd) (M:Mg mg) (tc:TrC K C) (ne:∀ j,j<8→v7 cs j≠C) (jU:Cal P w K mg base CX0 "kinds_of" 4 ["some"] (zJ K)) (dy:Cal P w K mg base CX0 "is_picking" 1 ["thing"] (xT K)) (jV:Cal P w K mg base CX0 "are_rows" 5 ["thing"] (yN K)) (lV:Cal P w K mg base CX0 "note_of" 11 ["told"] (zN K cs)) (dQ:Cal P w K mg base CX0 "all_looks" 4 ["many"] (xA K)) (iL:Cal P w K mg base CX0 "claimed_of" 10 ["note","kinds","looks"] (xY K cs)):FnOk P w K mg base CX0 12 f fd ["self","kinds","rule","rows"] (xq K cs C):=by
 refine F.ok fq (fun vs H Q E h=>?_) (fun cdv A outer s H vs Q E hr h=>?_)
 ·obtain⟨x,kl,rl,dx,z,kx,us,ks,rs,rfl,_⟩:=h
  rfl
 obtain⟨x,kl,rl,dx,z,kx,us,ks,rs,rfl,hx,LK',KA,kok,okz,hR,ra,rok,r1,r24,q⟩:=h
 refine⟨_,(@fz _ _ _ _ _ (@vI _ _ _ _ _ _ _ _ (@eF _ 0 _ _ rfl aY ax ay) (@gY _ _ _ _ _ _ _ _ _ _ _ jU hr jS (@cg _ _ _ _ _ (@eF _ 1 _ _ rfl rm aJ aK) (@eY _) (cT rfl)) (by decide) tU (cT rfl) gj) (mj rfl)) (@fz _ _ _ _ _ (@pG _ _ _ _ _ _ _ _ (@tw _ _ _ _ (@qY _ _ _ (@gY _ _ _ _ _ _ _ _ _ _ _ dy hr jj (@cg _ _ _ _ _ (@eF _ 2 _ _ rfl kz ua ub) (@eY _) (cT rfl)) (by decide) gG (cT rfl) gj) (rS rfl))) (@fS _ _ _ (@wc _ _)) (@mO _)) (@fz _ _ _ _ _ (@pG _ _ _ _ _ _ _ _ (@tw _ _ _ _ (@qY _ _ _ (@gY _ _ _ _ _ _ _ _ _ _ _ jV hr jT (@cg _ _ _ _ _ (@eF _ 3 _ _ rfl gH im io) (@eY _) (cT rfl)) (by decide) tV (cT rfl) gj) (rS rfl))) (@fS _ _ _ (@wc _ _)) (@mO _)) (@fz _ _ _ _ _ (@vI _ _ _ _ _ _ _ _ (@eF _ 0 _ _ rfl aY ax ay) (@ki _ _ _ _ _ _ _ _ _ (CD rfl) lU M.m_sorted CZ (@cg _ _ _ _ _ (@rZ _ _ _ _ _ _ _ _ _ _ _ _ _ _ _ rfl (CompOk.make (N':=["row"]) (ix:=[]) (nl:=1) (by rfl) fm0 (by rfl) (by decide +kernel) rfl (by decide +kernel) rfl True.intro) (@uo _ _ _ _ (@eF _ 3 _ _ rfl gH im io)) (fun _ _ _ _ _=>(@pF _ _ 0 _ (show List.Nodup (["row"]:List Str) from by decide) rfl (Or.inl rfl) (by first | exact .inl rfl | exact .inr rfl | assumption))) (fun _ _ _ _ _=>(@uU _)) (fun _ _ _ _ _=>(@kZ _ _ _ _ _ _ _ (vq (K:=K) rfl) (@pv _ 0 _ _ (by rfl) (by decreasing_trivial) (by decide) (by decide)) (@ff _ _ _ _) (fun _ _=>rfl))) (by intro _; rfl)) (@eY _) (cT rfl)) pV pU (cT rfl) gj) (mj rfl)) (@fz _ _ _ _ _ (@vI _ _ _ _ _ _ _ _ (@eF _ 0 _ _ rfl aY ax ay) (@GQ _ _ _ _ _ _ (zl hr) (@nP _ _ _ _ _ (@eY _)) (@eF _ 2 _ _ rfl kz ua ub)) (mj rfl)) (@fz _ _ _ _ _ (@vI _ _ _ _ _ _ _ _ (@eF _ 0 _ _ rfl aY ax ay) (@Ct _ _) (mj rfl)) (@fz _ _ _ _ _ (@vZ _ _ _ _ _ _ _ _ PassesOwn.never rfl (@uo _ _ _ _ (@eF _ 3 _ _ rfl gH im io)) (@pF _ _ 4 _ fq.nd rfl rp (.inl rfl)) (@fz _ _ _ _ _ (@Ax _ _ _ _ _ _ _ _ _ (zl hr) (@tY _ _ _ _ _ (@eF _ 0 _ _ rfl aY ax ay) (by rfl)) (@kZ _ _ _ _ _ _ _ (vq (K:=K) rfl) (@eF _ 4 _ _ rfl eO jo jp) (@ff _ _ _ _) (fun _ _=>rfl)) (@kZ _ _ _ _ _ _ _ (@ix_tup _) (@eF _ 4 _ _ rfl eO jo jp) (@ff _ _ _ _) (fun _ _=>rfl)) (mj rfl)) (@fS _ _ _ (@Ax _ _ _ _ _ _ _ _ _ (zl hr) (@tY _ _ _ _ _ (@eF _ 0 _ _ rfl aY ax ay) (by rfl)) (@kZ _ _ _ _ _ _ _ (vq (K:=K) rfl) (@eF _ 4 _ _ rfl eO jo jp) (@ff _ _ _ _) (fun _ _=>rfl)) (@gY _ _ _ _ _ _ _ _ _ _ _ lV hr kO (@cg _ _ _ _ _ (@kZ _ _ _ _ _ _ _ (@ix_tup _) (@eF _ 4 _ _ rfl eO jo jp) (@ff _ _ _ _) (fun _ _=>rfl)) (@eY _) (cT rfl)) (by decide) uD (cT rfl) gj) (mj rfl)))) (by intro _; rfl)) (@fz _ _ _ _ _ (@ni _ _ 5 _ _ _ _ fq.nd rfl rA (@gY _ _ _ _ _ _ _ _ _ _ _ dQ hr jH (@cg _ _ _ _ _ (@ki _ _ _ _ _ _ _ _ _ m9 ow M.m_len qZ (@cg _ _ _ _ _ (@tY _ _ _ _ _ (@eF _ 0 _ _ rfl aY ax ay) (by rfl)) (@eY _) (cT rfl)) aq ao (cT rfl) gj) (@eY _) (cT rfl)) (by decide) iK (cT rfl) gj) (mj rfl) (.inl rfl)) (@fz _ _ _ _ _ (@vI _ _ _ _ _ _ _ _ (@eF _ 0 _ _ rfl aY ax ay) (@Ct _ _) (mj rfl)) (@fS _ _ _ (@vZ _ _ _ _ _ _ _ _ PassesOwn.never rfl (@uo _ _ _ _ (@tY _ _ _ _ _ (@eF _ 0 _ _ rfl aY ax ay) (by rfl))) (@pF _ _ 6 _ fq.nd rfl rB (.inl rfl)) (@fS _ _ _ (@Ax _ _ _ _ _ _ _ _ _ (zl hr) (@tY _ _ _ _ _ (@eF _ 0 _ _ rfl aY ax ay) (by rfl)) (@eF _ 6 _ _ rfl kC dz dA) (@gY _ _ _ _ _ _ _ _ _ _ _ iL hr jk (@cg _ _ _ _ _ (@Eh _ _ _ _ _ _ (zl hr) (@tY _ _ _ _ _ (@eF _ 0 _ _ rfl aY ax ay) (by rfl)) (@eF _ 6 _ _ rfl kC dz dA) (fun _ _=>rfl)) (@cg _ _ _ _ _ (@tY _ _ _ _ _ (@eF _ 0 _ _ rfl aY ax ay) (by rfl)) (@cg _ _ _ _ _ (@eF _ 5 _ _ rfl rq iy iA) (@eY _) (cT rfl)) (cT rfl)) (cT rfl)) (by decide) rj (cT rfl) (iT rfl (iT rfl gj))) (mj rfl))) (by intro _; rfl)))))))))))),?_⟩
 refine rP fun tl htl=>?_
 trivial
 have lkx:kx.length=ks.length:=KA.length
 have k1:=kok.l1
 have k4:=kok.l4
 refine⟨kl,kx,ks,rfl,LK',by have:=KindsV.good LK' (by omega) (by omega) KA kok.name; rwa [decide_eq_true kok.nd] at this,fun gl H1 S1 hgl dgl=>?_⟩
 have hx1:=S1 _ _ hx
 refine⟨C,dx,[],hx1,tc.cl,tc.n1,by decide,?_⟩
 obtain⟨H2,g2,E2,X2⟩:∃ H2,H2=upd H1 x (.ins C dx (vh "goods" (.ref gl) []))∧ST C H1 H2∧H2 x=some (.ins C dx [("goods",.ref gl)]):=⟨_,rfl,ST.ins hx1,fj⟩
 have g2':H2=upd H1 x (.ins C dx (vh (Str.ofString "goods") (.ref gl) [])):=g2
 rw[← g2']
 have B2:∀ b u,b≠x→H b=some u→H2 b=some u:=fun b u hb h=>by rw[g2,gS hb]; exact S1 _ _ h
 clear g2 g2'
 have E02:ST C H H2:=(ST.of S1).trans E2
 show tl _ _ _
 rw[htl]
 clear htl tl
 refine rP fun tl htl=>?_
 trivial
 refine⟨z,rfl,okz,fun H3 S3=>⟨_,rfl,?_⟩⟩
 rw[if_neg (by decide)]
 show tl _ _ _
 rw[htl]
 clear htl tl
 refine rP fun tl htl=>?_
 trivial
 have E03:=E02.trans (ST.of S3)
 refine⟨rl,us,rs,rfl,E03.seq hR,RowsAt.ts ra E03.ts,rok,r1,r24,fun H4 S4=>⟨_,rfl,?_⟩⟩
 rw[if_neg (by decide)]
 show tl _ _ _
 rw[htl]
 clear htl tl
 refine rP fun tl htl=>?_
 trivial
 have E04:=E03.trans (ST.of S4)
 have hR4:=E04.seq hR
 have ra4:=RowsAt.ts ra E04.ts
 have lu:us.length=rs.length:=Paired.length ra
 have X4:=S4 _ _ (S3 _ _ X2)
 refine⟨⟨_,hR4⟩,fun D hD=>?_⟩
 obtain⟨Pc,hC⟩:∃ Pc:Nat→St→Hp→Prop,Pc=fun j τ H5=>∃ (ns:List V) (z:Option V),H5 D=some (.lst ns)∧NumsAt K H5 ns ((rs.map Rw.num).take j)∧Same H4 H5∧τ=[z]:=⟨_,rfl⟩
 refine se us Pc ?_ (fun j τ H5 _ h=>by rw[hC] at h; obtain⟨_,_,_,_,e2,_⟩:=h; exact e2.seq hR4) ?_ ?_
 ·rw[hC]
  exact⟨[],_,fj,.nil,gI hD _,rfl⟩
 ·intro j v τ H5 R' hv h next
  rw[hC] at h
  obtain⟨ns,z',dD2,na,e2,rfl⟩:=h
  have lj:=(List.getElem?_eq_some_iff.mp hv).1
  obtain⟨r,hr',hrow⟩:=uH (RowsAt.ts ra4 (TS.of e2)) hv
  obtain⟨p',a',t',rfl,h2',h3',h4'⟩:=id hrow
  have ln:ns.length≤24:=by
   have:=Paired.length na
   rw[this,List.length_take,List.length_map]
   exact Oz47 r24
  trivial
  refine⟨_,h2',_,at0,_,dD2,Nat.lt_of_lt_of_le (m:=64) (by exact Oz46 ln) (by decide),next _ _ ?_⟩
  rw[hC]
  refine⟨ns++[.ref a'],_,fj,?_,pI e2 hD _,rfl⟩
  rw[List.take_succ,List.getElem?_map,hr']
  exact wj ⟨a',rfl,(TS.lst dD2).at h3'⟩ (na.ts (TS.lst dD2))
 intro τ H5 h
 rw[hC] at h
 obtain⟨ns,z',dD5,na,S5,rfl⟩:=h
 clear hC Pc
 rw[lu,List.take_of_length_le (by rw[List.length_map]; exact Nat.le_refl _)] at na
 have ln:ns.length=(rs.map Rw.num).length:=Paired.length na
 refine⟨D,rfl,ns,SqL.of dD5,rs.map Rw.num,⟨ln,fun i v k hv hk=>?_⟩,rok.nd,(fun k hk=>?_),by rw[List.length_map]; exact Oz46 r24,fun nl out hnl hp hs=>?_⟩
 ·obtain⟨k',hk',a',e,h'⟩:=uH na hv
  rw[hk] at hk'
  cases hk'
  exact⟨a',e,SqT.of h'⟩
 ·obtain⟨r,mr,rfl⟩:=List.mem_map.mp hk
  intro e
  have:=(rok.len r mr).1
  rw[e] at this
  exact absurd this (by decide)
 obtain⟨sk,hsk⟩:∃ sk,sk=out.map fun i=>(rs.map Rw.num).getD i []:=⟨_,rfl⟩
 obtain⟨sn,hsn⟩:∃ sn,sn=out.map fun i=>ns.getD i .non:=⟨_,rfl⟩
 have sna:NumsAt K H5 sn sk:=by
  rw[hsk,hsn]
  exact Bk na out fun i hi=>List.mem_range.mp (hp.mem_iff.mp hi)
 have perm:sk.Perm (rs.map Rw.num):=by
  rw[hsk]
  have:=hp.map fun i=>(rs.map Rw.num).getD i []
  rwa [range_getD] at this
 rw[← hsk] at hs
 rw[← hsn]
 obtain⟨H6,g6,S6,L6⟩:∃ H6,H6=upd H5 nl (.lst sn)∧Same H5 H6∧H6 nl=some (.lst sn):=⟨_,rfl,gI hnl _,fj⟩
 rw[← g6]
 clear g6
 have S46:=S5.trans S6
 have X6:=S46 _ _ X4
 refine⟨C,dx,_,X6,tc.cl,tc.n2,show 1<1000 by decide,?_⟩
 obtain⟨H7,g7,E7,X7⟩:∃ H7,H7=upd H6 x (.ins C dx (vh (Str.ofString "numbers") (.ref nl) [("goods",.ref gl)]))∧ST C H6 H7∧H7 x=some (.ins C dx [("goods",.ref gl),("numbers",.ref nl)]):=⟨_,rfl,ST.ins X6,fj⟩
 rw[← g7]
 have B7:∀ b u,b≠x→H b=some u→H7 b=some u:=fun b u hb h=>by rw[g7,gS hb]; exact S46 _ _ (S4 _ _ (S3 _ _ (B2 b u hb h)))
 clear g7
 have E47:ST C H4 H7:=(ST.of S46).trans E7
 have E17:ST C H1 H7:=E2.trans (((ST.of S3).trans (ST.of S4)).trans E47)
 show tl _ _ _
 rw[htl]
 clear htl tl
 refine rP fun tl htl=>?_
 trivial
 intro pl hpl
 refine⟨nW,fun p1 hp1=>?_⟩
 have plp:pl≠p1:=fun z=>by rw[← z,fj] at hp1; cases hp1
 have hp1':H7 p1=none:=by rw[gS (Ne.symm plp)] at hp1; exact hp1
 have plx:pl≠x:=fun z=>by rw[z,X7] at hpl; cases hpl
 obtain⟨H8,g8,S8,P8⟩:∃ H8,H8=upd (upd (upd H7 pl (.dT [])) p1 (.tup [])) pl (.dT [(keyN [],.str z)])∧Same H7 H8∧H8 pl=some (.dT [(keyN [],.str z)]):=⟨_,rfl,fun b u h=>by
  rw[gS (kB h hpl),gS (kB h hp1'),gS (kB h hpl)]
  exact h,fj⟩
 refine⟨keyN [],fj,by rw[gS plp,fj],?_⟩
 rw[← g8]
 clear g8
 have X8:=S8 _ _ X7
 refine⟨C,dx,_,X8,tc.cl,tc.n3,show 2<1000 by decide,?_⟩
 obtain⟨H9,g9,E9,X9⟩:∃ H9,H9=upd H8 x (.ins C dx (vh (Str.ofString "pickings") (.ref pl) [("goods",.ref gl),("numbers",.ref nl)]))∧ST C H8 H9∧H9 x=some (.ins C dx [("goods",.ref gl),("numbers",.ref nl),("pickings",.ref pl)]):=⟨_,rfl,ST.ins X8,fj⟩
 rw[← g9]
 have B9:∀ b u,b≠x→H b=some u→H9 b=some u:=fun b u hb h=>by rw[g9,gS hb]; exact S8 _ _ (B7 b u hb h)
 have P9:H9 pl=some (.dT [(keyN [],.str z)]):=by rw[g9,gS plx]; exact P8
 clear g9
 have E19:ST C H1 H9:=E17.trans ((ST.of S8).trans E9)
 show tl _ _ _
 rw[htl]
 clear htl tl
 refine rP fun tl htl=>?_
 trivial
 intro tl' htl'
 have tlx:tl'≠x:=fun z=>by rw[z,X9] at htl'; cases htl'
 have tlp:tl'≠pl:=fun z=>by rw[z,P9] at htl'; cases htl'
 obtain⟨Ha,ga,Sa,Ta⟩:∃ Ha,Ha=upd H9 tl' (.dT [])∧Same H9 Ha∧Ha tl'=some (.dT []):=⟨_,rfl,gI htl' _,fj⟩
 rw[← ga]
 clear ga
 have Xa:=Sa _ _ X9
 refine⟨C,dx,_,Xa,tc.cl,tc.n4,show 3<1000 by decide,?_⟩
 obtain⟨Hb,gb,Eb,Xb⟩:∃ Hb,Hb=upd Ha x (.ins C dx (vh (Str.ofString "notes") (.ref tl') [("goods",.ref gl),("numbers",.ref nl),("pickings",.ref pl)]))∧ST C Ha Hb∧Hb x=some (.ins C dx [("goods",.ref gl),("numbers",.ref nl),("pickings",.ref pl),("notes",.ref tl')]):=⟨_,rfl,ST.ins Xa,fj⟩
 rw[← gb]
 have Bb:∀ b u,b≠x→H b=some u→Hb b=some u:=fun b u hb h=>by rw[gb,gS hb]; exact Sa _ _ (B9 b u hb h)
 have Pb:Hb pl=some (.dT [(keyN [],.str z)]):=by rw[gb,gS plx]; exact Sa _ _ P9
 have Tb:Hb tl'=some (.dT []):=by rw[gb,gS tlx]; exact Ta
 clear gb
 have E1b:ST C H1 Hb:=E19.trans ((ST.of Sa).trans Eb)
 have E0b:ST C H Hb:=(ST.of S1).trans E1b
 show tl _ _ _
 rw[htl]
 clear htl tl
 refine rP fun tl htl=>?_
 trivial
 have npl:H pl=none:=by
  cases h:H pl with
  | none=>rfl
  | some u=>rw[B7 pl u plx h] at hpl; cases hpl
 have ntl:H tl'=none:=by
  cases h:H tl' with
  | none=>rfl
  | some u=>rw[B9 tl' u tlx h] at htl'; cases htl'
 have hRb:=E0b.seq hR
 have rab:=RowsAt.ts ra E0b.ts
 refine⟨⟨_,hRb⟩,?_⟩
 obtain⟨Pv,hP⟩:∃ Pv:Nat→St→Hp→Prop,Pv=fun i σ H'=>∃ (pk tk:List (List Key×V)) (y4:Option V),H' x=some (.ins C dx [("goods",.ref gl),("numbers",.ref nl),("pickings",.ref pl),("notes",.ref tl')])∧H' pl=some (.dT pk)∧H' tl'=some (.dT tk)∧pk.length≤i+1∧tk.length≤i∧valV pk (keyN [])=some (.str z)∧(∀ r∈rs.take i,valV pk (keyN r.num)=some (.str r.rule)∧∃ a,valV tk (keyN r.num)=some (.ref a)∧ObjN K cs H' a r.note)∧ST C Hb H'∧(∀ b u,b≠x→H b=some u→H' b=some u)∧σ=[some (V.ref x),some (V.ref kl),some (V.str z),some (V.ref rl),y4,none,none]:=⟨_,rfl⟩
 refine wX us Pv ?_ (fun i σ H' _ h=>by rw[hP] at h; obtain⟨_,_,_,_,_,_,_,_,_,_,e,_⟩:=h; exact e.seq hRb) ?_ ?_
 ·rw[hP]
  exact⟨_,_,_,Xb,Pb,Tb,Nat.le_refl _,Nat.le_refl _,by rw[uN rfl],(fun r h=>by cases h),ST.refl _ _,Bb,rfl⟩
 ·intro i v σ H' hv h
  rw[hP] at h
  obtain⟨pk,tk,y4,X',P',T',lp,lt,v0,vr,e,B,rfl⟩:=h
  have li:=(List.getElem?_eq_some_iff.mp hv).1
  obtain⟨r,hr',hrow⟩:=uH (RowsAt.ts rab e.ts) hv
  obtain⟨p',a',t',rfl,h2',h3',h4'⟩:=id hrow
  have mr:=List.mem_of_getElem? hr'
  have rn:∀ {k:List Int},keyN k=keyN r.num↔k=r.num:=keyN_inj
  have r0:([]:List Int)≠r.num:=fun z=>by
   have:=(rok.len r mr).1
   rw[← z] at this
   exact absurd this (by decide)
  have hk1:H' a'=some (.tup ((keyN r.num).map kV)):=by rw[z4]; exact h3'
  have okr:=rok.ok r mr
  trivial
  refine⟨_,h2',_,at2,C,dx,_,X',tc.cl,tc.n3,_,rfl,_,h2',_,at0,pl,rfl,_,DPut.t P' hk1 (Nat.lt_of_lt_of_le (m:=64) (by omega) (by decide)),?_⟩
  obtain⟨Hd,gd,Ed,Pd⟩:∃ Hd,Hd=upd H' pl (.dT (putK pk (keyN r.num) (.str r.rule)))∧ST C H' Hd∧Hd pl=some (.dT (putK pk (keyN r.num) (.str r.rule))):=⟨_,rfl,ST.dT P',fj⟩
  rw[← gd]
  have Xd:Hd x=some (.ins C dx [("goods",.ref gl),("numbers",.ref nl),("pickings",.ref pl),("notes",.ref tl')]):=by rw[gd,gS (Ne.symm plx)]; exact X'
  have Td:Hd tl'=some (.dT tk):=by rw[gd,gS tlp]; exact T'
  have Bd:∀ b u,b≠x→H b=some u→Hd b=some u:=fun b u hb h=>by rw[gd,gS (kB h npl)]; exact B b u hb h
  clear gd
  refine⟨_,Ed.ts.tup h2',_,at1,t',r.note,rfl,vR Ed.ts h4',okr.1,by omega,fun na' He Se Oe=>?_⟩
  have EHe:=Ed.trans (ST.of Se)
  have hk2:He a'=some (.tup ((keyN r.num).map kV)):=EHe.ts.at hk1
  refine⟨C,dx,_,Se _ _ Xd,tc.cl,tc.n4,_,rfl,_,EHe.ts.tup h2',_,at0,tl',rfl,_,DPut.t (Se _ _ Td) hk2 (Nat.lt_of_lt_of_le (m:=64) (by omega) (by decide)),?_⟩
  have Te:=Se _ _ Td
  have Ef:ST C He (upd He tl' (.dT (putK tk (keyN r.num) (.ref na')))):=ST.dT Te
  rw[hP]
  refine⟨putK pk (keyN r.num) (.str r.rule),putK tk (keyN r.num) (.ref na'),_,by rw[gS (Ne.symm tlx)]; exact Se _ _ Xd,by rw[gS (Ne.symm tlp)]; exact Se _ _ Pd,fj,by have:=vX pk (keyN r.num) (.str r.rule); omega,by have:=vX tk (keyN r.num) (.ref na'); exact Oz52 lt this,?_,fun r2 hr2=>?_,(e.trans EHe).trans Ef,fun b u hb h=>?_,rfl⟩
  ·rw[yK,if_neg (fun z=>r0 (rn.mp z))]
   exact v0
  ·rw[yK,yK]
   rcases yL hr' hr2 with h | rfl
   ·have ne2:¬ keyN r2.num=keyN r.num:=fun z=>J1 rok.nd hr' h (rn.mp z)
    rw[if_neg ne2,if_neg ne2]
    obtain⟨q1,a2,q2,q3⟩:=vr r2 h
    exact⟨q1,a2,q2,ObjN.st ne (EHe.trans Ef) q3⟩
   ·rw[if_pos rfl,if_pos rfl]
    exact⟨rfl,na',rfl,ObjN.st ne Ef Oe⟩
  ·rw[gS (kB h ntl)]
   exact Se _ _ (Bd b u hb h)
 intro σ Hc h
 rw[hP] at h
 obtain⟨pk,tk,y4,Xc,Pc,Tc,lp,lt,v0,vr,Ec,Bc,rfl⟩:=h
 clear hP Pv
 show tl _ _ _
 rw[htl]
 clear htl tl
 refine rP fun tl htl=>?_
 trivial
 rw[lu,List.take_length] at vr
 have E1c:=E1b.trans Ec
 have dgc:=E1c.lst dgl
 refine⟨C,dx,_,Xc,tc.cl,tc.n1,_,rfl,gl,rfl,_,.inl (SqL.of dgc),?_⟩
 rw[lkx]
 refine⟨ks.length,rfl,k1,k4,fun ll lus Hd Sd hll dll tps=>?_⟩
 show tl _ _ _
 rw[htl]
 clear htl tl
 refine rP fun tl htl=>?_
 trivial
 intro cl hcl
 have Xd:=Sd _ _ Xc
 have Pd:=Sd _ _ Pc
 have Td:=Sd _ _ Tc
 have clx:cl≠x:=fun z=>by rw[z,Xd] at hcl; cases hcl
 have clp:cl≠pl:=fun z=>by rw[z,Pd] at hcl; cases hcl
 have clt:cl≠tl':=fun z=>by rw[z,Td] at hcl; cases hcl
 obtain⟨He,ge,Se,Ce⟩:∃ He,He=upd Hd cl (.dT [])∧Same Hd He∧He cl=some (.dT []):=⟨_,rfl,gI hcl _,fj⟩
 rw[← ge]
 clear ge
 have Xe:=Se _ _ Xd
 refine⟨C,dx,_,Xe,tc.cl,tc.n5,show 4<1000 by decide,?_⟩
 obtain⟨Hf,gf,Ef,Xf⟩:∃ Hf,Hf=upd He x (.ins C dx (vh (Str.ofString "counts") (.ref cl) [("goods",.ref gl),("numbers",.ref nl),("pickings",.ref pl),("notes",.ref tl')]))∧ST C He Hf∧Hf x=some (.ins C dx (Ig gl nl pl tl' cl)):=⟨_,rfl,ST.ins Xe,fj⟩
 rw[← gf]
 have Bf:∀ b u,b≠x→H b=some u→Hf b=some u:=fun b u hb h=>by rw[gf,gS hb]; exact Se _ _ (Sd _ _ (Bc b u hb h))
 have Pf:Hf pl=some (.dT pk):=by rw[gf,gS plx]; exact Se _ _ Pd
 have Tf:Hf tl'=some (.dT tk):=by rw[gf,gS tlx]; exact Se _ _ Td
 have Cf:Hf cl=some (.dT []):=by rw[gf,gS clx]; exact Ce
 clear gf
 have Ecf:ST C Hc Hf:=((ST.of Sd).trans (ST.of Se)).trans Ef
 have ncl:H cl=none:=by
  cases h:H cl with
  | none=>rfl
  | some u=>rw[Sd _ _ (Bc cl u clx h)] at hcl; cases hcl
 show tl _ _ _
 rw[htl]
 clear htl tl
 trivial
 have E5f:ST C H5 Hf:=((((((ST.of S6).trans E7).trans ((ST.of S8).trans E9)).trans ((ST.of Sa).trans Eb)).trans Ec).trans Ecf)
 have E6f:ST C H6 Hf:=(((E7.trans ((ST.of S8).trans E9)).trans ((ST.of Sa).trans Eb)).trans Ec).trans Ecf
 have dnf:=E6f.lst L6
 have naf:NumsAt K Hf sn sk:=sna.ts E5f.ts
 have Edf:ST C Hd Hf:=(ST.of Se).trans Ef
 have dlf:=Edf.lst dll
 have tpf:Tps K Hf lus (LK ks.length):=GZ Edf.ts tps
 have dgf:=Ecf.lst dgc
 have KA1:KnA K Hf kx ks:=KnA.ts KA ((((ST.of (C:=C) S1).trans E1c).trans Ecf).ts)
 have kdf:KdAt K Hf gl ks:=⟨⟨kx,SqL.of dgf,KA1⟩,k1,k4,kok.name⟩
 have ln2:sn.length=sk.length:=Paired.length naf
 have l64:sk.length≤24:=by rw[perm.length_eq,List.length_map]; exact r24
 refine⟨C,dx,_,Xf,tc.cl,tc.n2,_,rfl,nl,rfl,⟨_,SqL.of dnf⟩,?_⟩
 obtain⟨Pv,hP⟩:∃ Pv:Nat→St→Hp→Prop,Pv=fun i σ H'=>∃ (ck:List (List Key×V)) (y6:Option V),H' x=some (.ins C dx (Ig gl nl pl tl' cl))∧H' pl=some (.dT pk)∧H' tl'=some (.dT tk)∧H' cl=some (.dT ck)∧ck.length≤i∧(∀ r∈rs,r.num∈sk.take i→valV ck (keyN r.num)=some (.int (cntL ks r.note (LK ks.length):Nat)))∧ST C Hf H'∧(∀ b u,b≠x→H b=some u→H' b=some u)∧σ=[some (V.ref x),some (V.ref kl),some (V.str z),some (V.ref rl),y4,some (V.ref ll),y6]:=⟨_,rfl⟩
 refine wX sn Pv ?_ (fun i σ H' _ h=>by rw[hP] at h; obtain⟨_,_,_,_,_,_,_,_,e,_⟩:=h; exact SqL.of (e.lst dnf)) ?_ ?_
 ·rw[hP]
  exact⟨[],_,Xf,Pf,Tf,Cf,Nat.le_refl _,(fun r _ h=>by cases h),ST.refl _ _,Bf,rfl⟩
 ·intro i v σ H' hv h
  rw[hP] at h
  obtain⟨ck,y6,X',P',T',C',lc,vc,e,B,rfl⟩:=h
  have li:=(List.getElem?_eq_some_iff.mp hv).1
  obtain⟨k,hk,a',rfl,h3'⟩:=uH (naf.ts e.ts) hv
  obtain⟨r,mr,ek⟩:=List.mem_map.mp (perm.mem_iff.mp (List.mem_of_getElem? hk))
  subst ek
  have hk1:H' a'=some (.tup ((keyN r.num).map kV)):=by rw[z4]; exact h3'
  obtain⟨_,na',q2,q3⟩:=vr r mr
  have okr:=rok.ok r mr
  have Ece:=Ecf.trans e
  have g1:DGet H' tl' (.ref a') (some (.ref na')):=by
   have:=DGet.t (b:=a') T' hk1
   rwa [q2] at this
  trivial
  refine⟨C,dx,_,X',tc.cl,tc.n4,_,rfl,tl',rfl,_,g1,C,dx,_,X',tc.cl,tc.n1,_,rfl,?_⟩
  refine⟨na',gl,ll,lus,r.note,ks,LK ks.length,rfl,ObjN.st ne Ece q3,okr.1,by omega,KdAt.st kdf e,SqL.of (e.lst dlf),GZ e.ts tpf,?_,fun lk hlk=>?_,fun H2 S2=>?_⟩
  ·unfold LK
   rw[List.length_map]
   exact (zL k1 k4).1
  ·have:=Hs k1 k4 lk hlk
   exact⟨this.1,this.2.1⟩
  have hk2:=S2 _ _ hk1
  have C2:=S2 _ _ C'
  refine⟨C,dx,_,S2 _ _ X',tc.cl,tc.n5,_,rfl,cl,rfl,_,DPut.t C2 hk2 (Nat.lt_of_lt_of_le (m:=64) (by omega) (by decide)),?_⟩
  rw[hP]
  refine⟨putK ck (keyN r.num) (.int (cntL ks r.note (LK ks.length):Nat)),_,by rw[gS (Ne.symm clx)]; exact S2 _ _ X',by rw[gS (Ne.symm clp)]; exact S2 _ _ P',by rw[gS (Ne.symm clt)]; exact S2 _ _ T',fj,by have:=vX ck (keyN r.num) (.int (cntL ks r.note (LK ks.length):Nat)); exact Oz52 lc this,fun r2 mr2 hr2=>?_,(e.trans (ST.of S2)).trans (ST.dT C2),fun b u hb h=>?_,rfl⟩
  ·rw[yK]
   by_cases en:keyN r2.num=keyN r.num
   ·have en':r2.num=r.num:=keyN_inj.mp en
    have:r2=r:=by
     obtain⟨i1,h1⟩:=List.mem_iff_getElem?.mp mr2
     obtain⟨i2,h2⟩:=List.mem_iff_getElem?.mp mr
     have l1:=(List.getElem?_eq_some_iff.mp h1).1
     have:=(List.getElem?_inj (l:=rs.map Rw.num) (i:=i1) (j:=i2) (by rw[List.length_map]; exact l1) rok.nd).mp (by
      rw[List.getElem?_map,List.getElem?_map,h1,h2]
      show some r2.num=some r.num
      rw[en'])
     rw[this,h2] at h1
     exact (Option.some.inj h1).symm
    rw[if_pos en,this]
   ·rw[if_neg en]
    rcases yL hk hr2 with h | h
    ·exact vc r2 mr2 h
    ·exact absurd (by rw[h]) en
  ·rw[gS (kB h ncl)]
   exact S2 _ _ (B b u hb h)
 intro σ Hg h
 rw[hP] at h
 obtain⟨ck,y6,Xg,Pg,Tg,Cg,lc,vc,eg,Bg,rfl⟩:=h
 rw[ln2,List.take_length] at vc
 trivial
 have Ecg:=Ecf.trans eg
 exact q _ ⟨dx,gl,nl,pl,tl',cl,sn,sk,pk,tk,ck,Xg,⟨KdAt.st kdf eg,eg.lst dnf,naf.ts eg.ts,Pg,Tg,Cg,perm,hs,v0,fun r mr=>(vr r mr).1,fun r mr=>by obtain⟨_,a2,q2,q3⟩:=vr r mr; exact⟨a2,q2,ObjN.st ne Ecg q3⟩,fun r mr=>vc r mr (perm.mem_iff.mpr (List.mem_map.mpr ⟨r,mr,rfl⟩))⟩⟩ Bg
end
end MyM
namespace MyN
open My MyB MyC MyD MyE MyF MyG MyI MyJ MyK MyL MyM PySem L2
noncomputable def top (i:Nat):Stmt:=PySem.Challenge.pw_tariffgate_k43_looked.main.body.getD i (.Pass ⟨0,0,0,0⟩)
noncomputable def inner:Stmt→Nat→Stmt
 | .ClassDef _ _ _ b _ _ _ _ _ _ _,j=>b.getD j (.Pass ⟨0,0,0,0⟩)
 | st,_=>st
theorem dO:(("_law_looks":Str) == ("__debug__":Str))=false:=by decide
theorem dP:(("_law_looks":Str) == ("__classdict__":Str))=false:=by decide
theorem gJ:(("_law_depth":Str) == ("__debug__":Str))=false:=by decide
theorem gK:(("_law_found":Str) == ("__debug__":Str))=false:=by decide
theorem gL:(("_law_found":Str) == ("__classdict__":Str))=false:=by decide
theorem tW:(("_law_due":Str) == ("__debug__":Str))=false:=by decide
theorem tX:(("_law_due":Str) == ("__classdict__":Str))=false:=by decide
noncomputable abbrev cc:Stmt:=inner (top 50) 7
theorem pO:FnScope ["self","number"] ["self","number"] (defScope cc):=⟨rfl,rfl,rfl,by decide +kernel,rfl,by decide +kernel,by decide +kernel⟩
theorem oy:Vis (defScope cc) "self":=by decreasing_trivial
theorem oz:Vis (defScope cc) "number":=by decreasing_trivial
abbrev bj:Stmt:=top 64
theorem ft:FnScope ["_law_note_here","_law_kinds_here","_law_looks","_law_many","_law_look"] ["_law_note_here","_law_kinds_here","_law_looks"] (defScope bj):=⟨rfl,rfl,rfl,by decide +kernel,rfl,by decide +kernel,by decide +kernel⟩
theorem rD:Vis (defScope bj) "_law_note_here":=by decreasing_trivial
theorem rE:Vis (defScope bj) "_law_kinds_here":=by decreasing_trivial
theorem rF:Vis (defScope bj) "_law_looks":=by decreasing_trivial
theorem kE:Vis (defScope bj) "_law_many":=by decreasing_trivial
theorem kF:Loc (defScope bj) "_law_many":=by first | exact Or.inl rfl | exact Or.inr rfl
theorem rG:Vis (defScope bj) "_law_look":=by decreasing_trivial
theorem rH:Loc (defScope bj) "_law_look":=by first | exact Or.inl rfl | exact Or.inr rfl
theorem iR:(defScope bj).names.lookup ("_law_claims":Str)=some .globalImplicit:=by rfl
abbrev bS:Stmt:=top 65
theorem lW:FnScope ["_law_note_here"] ["_law_note_here"] (defScope bS):=⟨rfl,rfl,rfl,by decide +kernel,rfl,by decide +kernel,by decide +kernel⟩
theorem gM:Vis (defScope bS) "_law_note_here":=by decreasing_trivial
theorem oA:(defScope bS).names.lookup ("max":Str)=some .globalImplicit:=by rfl
theorem eJ:(defScope bS).names.lookup ("_law_depth":Str)=some .globalImplicit:=by rfl
abbrev aH:Stmt:=top 66
theorem iM:FnScope ["_law_note_here","_law_other","_law_cell","_law_some"] ["_law_note_here","_law_other","_law_cell"] (defScope aH):=⟨rfl,rfl,rfl,by decide +kernel,rfl,by decide +kernel,by decide +kernel⟩
theorem aR:Vis (defScope aH) "_law_note_here":=by decreasing_trivial
theorem gZ:Vis (defScope aH) "_law_other":=by decreasing_trivial
theorem my:Vis (defScope aH) "_law_cell":=by decreasing_trivial
theorem dm:Vis (defScope aH) "_law_some":=by decreasing_trivial
theorem mz:Loc (defScope aH) "_law_some":=by first | exact Or.inl rfl | exact Or.inr rfl
theorem gN:(defScope aH).names.lookup ("_law_depth":Str)=some .globalImplicit:=by rfl
theorem kP:(defScope aH).names.lookup ("len":Str)=some .globalImplicit:=by rfl
abbrev cS:Stmt:=top 67
theorem uQ:FnScope ["_law_found","_law_due"] ["_law_found","_law_due"] (defScope cS):=⟨rfl,rfl,rfl,by decide +kernel,rfl,by decide +kernel,by decide +kernel⟩
theorem jW:Vis (defScope cS) "_law_found":=by decreasing_trivial
theorem uE:Vis (defScope cS) "_law_due":=by decreasing_trivial
theorem fE:(defScope cS).names.lookup ("isinstance":Str)=some .globalImplicit:=by rfl
theorem tu:(defScope cS).names.lookup ("int":Str)=some .globalImplicit:=by rfl
theorem rJ:(defScope cS).names.lookup ("bool":Str)=some .globalImplicit:=by rfl
def C5 (K:PySem.W.Frag) (cs:NC) (C:Addr):Sp:=fun vs H Q _=>∃ (x a:Addr) (ks:List Kd2) (z:Str) (rs:List Rw) (r:Rw),vs=[.ref x,.ref a]∧TreeAt K cs C H x ks z rs∧H a=some (.tup (r.num.map V.int))∧r∈rs∧Q (.int (cntL ks r.note (LK ks.length):Nat)) H
def AX (K:PySem.W.Frag):Sp:=fun vs H Q _=>∃ (t kl ll:Addr) (us:List V) (n:Nt) (ks:List Kd2) (L:List (List Int)),vs=[.ref t,.ref kl,.ref ll]∧tT K H (.ref t) n∧n.ok∧n.dp≤5∧KdAt K H kl ks∧SqL K H ll us∧Tps K H us L∧L.length≤1000∧(∀ lk∈L,lk.length=ks.length∧∀ x∈lk,0≤x)∧∀ H',Same H H'→Q (.int (cntL ks n L:Nat)) H'
def ya (K:PySem.W.Frag) (d:Nat):Sp:=fun vs H Q _=>∃ (t:Addr) (n:Nt),vs=[.ref t]∧tT K H (.ref t) n∧n.ok∧n.dp≤d∧∀ H',Same H H'→Q (.int (n.dp:Nat)) H'
def AB (K:PySem.W.Frag):Sp:=fun vs H Q _=>∃ (t o:Addr) (c:Int) (n m:Nt),vs=[.ref t,.ref o,.int c]∧tT K H (.ref t) n∧n.ok∧n.dp≤4∧tT K H (.ref o) m∧m.ok∧m.dp=1∧∀ (p:Addr) (n':Nt) (H':Hp),Same H H'→tT K H' (.ref p) n'→n'.ok→n'.dp≤5→(∀ ks lk,iS ks lk n'=iS ks lk n)→Q (.ref p) H'
def HQ (K:PySem.W.Frag):Sp:=fun vs H Q _=>∃ a:Int,vs=[.int a,.int a]∧Q (.bl true) H
section
variable {P:Program} {w:World} {K:PySem.W.Frag} {mg:Str→Option Value} {base:Heap} {f:Addr} {fd:FuncData} {cs:NC} {C:Addr}
theorem Av (F:Fun K "looked" "Tree.looked" cc f fd) (M:Mg mg) (tc:TrC K C):FnOk P w K mg base CX0 1 f fd ["self","number"] (C5 K cs C):=by
 refine F.ok pO (fun vs H Q E h=>?_) (fun cdv A outer s H vs Q E hr h=>?_)
 ·obtain⟨x,a,ks,z,rs,r,rfl,_⟩:=h
  rfl
 obtain⟨x,a,ks,z,rs,r,rfl,⟨dx,gl,nl,pl,tl,cl,ns,sk,pk,tk,ck,hx,T⟩,ha,mr,q⟩:=h
 refine⟨_,(@fS _ _ _ (@jm _ _ _ _ (@Eh _ _ _ _ _ _ (zl hr) (@tY _ _ _ _ _ (@eF _ 0 _ _ rfl oy ax ay) (by rfl)) (@eF _ 1 _ _ rfl oz dz dA) (fun _ _=>rfl)))),?_⟩
 trivial
 have hk:H a=some (.tup ((keyN r.num).map kV)):=by rw[z4]; exact ha
 have g:=DGet.t (b:=a) T.c hk
 rw[T.cr r mr] at g
 exact⟨C,dx,_,hx,tc.cl,tc.n5,_,rfl,cl,rfl,_,g,q⟩
theorem CA (F:Fun K "_law_count" "_law_count" bj f fd) (M:Mg mg) (bK:Cal P w K mg base CX0 "_law_claims" 8 ["_law_note_here","_law_kinds_here","_law_look"] (w9 K 5)):FnOk P w K mg base CX0 9 f fd ["_law_note_here","_law_kinds_here","_law_looks"] (AX K):=by
 refine F.ok ft (fun vs H Q E h=>?_) (fun cdv A outer s H vs Q E hr h=>?_)
 ·obtain⟨t,kl,ll,us,n,ks,L,rfl,_⟩:=h
  rfl
 obtain⟨t,kl,ll,us,n,ks,L,rfl,R,okn,dp,kd,hL,tp,l1,lks,q⟩:=h
 have lu:=Tps.len tp
 refine⟨_,(@fz _ _ _ _ _ (@ni _ _ 3 _ _ _ _ ft.nd rfl kF (@ff _ _ _ _) (mj rfl) (.inl rfl)) (@fz _ _ _ _ _ (@vZ _ _ _ _ _ _ _ _ PassesOwn.never rfl (@uo _ _ _ _ (@eF _ 2 _ _ rfl rF dO dP)) (@pF _ _ 4 _ ft.nd rfl rH (.inl rfl)) (@fS _ _ _ (@pG _ _ _ _ _ _ _ _ (@qY _ _ _ (@gY _ _ _ _ _ _ _ _ _ _ _ bK hr iR (@cg _ _ _ _ _ (@eF _ 0 _ _ rfl rD af ag) (@cg _ _ _ _ _ (@eF _ 1 _ _ rfl rE aa ae) (@cg _ _ _ _ _ (@eF _ 4 _ _ rfl rG aL aM) (@eY _) (cT rfl)) (cT rfl)) (cT rfl)) (by decide) bQ (cT rfl) (iT rfl (iT rfl gj))) (rS rfl)) (@fS _ _ _ (@ni _ _ 3 _ _ _ _ ft.nd rfl kF (@kT _ _ _ _ _ _ _ _ (@vv _) (@eF _ 3 _ _ rfl kE eZ e7) (@ff _ _ _ _)) (mj rfl) (.inl rfl))) (@mO _))) (by intro _; rfl)) (@fS _ _ _ (@jm _ _ _ _ (@eF _ 3 _ _ rfl kE eZ e7))))),?_⟩
 trivial
 refine⟨⟨_,hL⟩,?_⟩
 obtain⟨Pv,hP⟩:∃ Pv:Nat→St→Hp→Prop,Pv=fun j σ H1=>∃ (z:Option V),Same H H1∧σ=[some (V.ref t),some (V.ref kl),some (V.ref ll),some (V.int (cntL ks n (L.take j):Nat)),z]:=⟨_,rfl⟩
 refine wX us Pv ?_ (fun j σ H1 _ h=>by rw[hP] at h; obtain⟨_,e,_⟩:=h; exact e.seq hL) ?_ ?_
 ·rw[hP]
  exact⟨_,Same.refl _,rfl⟩
 ·intro j v σ H1 hv h
  rw[hP] at h
  obtain⟨z,e,rfl⟩:=h
  obtain⟨lk,p,hlk,rfl,T⟩:=Tps.get (Tps.same e tp) hv
  have ok:=lks lk (List.mem_of_getElem? hlk)
  have ct:=AZ (ks:=ks) (n:=n) hlk
  trivial
  refine⟨t,kl,p,n,ks,lk,rfl,R.same e,okn,dp,(kd.same e).ground T ok.1 ok.2,fun H2 S2=>⟨_,rfl,?_⟩⟩
  by_cases hc:iS ks lk n=true
  ·rw[if_pos hc] at ct
   rw[if_pos hc,hP]
   exact⟨_,e.trans S2,by rw[ct]; rfl⟩
  ·rw[if_neg hc] at ct
   rw[if_neg hc,hP]
   exact⟨_,e.trans S2,by rw[ct]; rfl⟩
 ·intro σ H1 h
  rw[hP] at h
  obtain⟨z,e,rfl⟩:=h
  rw[lu,List.take_length]
  trivial
  exact q _ e
theorem E6 {d:Nat} (F:Fun K "_law_depth" "_law_depth" bS f fd) (M:Mg mg) (dR:Cal P w K mg base CX0 "_law_depth" (1+d) ["_law_note_here"] (ya K d)):FnOk P w K mg base CX0 (1+d+1) f fd ["_law_note_here"] (ya K (d+1)):=by
 refine F.ok lW (fun vs H Q E h=>?_) (fun cdv A outer s H vs Q E hr h=>?_)
 ·obtain⟨t,n,rfl,_⟩:=h
  rfl
 obtain⟨t,n,rfl,R,ok,dp,q⟩:=h
 refine⟨_,(@fz _ _ _ _ _ (@pG _ _ _ _ _ _ _ _ (@mL _ _ _ _ _ _ _ _ yO (@kZ _ _ _ _ _ _ _ (@ix_tup _) (@eF _ 0 _ _ rfl gM af ag) (@ff _ _ _ _) (fun _ _=>rfl)) (@nP _ _ _ _ _ (@cg _ _ _ _ _ (@nS _ _ _ _) (@cg _ _ _ _ _ (@nS _ _ _ _) (@cg _ _ _ _ _ (@nS _ _ _ _) (@eY _) (cT rfl)) (cT rfl)) (cT rfl))) (by with_unfolding_all rfl)) (@fS _ _ _ (@jm _ _ _ _ (@kT _ _ _ _ _ _ _ _ (@vv _) (@ff _ _ _ _) (@ki _ _ _ _ _ _ _ _ _ (Gb rfl) oA M.m_max FI (@cg _ _ _ _ _ (@gY _ _ _ _ _ _ _ _ _ _ _ dR hr eJ (@cg _ _ _ _ _ (@kZ _ _ _ _ _ _ _ (@ix_tup _) (@eF _ 0 _ _ rfl gM af ag) (@ff _ _ _ _) (fun _ _=>rfl)) (@eY _) (cT rfl)) (by exact Oz101) gJ (cT rfl) gj) (@cg _ _ _ _ _ (@gY _ _ _ _ _ _ _ _ _ _ _ dR hr eJ (@cg _ _ _ _ _ (@kZ _ _ _ _ _ _ _ (@ix_tup _) (@eF _ 0 _ _ rfl gM af ag) (@ff _ _ _ _) (fun _ _=>rfl)) (@eY _) (cT rfl)) (by exact Oz101) gJ (cT rfl) gj) (@eY _) (cT rfl)) (cT rfl)) lC lB (cT rfl) (iT rfl gj))))) (@mO _)) (@fS _ _ _ (@jm _ _ _ _ (@ff _ _ _ _)))),?_⟩
 trivial
 cases n with
 | any =>
  obtain⟨x0,T,r0⟩:=yg R
  cases mK r0
  refine⟨_,T,_,at0,nW,fun p hp=>⟨p,_,rfl,.inr (SqT.of fj),rfl,rfl,_,rfl,?_⟩⟩
  rw[if_neg (by decide +kernel)]
  exact q _ (gI hp _)
 | made s =>
  obtain⟨x0,y0,T,r0,r1⟩:=uC R
  cases mK r0
  cases mK r1
  refine⟨_,T,_,at0,nW,fun p hp=>⟨p,_,rfl,.inr (SqT.of fj),rfl,rfl,_,rfl,?_⟩⟩
  rw[if_neg (by decide +kernel)]
  exact q _ (gI hp _)
 | used s =>
  obtain⟨x0,y0,T,r0,r1⟩:=uC R
  cases mK r0
  cases mK r1
  refine⟨_,T,_,at0,nW,fun p hp=>⟨p,_,rfl,.inr (SqT.of fj),rfl,rfl,_,rfl,?_⟩⟩
  rw[if_neg (by decide +kernel)]
  exact q _ (gI hp _)
 | chief s =>
  obtain⟨x0,y0,T,r0,r1⟩:=uC R
  cases mK r0
  cases mK r1
  refine⟨_,T,_,at0,nW,fun p hp=>⟨p,_,rfl,.inr (SqT.of fj),rfl,rfl,_,rfl,?_⟩⟩
  rw[if_neg (by decide +kernel)]
  exact q _ (gI hp _)
 | over a b =>
  obtain⟨x0,y0,z0,T,r0,r1,r2⟩:=qV R
  cases mK r0
  refine⟨_,T,_,at0,nW,fun p hp=>⟨p,_,rfl,.inr (SqT.of fj),rfl,rfl,_,rfl,?_⟩⟩
  rw[if_neg (by decide +kernel)]
  exact q _ (gI hp _)
 | both x y =>
  obtain⟨x0,y0,z0,T,r0,r1,r2⟩:=qV R
  cases mK r0
  obtain⟨t1,rfl⟩:=pR r1
  obtain⟨t2,rfl⟩:=pR r2
  have dd:max x.dp y.dp+1≤d+1:=dp
  refine⟨_,T,_,at0,nW,fun p hp=>⟨p,_,rfl,.inr (SqT.of fj),rfl,rfl,_,rfl,?_⟩⟩
  rw[if_pos (by decide +kernel)]
  have S1:=gI hp (.tup [V.str (Str.ofString "both"),V.str (Str.ofString "either"),V.str (Str.ofString "but")])
  refine⟨_,Same.tup S1 T,_,at1,t1,x,rfl,r1.same S1,ok.1,by exact Oz1 dd,fun H2 S2=>?_⟩
  refine⟨_,Same.tup (S1.trans S2) T,_,at2,t2,y,rfl,r2.same (S1.trans S2),ok.2,by exact Oz0 dd,fun H3 S3=>⟨_,rfl,_,rfl,?_⟩⟩
  have e9:(1+if ((y.dp:Nat):Int) > ((x.dp:Nat):Int) then ((y.dp:Nat):Int) else ((x.dp:Nat):Int))=(((Nt.both x y).dp:Nat):Int):=by
   show _=((max x.dp y.dp+1:Nat):Int)
   split <;> omega
  rw[e9]
  exact q _ ((S1.trans S2).trans S3)
 | either x y =>
  obtain⟨x0,y0,z0,T,r0,r1,r2⟩:=qV R
  cases mK r0
  obtain⟨t1,rfl⟩:=pR r1
  obtain⟨t2,rfl⟩:=pR r2
  have dd:max x.dp y.dp+1≤d+1:=dp
  refine⟨_,T,_,at0,nW,fun p hp=>⟨p,_,rfl,.inr (SqT.of fj),rfl,rfl,_,rfl,?_⟩⟩
  rw[if_pos (by decide +kernel)]
  have S1:=gI hp (.tup [V.str (Str.ofString "both"),V.str (Str.ofString "either"),V.str (Str.ofString "but")])
  refine⟨_,Same.tup S1 T,_,at1,t1,x,rfl,r1.same S1,ok.1,by exact Oz1 dd,fun H2 S2=>?_⟩
  refine⟨_,Same.tup (S1.trans S2) T,_,at2,t2,y,rfl,r2.same (S1.trans S2),ok.2,by exact Oz0 dd,fun H3 S3=>⟨_,rfl,_,rfl,?_⟩⟩
  have e9:(1+if ((y.dp:Nat):Int) > ((x.dp:Nat):Int) then ((y.dp:Nat):Int) else ((x.dp:Nat):Int))=(((Nt.either x y).dp:Nat):Int):=by
   show _=((max x.dp y.dp+1:Nat):Int)
   split <;> omega
  rw[e9]
  exact q _ ((S1.trans S2).trans S3)
 | but x y =>
  obtain⟨x0,y0,z0,T,r0,r1,r2⟩:=qV R
  cases mK r0
  obtain⟨t1,rfl⟩:=pR r1
  obtain⟨t2,rfl⟩:=pR r2
  have dd:max x.dp y.dp+1≤d+1:=dp
  refine⟨_,T,_,at0,nW,fun p hp=>⟨p,_,rfl,.inr (SqT.of fj),rfl,rfl,_,rfl,?_⟩⟩
  rw[if_pos (by decide +kernel)]
  have S1:=gI hp (.tup [V.str (Str.ofString "both"),V.str (Str.ofString "either"),V.str (Str.ofString "but")])
  refine⟨_,Same.tup S1 T,_,at1,t1,x,rfl,r1.same S1,ok.1,by exact Oz1 dd,fun H2 S2=>?_⟩
  refine⟨_,Same.tup (S1.trans S2) T,_,at2,t2,y,rfl,r2.same (S1.trans S2),ok.2,by exact Oz0 dd,fun H3 S3=>⟨_,rfl,_,rfl,?_⟩⟩
  have e9:(1+if ((y.dp:Nat):Int) > ((x.dp:Nat):Int) then ((y.dp:Nat):Int) else ((x.dp:Nat):Int))=(((Nt.but x y).dp:Nat):Int):=by
   show _=((max x.dp y.dp+1:Nat):Int)
   split <;> omega
  rw[e9]
  exact q _ ((S1.trans S2).trans S3)
theorem yT (F:Fun K "_law_depth" "_law_depth" bS f fd) (M:Mg mg) (b:Binds K fd ["_law_note_here"] []) (kp:PySem.W.keepIn K (.ref f)=true) (m:mg "_law_depth"=some (.ref f)):∀ d:Nat,FnOk P w K mg base CX0 (1+d) f fd ["_law_note_here"] (ya K d)
 | 0=>by
  refine F.ok lW (fun vs H Q E h=>?_) (fun cdv A outer s H vs Q E hr h=>?_)
  ·obtain⟨t,n,rfl,_⟩:=h
   rfl
  obtain⟨t,n,rfl,R,ok,dp,q⟩:=h
  have:=Nt.dp_pos n
  exact (Oz49 dp this).elim
 | d+1=>E6 F M ⟨⟨f,fd,yT F M b kp m d,b,kp,m⟩⟩
theorem zV (F:Fun K "_law_otherwise" "_law_otherwise" aH f fd) (M:Mg mg) (dR:Cal P w K mg base CX0 "_law_depth" 6 ["_law_note_here"] (ya K 5)):FnOk P w K mg base CX0 7 f fd ["_law_note_here","_law_other","_law_cell"] (AB K):=by
 refine F.ok iM (fun vs H Q E h=>?_) (fun cdv A outer s H vs Q E hr h=>?_)
 ·obtain⟨t,o,c,n,m,rfl,_⟩:=h
  rfl
 obtain⟨t,o,c,n,m,rfl,R,okn,dpn,Ro,okm,dpm,q⟩:=h
 refine⟨_,(@fz _ _ _ _ _ (@ni _ _ 3 _ _ _ _ iM.nd rfl mz (@vY _ _ _ _ (@cg _ _ _ _ _ (@nP _ _ _ _ _ (@cg _ _ _ _ _ (@nS _ _ _ _) (@cg _ _ _ _ _ (@eF _ 0 _ _ rfl aR af ag) (@cg _ _ _ _ _ (@eF _ 0 _ _ rfl aR af ag) (@eY _) (cT rfl)) (cT rfl)) (cT rfl))) (@cg _ _ _ _ _ (@nP _ _ _ _ _ (@cg _ _ _ _ _ (@nS _ _ _ _) (@cg _ _ _ _ _ (@eF _ 0 _ _ rfl aR af ag) (@cg _ _ _ _ _ (@eF _ 0 _ _ rfl aR af ag) (@eY _) (cT rfl)) (cT rfl)) (cT rfl))) (@eY _) (cT rfl)) (cT rfl))) (mj rfl) (.inl rfl)) (@fz _ _ _ _ _ (@pG _ _ _ _ _ _ _ _ (@mL _ _ _ _ _ _ _ _ (@E3 _) (@gY _ _ _ _ _ _ _ _ _ _ _ dR hr gN (@cg _ _ _ _ _ (@eF _ 0 _ _ rfl aR af ag) (@eY _) (cT rfl)) (by decide) gJ (cT rfl) gj) (@ff _ _ _ _) (nj _)) (@fz _ _ _ _ _ (@wH _ _ _ _ (@wD _ _ _ _ _ _ _ _ _ _ _ _ PySem.F.plainAttrs_list PySem.F.slot_list_append PySem.F.type_list_append we (@eF _ 3 _ _ rfl dm br bu) (@cg _ _ _ _ _ (@nP _ _ _ _ _ (@cg _ _ _ _ _ (@nS _ _ _ _) (@cg _ _ _ _ _ (@eF _ 0 _ _ rfl aR af ag) (@cg _ _ _ _ _ (@nP _ _ _ _ _ (@cg _ _ _ _ _ (@nS _ _ _ _) (@cg _ _ _ _ _ (@eF _ 0 _ _ rfl aR af ag) (@cg _ _ _ _ _ (@eF _ 0 _ _ rfl aR af ag) (@eY _) (cT rfl)) (cT rfl)) (cT rfl))) (@eY _) (cT rfl)) (cT rfl)) (cT rfl))) (@eY _) (cT rfl)) (by rfl) (by rfl) (by rfl) (by rfl) (by rfl)) (mj rfl)) (@fS _ _ _ (@wH _ _ _ _ (@wD _ _ _ _ _ _ _ _ _ _ _ _ PySem.F.plainAttrs_list PySem.F.slot_list_append PySem.F.type_list_append we (@eF _ 3 _ _ rfl dm br bu) (@cg _ _ _ _ _ (@nP _ _ _ _ _ (@cg _ _ _ _ _ (@nS _ _ _ _) (@cg _ _ _ _ _ (@nP _ _ _ _ _ (@cg _ _ _ _ _ (@nS _ _ _ _) (@cg _ _ _ _ _ (@eF _ 0 _ _ rfl aR af ag) (@cg _ _ _ _ _ (@eF _ 1 _ _ rfl gZ bZ cb) (@eY _) (cT rfl)) (cT rfl)) (cT rfl))) (@cg _ _ _ _ _ (@nP _ _ _ _ _ (@cg _ _ _ _ _ (@nS _ _ _ _) (@cg _ _ _ _ _ (@eF _ 1 _ _ rfl gZ bZ cb) (@cg _ _ _ _ _ (@eF _ 0 _ _ rfl aR af ag) (@eY _) (cT rfl)) (cT rfl)) (cT rfl))) (@eY _) (cT rfl)) (cT rfl)) (cT rfl))) (@eY _) (cT rfl)) (by rfl) (by rfl) (by rfl) (by rfl) (by rfl)) (mj rfl)))) (@mO _)) (@fS _ _ _ (@jm _ _ _ _ (@kZ _ _ _ _ _ _ _ (@ix_list _) (@eF _ 3 _ _ rfl dm br bu) (@kT _ _ _ _ _ _ _ _ (@p5 _) (@eF _ 2 _ _ rfl my ar au) (@ki _ _ _ _ _ _ _ _ _ m9 kP M.m_len qZ (@cg _ _ _ _ _ (@eF _ 3 _ _ rfl dm br bu) (@eY _) (cT rfl)) aq ao (cT rfl) gj)) (fun _ _=>rfl)))))),?_⟩
 refine rP fun tl htl=>?_
 trivial
 refine⟨nW,fun p hp=>?_⟩
 obtain⟨H1,g1,S1,T1⟩:=oR (K:=K) hp [V.str (Str.ofString "both"),V.ref t,V.ref t]
 rw[← g1]
 clear g1
 refine⟨nW,fun p1 hp1=>?_⟩
 obtain⟨H2,g2,S2,T2⟩:=oR (K:=K) hp1 [V.str (Str.ofString "either"),V.ref t,V.ref t]
 rw[← g2]
 clear g2
 refine⟨nW,fun p2 hp2=>?_⟩
 obtain⟨H3,g3,S3,L3⟩:∃ H3,H3=upd H2 p2 (.lst [V.ref p,V.ref p1])∧Same H2 H3∧H3 p2=some (.lst [V.ref p,V.ref p1]):=⟨_,rfl,gI hp2 _,fj⟩
 rw[← g3]
 clear g3
 have S02:=S1.trans S2
 have S03:=S02.trans S3
 have n2:H p2=none:=S02.free hp2
 obtain⟨GN,hG⟩:∃ GN:Hp→V→Prop,GN=fun H v=>∃ (p:Addr) (n':Nt),v=.ref p∧tT K H (.ref p) n'∧n'.ok∧n'.dp≤5∧∀ ks lk,iS ks lk n'=iS ks lk n:=⟨_,rfl⟩
 have gts:∀ {Ha Hb:Hp} {v:V},TS Ha Hb→GN Ha v→GN Hb v:=fun {Ha Hb v} e h=>by
  rw[hG] at h ⊢
  obtain⟨p,n',a,b,c⟩:=h
  exact⟨p,n',a,vR e b,c⟩
 have two:∀ v∈[V.ref p,V.ref p1],GN H3 v:=by
  rw[hG]
  simp only [List.forall_mem_cons]
  have R3:=R.same S03
  refine⟨⟨p,.both n n,rfl,.tup (Same.tup (S2.trans S3) T1) (.cons (.str _) (.cons R3 (.cons R3 .nil))),⟨okn,okn⟩,?_,fun ks lk=>?_⟩,⟨p1,.either n n,rfl,.tup (Same.tup S3 T2) (.cons (.str _) (.cons R3 (.cons R3 .nil))),⟨okn,okn⟩,?_,fun ks lk=>?_⟩,fun _ h=>by cases h⟩
  ·show max n.dp n.dp+1≤5
   exact Oz71 dpn
  ·simp [iS]
  ·show max n.dp n.dp+1≤5
   exact Oz71 dpn
  ·simp [iS]
 show tl _ _ _
 rw[htl]
 clear htl tl
 refine rP fun tl htl=>?_
 have fin:∀ (H':Hp) (us:List V),Same H H'→H' p2=some (.lst us)→1≤us.length→us.length≤4→(∀ v∈us,GN H' v)→tl { nx:=fun _ H'=>Q .non H',rt:=Q } [some (V.ref t),some (V.ref o),some (V.int c),some (V.ref p2)] H':=by
  intro H' us e d1 l1 l4 good
  rw[htl]
  trivial
  have j0:=Int.emod_nonneg c (show (us.length:Int)≠0 by omega)
  have j1:=Int.emod_lt_of_pos c (show (0:Int)<(us.length:Int) by exact Oz92 l1)
  obtain⟨j,hj⟩:∃ j:Nat,c % (us.length:Int)=j:=⟨(c % (us.length:Int)).toNat,by exact Oz2 j0⟩
  obtain⟨v,hv⟩:∃ v,us[j]?=some v:=⟨_,List.getElem?_eq_getElem (by exact Oz16 j1 hj)⟩
  have g:=good v (List.mem_of_getElem? hv)
  rw[hG] at g
  obtain⟨p',n',rfl,a,b,c',d'⟩:=g
  exact⟨_,.inl (SqL.of d1),by exact Oz92 l1,_,SqL.of d1,_,(by rw[hj]; exact um hv),q _ n' _ e a b c' d'⟩
 trivial
 refine⟨t,n,rfl,R.same S03,okn,by omega,fun H4 S4=>?_⟩
 have S04:=S03.trans S4
 have L4:=S4 _ _ L3
 refine⟨_,rfl,?_⟩
 by_cases h4:((n.dp:Nat):Int)<4
 ·rw[if_pos h4]
  have R4:=R.same S04
  have Ro4:=Ro.same S04
  refine⟨.inl ⟨rfl,_,SqL.of L4⟩,nW,fun q1 hq1=>?_⟩
  obtain⟨H5,g5,S5,T5⟩:=oR (K:=K) hq1 [V.str (Str.ofString "but"),V.ref t,V.ref t]
  rw[← g5]
  clear g5
  refine⟨nW,fun q2 hq2=>?_⟩
  obtain⟨H6,g6,S6,T6⟩:=oR (K:=K) hq2 [V.str (Str.ofString "but"),V.ref t,V.ref q1]
  rw[← g6]
  clear g6
  have L6:=(S5.trans S6) _ _ L4
  refine⟨_,L6,show 2<sizeLine by decide,?_⟩
  obtain⟨H7,g7,E7,L7⟩:∃ H7,H7=upd H6 p2 (.lst ([V.ref p,V.ref p1]++[V.ref q2]))∧TS H6 H7∧H7 p2=some (.lst ([V.ref p,V.ref p1]++[V.ref q2])):=⟨_,rfl,TS.lst L6,fj⟩
  have S07:Same H H7:=by rw[g7]; exact pI (S04.trans (S5.trans S6)) n2 _
  rw[← g7]
  clear g7
  refine⟨.inl ⟨rfl,_,SqL.of L7⟩,nW,fun q3 hq3=>?_⟩
  obtain⟨H8,g8,S8,T8⟩:=oR (K:=K) hq3 [V.str (Str.ofString "but"),V.ref t,V.ref o]
  rw[← g8]
  clear g8
  refine⟨nW,fun q4 hq4=>?_⟩
  obtain⟨H9,g9,S9,T9⟩:=oR (K:=K) hq4 [V.str (Str.ofString "both"),V.ref o,V.ref t]
  rw[← g9]
  clear g9
  refine⟨nW,fun q5 hq5=>?_⟩
  obtain⟨Ha,ga,Sa,Ta⟩:=oR (K:=K) hq5 [V.str (Str.ofString "either"),V.ref q3,V.ref q4]
  rw[← ga]
  clear ga
  have S7a:=(S8.trans S9).trans Sa
  have La:=S7a _ _ L7
  refine⟨_,La,show 3<sizeLine by decide,?_⟩
  have Ea:TS Ha (upd Ha p2 (.lst ([V.ref p,V.ref p1]++[V.ref q2]++[V.ref q5]))):=TS.lst La
  have S0a:=S07.trans S7a
  have Ra:=R.same S0a
  have Roa:=Ro.same S0a
  have E4a:TS H4 Ha:=(TS.of (S5.trans S6)).trans (E7.trans (TS.of S7a))
  refine fin _ _ (pI S0a n2 _) fj (show 1≤4 by decide) (show 4≤4 by decide) fun v hv=>?_
  rcases List.mem_append.mp hv with hv | hv
  ·rcases List.mem_append.mp hv with hv | hv
   ·exact gts (((TS.of S4).trans E4a).trans Ea) (two v hv)
   ·rw[List.mem_singleton.mp hv]
    refine gts Ea ?_
    rw[hG]
    have E6a:TS H6 Ha:=E7.trans (TS.of S7a)
    refine⟨q2,.but n (.but n n),rfl,.tup (E6a.tup T6) (.cons (.str _) (.cons Ra (.cons (.tup (E6a.tup (Same.tup S6 T5)) (.cons (.str _) (.cons Ra (.cons Ra .nil)))) .nil))),⟨okn,okn,okn⟩,?_,fun ks lk=>?_⟩
    ·show max n.dp (max n.dp n.dp+1)+1≤5
     omega
    ·simp [iS]
  ·rw[List.mem_singleton.mp hv]
   refine gts Ea ?_
   rw[hG]
   refine⟨q5,.either (.but n m) (.both m n),rfl,.tup Ta (.cons (.str _) (.cons (.tup (Same.tup (S9.trans Sa) T8) (.cons (.str _) (.cons Ra (.cons Roa .nil)))) (.cons (.tup (Same.tup Sa T9) (.cons (.str _) (.cons Roa (.cons Ra .nil)))) .nil))),⟨⟨okn,okm⟩,okm,okn⟩,?_,fun ks lk=>?_⟩
   ·show max (max n.dp m.dp+1) (max m.dp n.dp+1)+1≤5
    omega
   ·simp only [iS]
    cases iS ks lk n <;> cases iS ks lk m <;> rfl
 ·rw[if_neg h4]
  exact fin H4 _ S04 L4 (show 1≤2 by decide) (show 2≤4 by decide) fun v hv=>gts (TS.of S4) (two v hv)
theorem GC (F:Fun K "_law_is" "_law_is" cS f fd) (M:Mg mg):FnOk P w K mg base CX0 1 f fd ["_law_found","_law_due"] (HQ K):=by
 refine F.ok uQ (fun vs H Q E h=>?_) (fun cdv A outer s H vs Q E hr h=>?_)
 ·obtain⟨a,rfl,_⟩:=h
  rfl
 obtain⟨a,rfl,q⟩:=h
 refine⟨_,(@fS _ _ _ (@jm _ _ _ _ (@vH _ _ _ _ _ _ _ (@ki _ _ _ _ _ _ _ _ _ uF fE M.m_isinstance qU (@cg _ _ _ _ _ (@eF _ 0 _ _ rfl jW gK gL) (@cg _ _ _ _ _ (@uT _ _ (.ty "int") _ _ tu M.m_int IR rfl rM rL) (@eY _) (cT rfl)) (cT rfl)) aE aD (cT rfl) (iT rfl gj)) (@vH _ _ _ _ _ _ _ (@Cc _ _ _ _ (@ki _ _ _ _ _ _ _ _ _ uF fE M.m_isinstance qU (@cg _ _ _ _ _ (@eF _ 0 _ _ rfl jW gK gL) (@cg _ _ _ _ _ (@uT _ _ (.ty "bool") _ _ rJ M.m_bool GG rfl oG oF) (@eY _) (cT rfl)) (cT rfl)) aE aD (cT rfl) (iT rfl gj))) (@vz _ _ _ _ _ (@vV _ _ _ _ _ _ _ _ (@qb _) (@eF _ 0 _ _ rfl jW gK gL) (@eF _ 1 _ _ rfl uE tW tX) (nj _))))))),?_⟩
 trivial
 exact q
end
end MyN
namespace MyO
open My MyB MyC MyD MyE MyF MyG MyI MyJ MyK MyL MyM MyN PySem L2
noncomputable def top (i:Nat):Stmt:=PySem.Challenge.pw_tariffgate_k43_looked.main.body.getD i (.Pass ⟨0,0,0,0⟩)
theorem fu:(("_law_tree":Str) == ("__debug__":Str))=false:=by decide
theorem fw:(("_law_tree":Str) == ("__classdict__":Str))=false:=by decide
theorem fM:(("_law_beside":Str) == ("__debug__":Str))=false:=by decide
theorem fN:(("_law_beside":Str) == ("__classdict__":Str))=false:=by decide
theorem rK:(("_law_kinds":Str) == ("__debug__":Str))=false:=by decide
theorem pP:(("_law_turned":Str) == ("__debug__":Str))=false:=by decide
theorem uc:(("Tree":Str) == ("__debug__":Str))=false:=by decide
theorem tD:(("_law_rule":Str) == ("__debug__":Str))=false:=by decide
theorem tE:(("_law_rule":Str) == ("__classdict__":Str))=false:=by decide
theorem tF:(("_law_rows":Str) == ("__debug__":Str))=false:=by decide
theorem jX:(("_law_is":Str) == ("__debug__":Str))=false:=by decide
theorem mB:(("_law_otherwise":Str) == ("__debug__":Str))=false:=by decide
theorem kG:(("_law_count":Str) == ("__debug__":Str))=false:=by decide
abbrev aF:Stmt:=top 68
theorem cU:FnScope ["_law_script","_law_kinds_here","_law_rows_here","_law_looks","_law_tree","_law_number","_law_note_here","_law_rule","_law_other","_law_some","_law_beside"] ["_law_script"] (defScope aF):=⟨rfl,rfl,rfl,by decide +kernel,rfl,by decide +kernel,by decide +kernel⟩
theorem ip:Vis (defScope aF) "_law_script":=by decreasing_trivial
theorem fO:Vis (defScope aF) "_law_kinds_here":=by decreasing_trivial
theorem u8:Loc (defScope aF) "_law_kinds_here":=by first | exact Or.inl rfl | exact Or.inr rfl
theorem lY:Vis (defScope aF) "_law_rows_here":=by decreasing_trivial
theorem u9:Loc (defScope aF) "_law_rows_here":=by first | exact Or.inl rfl | exact Or.inr rfl
theorem pQ:Vis (defScope aF) "_law_looks":=by decreasing_trivial
theorem va:Loc (defScope aF) "_law_looks":=by first | exact Or.inl rfl | exact Or.inr rfl
theorem lZ:Vis (defScope aF) "_law_tree":=by decreasing_trivial
theorem vd:Loc (defScope aF) "_law_tree":=by first | exact Or.inl rfl | exact Or.inr rfl
theorem md:Vis (defScope aF) "_law_number":=by decreasing_trivial
theorem ud:Loc (defScope aF) "_law_number":=by first | exact Or.inl rfl | exact Or.inr rfl
theorem me:Vis (defScope aF) "_law_note_here":=by decreasing_trivial
theorem ue:Loc (defScope aF) "_law_note_here":=by first | exact Or.inl rfl | exact Or.inr rfl
theorem ve:Vis (defScope aF) "_law_rule":=by decreasing_trivial
theorem uf:Loc (defScope aF) "_law_rule":=by first | exact Or.inl rfl | exact Or.inr rfl
theorem ug:Vis (defScope aF) "_law_other":=by decreasing_trivial
theorem vf:Loc (defScope aF) "_law_other":=by first | exact Or.inl rfl | exact Or.inr rfl
theorem uh:Vis (defScope aF) "_law_some":=by decreasing_trivial
theorem ui:Loc (defScope aF) "_law_some":=by first | exact Or.inl rfl | exact Or.inr rfl
theorem nu:Vis (defScope aF) "_law_beside":=by decreasing_trivial
theorem uX:Loc (defScope aF) "_law_beside":=by first | exact Or.inl rfl | exact Or.inr rfl
theorem nv:(defScope aF).names.lookup ("_law_kinds":Str)=some .globalImplicit:=by rfl
theorem mC:(defScope aF).names.lookup ("_law_turned":Str)=some .globalImplicit:=by rfl
theorem oB:(defScope aF).names.lookup ("_law_rows":Str)=some .globalImplicit:=by rfl
theorem df:(defScope aF).names.lookup ("_law_cell_at":Str)=some .globalImplicit:=by rfl
theorem oC:(defScope aF).names.lookup ("all_looks":Str)=some .globalImplicit:=by rfl
theorem lX:(defScope aF).names.lookup ("len":Str)=some .globalImplicit:=by rfl
theorem oE:(defScope aF).names.lookup ("Tree":Str)=some .globalImplicit:=by rfl
theorem jY:(defScope aF).names.lookup ("list":Str)=some .globalImplicit:=by rfl
theorem gO:(defScope aF).names.lookup ("_law_is":Str)=some .globalImplicit:=by rfl
theorem iN:(defScope aF).names.lookup ("_law_count":Str)=some .globalImplicit:=by rfl
theorem ny:(defScope aF).names.lookup ("_law_plain":Str)=some .globalImplicit:=by rfl
theorem jZ:(defScope aF).names.lookup ("_law_otherwise":Str)=some .globalImplicit:=by rfl
def BR (K:PySem.W.Frag) (cs:NC) (C:Addr) (C':Addr) (sp:Sp):Prop:=C'=C∧sp=C5 K cs C
theorem NumsAt.same' {K:PySem.W.Frag} {H H':Hp} {vs:List V} {ks:List (List Int)} (h:NumsAt K H vs ks) (e:Same H H'):NumsAt K H' vs ks:=NumsAt.ts h (TS.of e)
theorem TreeAt.same {K:PySem.W.Frag} {cs:NC} {C:Addr} {H H':Hp} {x:Addr} {ks:List Kd2} {z:Str} {rs:List Rw} (h:TreeAt K cs C H x ks z rs) (e:Same H H'):TreeAt K cs C H' x ks z rs:=by
 obtain⟨dx,gl,nl,pl,tl,cl,ns,sk,pk,tk,ck,hx,T⟩:=h
 exact⟨dx,gl,nl,pl,tl,cl,ns,sk,pk,tk,ck,e _ _ hx,⟨T.kd.same e,e _ _ T.n,NumsAt.same' T.na e,e _ _ T.p,e _ _ T.t,e _ _ T.c,T.perm,T.asc,T.p0,T.pr,fun r hr=>by obtain⟨a,h1,h2⟩:=T.tr r hr; exact⟨a,h1,ObjN.same e h2⟩,T.cr⟩⟩
theorem BU {K:PySem.W.Frag} {cs:NC} {C:Addr} {H:Hp} {x dx l1 l2:Addr} {z:Str} {kx us:List V} {ks:List Kd2} {rs:List Rw} {Q:VK} {E:XK} (hx:H x=none) (hdx:H dx=none) (L1:SqL K H l1 kx) (KA:KnA K H kx ks) (kok:KsOk ks) (okz:Aa z) (L2':SqL K H l2 us) (ra:RowsAt K H us rs) (rok:RsOk 5 rs) (r1:1≤rs.length) (r24:rs.length≤24) (q:∀ H',Same H H'→TreeAt K cs C H' x ks z rs→Q .non H') :
  xq K cs C [.ref x,.ref l1,.str z,.ref l2] (upd (upd H dx (.own x)) x (.ins C dx [])) Q E:=by
 have S1:Same H (upd (upd H dx (.own x)) x (.ins C dx [])):=fun b u h=>by rw[gS (kB h hx),gS (kB h hdx)]; exact h
 exact⟨x,l1,l2,dx,z,kx,us,ks,rs,rfl,fj,S1.seq L1,KA.same S1,kok,okz,S1.seq L2',RowsAt.ts ra (TS.of S1),rok,r1,r24,fun H' T B=>q H' (fun b u h=>B b u (kB h hx) (S1 b u h)) T⟩
theorem yc {K:PySem.W.Frag} {cs:NC} {C:Addr} {H:Hp} {x a:Addr} {ks:List Kd2} {z:Str} {rs:List Rw} {r:Rw} {Q:VK} (T:TreeAt K cs C H x ks z rs) (ha:H a=some (.tup (r.num.map V.int))) (mr:r∈rs) (q:Q (.int (cntL ks r.note (LK ks.length):Nat)) H) :
  ∃ C' dx fs,H x=some (.ins C' dx fs)∧fs.lookup ("looked":Str)=none∧∃ sp,BR K cs C C' sp∧sp [.ref x,.ref a] H Q E0:=by
 obtain⟨dx,gl,nl,pl,tl,cl,ns,sk,pk,tk,ck,hx,T'⟩:=id T
 exact⟨C,dx,_,hx,rfl,_,⟨rfl,rfl⟩,x,a,ks,z,rs,r,rfl,T,ha,mr,q⟩
theorem zO {K:PySem.W.Frag} {cs:NC} {C:Addr} {H:Hp} {x:Addr} {ks:List Kd2} {z:Str} {rs:List Rw} {Q:VK} {xs:List V} (r:Rw) (T:TreeAt K cs C H x ks z rs) (mr:r∈rs) (e:r.num.map V.int=xs) (hn:xs.length≤64) (q:∀ H',Same H H'→Q (.int (cntL ks r.note (LK ks.length):Nat)) H') :
  ∃ C' dx fs,H x=some (.ins C' dx fs)∧fs.lookup ("looked":Str)=none∧∃ sp,BR K cs C C' sp∧xs.length≤sizeLine∧∀ p,H p=none→sp [.ref x,.ref p] (upd H p (.tup xs)) Q E0:=by
 obtain⟨dx,gl,nl,pl,tl,cl,ns,sk,pk,tk,ck,hx,T'⟩:=id T
 subst e
 exact⟨C,dx,_,hx,rfl,_,⟨rfl,rfl⟩,nW hn,fun p hp=>⟨x,p,ks,z,rs,r,rfl,TreeAt.same T (gI hp _),fj,mr,q _ (gI hp _)⟩⟩
theorem Ky {ks:List Kd2} {n n':Nt} (h:∀ ks lk,iS ks lk n'=iS ks lk n) (L:List (List Int)):cntL ks n' L=cntL ks n L:=by
 unfold cntL
 rw[show (fun lk=>iS ks lk n')=fun lk=>iS ks lk n from funext fun lk=>h ks lk]
theorem HG {ks:List Kd2} {n m:Nt}:∀ L:List (List Int),cntL ks (.both m n) L≤cntL ks n L:=fun L=>by
 unfold cntL
 rw[← List.countP_eq_length_filter,← List.countP_eq_length_filter]
 refine List.countP_mono_left fun lk _ h=>?_
 have h':(iS ks lk m && iS ks lk n)=true:=h
 rw[Bool.and_eq_true] at h'
 exact h'.2
theorem Je {ks:List Kd2}:∀ L:List (List Int),cntL ks .any L=L.length:=fun L=>by
 unfold cntL
 exact congrArg List.length (List.filter_eq_self.mpr fun lk _=>rfl)
section
variable {P:Program} {w:World} {K:PySem.W.Frag} {mg:Str→Option Value} {base:Heap} {f:Addr} {fd:FuncData} {cs:NC} {C:Addr}
theorem J4 (F:Fun K "law" "law" aF f fd) (M:Mg mg) (tc:TrC K C) (ne:∀ j,j<8→v7 cs j≠C) (jl:Cal P w K mg base CX0 "_law_kinds" 2 ["_law_script"] (AJ K)) (j3:Cal P w K mg base CX0 "_law_rows" 6 ["_law_script","_law_kinds_here"] (AE K)) (iO:Cal P w K mg base CX0 "_law_turned" 1 ["_law_rows_here","_law_cell"] (yV K)) (aB:Cal P w K mg base CX0 "_law_cell_at" 1 ["_law_script","_law_k"] (wO K)) (dQ:Cal P w K mg base CX0 "all_looks" 4 ["many"] (xA K)) (Z_Tree:MkC P w K mg base "Tree" C 12 ["self","kinds","rule","rows"] (xq K cs C)) (D_looked:∀ C' sp,BR K cs C C' sp→Disp P w K mg base "looked" 1 ["self","number"] C' sp) (fV:Cal P w K mg base CX0 "_law_count" 9 ["_law_note_here","_law_kinds_here","_law_looks"] (AX K)) (cu:Cal P w K mg base CX0 "_law_plain" 1 ["_law_cell","_law_kinds_here"] (wG K)) (fA:Cal P w K mg base CX0 "_law_otherwise" 7 ["_law_note_here","_law_other","_law_cell"] (AB K)) (iP:Cal P w K mg base CX0 "_law_is" 1 ["_law_found","_law_due"] (HQ K)):FnOk P w K mg base CX0 14 f fd ["_law_script"] (BO K):=by
 refine F.ok cU (fun vs H Q E h=>?_) (fun cdv A outer s H vs Q E hr h=>?_)
 ·obtain⟨a,ns,rfl,_⟩:=h
  rfl
 obtain⟨a,ns,rfl,hS,l63,q⟩:=h
 refine⟨_,(@fz _ _ _ _ _ (@ni _ _ 1 _ _ _ _ cU.nd rfl u8 (@gY _ _ _ _ _ _ _ _ _ _ _ jl hr nv (@cg _ _ _ _ _ (@eF _ 0 _ _ rfl ip av aw) (@eY _) (cT rfl)) (by decide) rK (cT rfl) gj) (mj rfl) (.inl rfl)) (@fz _ _ _ _ _ (@ni _ _ 2 _ _ _ _ cU.nd rfl u9 (@gY _ _ _ _ _ _ _ _ _ _ _ iO hr mC (@cg _ _ _ _ _ (@gY _ _ _ _ _ _ _ _ _ _ _ j3 hr oB (@cg _ _ _ _ _ (@eF _ 0 _ _ rfl ip av aw) (@cg _ _ _ _ _ (@eF _ 1 _ _ rfl fO aa ae) (@eY _) (cT rfl)) (cT rfl)) (by decide) tF (cT rfl) (iT rfl gj)) (@cg _ _ _ _ _ (@gY _ _ _ _ _ _ _ _ _ _ _ aB hr df (@cg _ _ _ _ _ (@eF _ 0 _ _ rfl ip av aw) (@cg _ _ _ _ _ (@ff _ _ _ _) (@eY _) (cT rfl)) (cT rfl)) (by decide) aG (cT rfl) (iT rfl gj)) (@eY _) (cT rfl)) (cT rfl)) (by decide) pP (cT rfl) (iT rfl gj)) (mj rfl) (.inl rfl)) (@fz _ _ _ _ _ (@ni _ _ 3 _ _ _ _ cU.nd rfl va (@gY _ _ _ _ _ _ _ _ _ _ _ dQ hr oC (@cg _ _ _ _ _ (@ki _ _ _ _ _ _ _ _ _ m9 lX M.m_len qZ (@cg _ _ _ _ _ (@eF _ 1 _ _ rfl fO aa ae) (@eY _) (cT rfl)) aq ao (cT rfl) gj) (@eY _) (cT rfl)) (by decide) iK (cT rfl) gj) (mj rfl) (.inl rfl)) (@fz _ _ _ _ _ (@ni _ _ 4 _ _ _ _ cU.nd rfl vd (@vG _ _ _ _ _ _ _ _ _ _ _ _ Z_Tree hr oE (@cg _ _ _ _ _ (@vC _ _ _ _ _ _ _ _ _ yw jY M.m_list x9 (@cg _ _ _ _ _ (@eF _ 1 _ _ rfl fO aa ae) (@eY _) (cT rfl)) eT eR (cT rfl) gj) (@cg _ _ _ _ _ (@nS _ _ _ _) (@cg _ _ _ _ _ (@vC _ _ _ _ _ _ _ _ _ yw jY M.m_list x9 (@cg _ _ _ _ _ (@eF _ 2 _ _ rfl lY al am) (@eY _) (cT rfl)) eT eR (cT rfl) gj) (@eY _) (cT rfl)) (cT rfl)) (cT rfl)) (by decide) uc (cT rfl) (iT rfl (iT rfl gj))) (mj rfl) (.inl rfl)) (@fz _ _ _ _ _ (@vZ _ _ _ _ _ _ _ _ PassesOwn.never rfl (@uo _ _ _ _ (@eF _ 2 _ _ rfl lY al am)) (@CJ _ _ _ _ _ _ rfl (@t9 _ _ _ _ _ (@pF _ _ 5 _ cU.nd rfl ud (.inl rfl)) (@t9 _ _ _ _ _ (@pF _ _ 6 _ cU.nd rfl ue (.inl rfl)) (@t9 _ _ _ _ _ (@pF _ _ 7 _ cU.nd rfl uf (.inl rfl)) (@xF _) (by rfl)) (by rfl)) (by rfl)) (by rfl) (by rfl)) (@fS _ _ _ (@pG _ _ _ _ _ _ _ _ (@tw _ _ _ _ (@qY _ _ _ (@gY _ _ _ _ _ _ _ _ _ _ _ iP hr gO (@cg _ _ _ _ _ (@sF _ _ _ _ _ _ _ _ _ _ _ _ _ _ (@eF _ 4 _ _ rfl lZ fu fw) D_looked hr (@cg _ _ _ _ _ (@eF _ 5 _ _ rfl md cO cP) (@eY _) (cT rfl)) (by decide) (cT rfl) gj (by rfl)) (@cg _ _ _ _ _ (@gY _ _ _ _ _ _ _ _ _ _ _ fV hr iN (@cg _ _ _ _ _ (@eF _ 6 _ _ rfl me af ag) (@cg _ _ _ _ _ (@eF _ 1 _ _ rfl fO aa ae) (@cg _ _ _ _ _ (@eF _ 3 _ _ rfl pQ dO dP) (@eY _) (cT rfl)) (cT rfl)) (cT rfl)) (by decide) kG (cT rfl) (iT rfl (iT rfl gj))) (@eY _) (cT rfl)) (cT rfl)) (by decide) jX (cT rfl) (iT rfl gj)) (rS rfl))) (@fS _ _ _ (@jm _ _ _ _ (@sf _ _ _ _))) (@mO _))) (by intro _; rfl)) (@fz _ _ _ _ _ (@G2 _ _ _ _ _ _ (@kZ _ _ _ _ _ _ _ (@ix_list _) (@eF _ 2 _ _ rfl lY al am) (@kT _ _ _ _ _ _ _ _ (@p5 _) (@gY _ _ _ _ _ _ _ _ _ _ _ aB hr df (@cg _ _ _ _ _ (@eF _ 0 _ _ rfl ip av aw) (@cg _ _ _ _ _ (@ff _ _ _ _) (@eY _) (cT rfl)) (cT rfl)) (by decide) aG (cT rfl) (iT rfl gj)) (@ki _ _ _ _ _ _ _ _ _ m9 lX M.m_len qZ (@cg _ _ _ _ _ (@eF _ 2 _ _ rfl lY al am) (@eY _) (cT rfl)) aq ao (cT rfl) gj)) (fun _ _=>rfl)) (@CJ _ _ _ _ _ _ rfl (@t9 _ _ _ _ _ (@pF _ _ 5 _ cU.nd rfl ud (.inl rfl)) (@t9 _ _ _ _ _ (@pF _ _ 6 _ cU.nd rfl ue (.inl rfl)) (@t9 _ _ _ _ _ (@pF _ _ 7 _ cU.nd rfl uf (.inl rfl)) (@xF _) (by rfl)) (by rfl)) (by rfl)) (by rfl) (by rfl)) (by rfl) (by rfl) (by rfl)) (@fz _ _ _ _ _ (@ni _ _ 8 _ _ _ _ cU.nd rfl vf (@gY _ _ _ _ _ _ _ _ _ _ _ cu hr ny (@cg _ _ _ _ _ (@kT _ _ _ _ _ _ _ _ (@p5 _) (@gY _ _ _ _ _ _ _ _ _ _ _ aB hr df (@cg _ _ _ _ _ (@eF _ 0 _ _ rfl ip av aw) (@cg _ _ _ _ _ (@ff _ _ _ _) (@eY _) (cT rfl)) (cT rfl)) (by decide) aG (cT rfl) (iT rfl gj)) (@kT _ _ _ _ _ _ _ _ (@JR _) (@ff _ _ _ _) (@ff _ _ _ _))) (@cg _ _ _ _ _ (@eF _ 1 _ _ rfl fO aa ae) (@eY _) (cT rfl)) (cT rfl)) (by decide) gC (cT rfl) (iT rfl gj)) (mj rfl) (.inl rfl)) (@fz _ _ _ _ _ (@ni _ _ 9 _ _ _ _ cU.nd rfl ui (@vY _ _ _ _ (@cg _ _ _ _ _ (@nP _ _ _ _ _ (@cg _ _ _ _ _ (@nP _ _ _ _ _ (@cg _ _ _ _ _ (@ff _ _ _ _) (@eY _) (cT rfl))) (@cg _ _ _ _ _ (@gY _ _ _ _ _ _ _ _ _ _ _ fA hr jZ (@cg _ _ _ _ _ (@eF _ 6 _ _ rfl me af ag) (@cg _ _ _ _ _ (@eF _ 8 _ _ rfl ug bZ cb) (@cg _ _ _ _ _ (@gY _ _ _ _ _ _ _ _ _ _ _ aB hr df (@cg _ _ _ _ _ (@eF _ 0 _ _ rfl ip av aw) (@cg _ _ _ _ _ (@ff _ _ _ _) (@eY _) (cT rfl)) (cT rfl)) (by decide) aG (cT rfl) (iT rfl gj)) (@eY _) (cT rfl)) (cT rfl)) (cT rfl)) (by decide) mB (cT rfl) (iT rfl (iT rfl gj))) (@cg _ _ _ _ _ (@nS _ _ _ _) (@eY _) (cT rfl)) (cT rfl)) (cT rfl))) (@eY _) (cT rfl))) (mj rfl) (.inl rfl)) (@fz _ _ _ _ _ (@ni _ _ 9 _ _ _ _ cU.nd rfl ui (@kT _ _ _ _ _ _ _ _ (@G9 _) (@eF _ 9 _ _ rfl uh br bu) (@vY _ _ _ _ (@cg _ _ _ _ _ (@nP _ _ _ _ _ (@cg _ _ _ _ _ (@nP _ _ _ _ _ (@cg _ _ _ _ _ (@ff _ _ _ _) (@cg _ _ _ _ _ (@ff _ _ _ _) (@eY _) (cT rfl)) (cT rfl))) (@cg _ _ _ _ _ (@nP _ _ _ _ _ (@cg _ _ _ _ _ (@nS _ _ _ _) (@cg _ _ _ _ _ (@eF _ 8 _ _ rfl ug bZ cb) (@cg _ _ _ _ _ (@eF _ 6 _ _ rfl me af ag) (@eY _) (cT rfl)) (cT rfl)) (cT rfl))) (@cg _ _ _ _ _ (@nS _ _ _ _) (@eY _) (cT rfl)) (cT rfl)) (cT rfl))) (@cg _ _ _ _ _ (@nP _ _ _ _ _ (@cg _ _ _ _ _ (@nP _ _ _ _ _ (@cg _ _ _ _ _ (@ff _ _ _ _) (@eY _) (cT rfl))) (@cg _ _ _ _ _ (@nP _ _ _ _ _ (@cg _ _ _ _ _ (@nS _ _ _ _) (@eY _) (cT rfl))) (@cg _ _ _ _ _ (@nS _ _ _ _) (@eY _) (cT rfl)) (cT rfl)) (cT rfl))) (@eY _) (cT rfl)) (cT rfl)))) (mj rfl) (.inl rfl)) (@fz _ _ _ _ _ (@ni _ _ 10 _ _ _ _ cU.nd rfl uX (@vG _ _ _ _ _ _ _ _ _ _ _ _ Z_Tree hr oE (@cg _ _ _ _ _ (@vC _ _ _ _ _ _ _ _ _ yw jY M.m_list x9 (@cg _ _ _ _ _ (@eF _ 1 _ _ rfl fO aa ae) (@eY _) (cT rfl)) eT eR (cT rfl) gj) (@cg _ _ _ _ _ (@eF _ 7 _ _ rfl ve tD tE) (@cg _ _ _ _ _ (@eF _ 9 _ _ rfl uh br bu) (@eY _) (cT rfl)) (cT rfl)) (cT rfl)) (by decide) uc (cT rfl) (iT rfl (iT rfl gj))) (mj rfl) (.inl rfl)) (@fz _ _ _ _ _ (@pG _ _ _ _ _ _ _ _ (@PW.pt _ _ _ (@wR _ _ _ _ _ _ _ (@mL _ _ _ _ _ _ _ _ (@zx _) (@sF _ _ _ _ _ _ _ _ _ _ _ _ _ _ (@eF _ 10 _ _ rfl nu fM fN) D_looked hr (@cg _ _ _ _ _ (@nP _ _ _ _ _ (@cg _ _ _ _ _ (@ff _ _ _ _) (@eY _) (cT rfl))) (@eY _) (cT rfl)) (by decide) (cT rfl) gj (by rfl)) (@sF _ _ _ _ _ _ _ _ _ _ _ _ _ _ (@eF _ 4 _ _ rfl lZ fu fw) D_looked hr (@cg _ _ _ _ _ (@eF _ 5 _ _ rfl md cO cP) (@eY _) (cT rfl)) (by decide) (cT rfl) gj (by rfl)) (nj _)) (@wC _ _ _ _ (@mL _ _ _ _ _ _ _ _ (@Ac _) (@sF _ _ _ _ _ _ _ _ _ _ _ _ _ _ (@eF _ 10 _ _ rfl nu fM fN) D_looked hr (@cg _ _ _ _ _ (@nP _ _ _ _ _ (@cg _ _ _ _ _ (@ff _ _ _ _) (@cg _ _ _ _ _ (@ff _ _ _ _) (@eY _) (cT rfl)) (cT rfl))) (@eY _) (cT rfl)) (by decide) (cT rfl) gj (by rfl)) (@sF _ _ _ _ _ _ _ _ _ _ _ _ _ _ (@eF _ 4 _ _ rfl lZ fu fw) D_looked hr (@cg _ _ _ _ _ (@eF _ 5 _ _ rfl md cO cP) (@eY _) (cT rfl)) (by decide) (cT rfl) gj (by rfl)) (nj _))))) (@fS _ _ _ (@jm _ _ _ _ (@sf _ _ _ _))) (@mO _)) (@fS _ _ _ (@jm _ _ _ _ (@vH _ _ _ _ _ _ _ (@gY _ _ _ _ _ _ _ _ _ _ _ iP hr gO (@cg _ _ _ _ _ (@sF _ _ _ _ _ _ _ _ _ _ _ _ _ _ (@eF _ 10 _ _ rfl nu fM fN) D_looked hr (@cg _ _ _ _ _ (@nP _ _ _ _ _ (@cg _ _ _ _ _ (@ff _ _ _ _) (@eY _) (cT rfl))) (@eY _) (cT rfl)) (by decide) (cT rfl) gj (by rfl)) (@cg _ _ _ _ _ (@ki _ _ _ _ _ _ _ _ _ m9 lX M.m_len qZ (@cg _ _ _ _ _ (@eF _ 3 _ _ rfl pQ dO dP) (@eY _) (cT rfl)) aq ao (cT rfl) gj) (@eY _) (cT rfl)) (cT rfl)) (by decide) jX (cT rfl) (iT rfl gj)) (@vz _ _ _ _ _ (@gY _ _ _ _ _ _ _ _ _ _ _ iP hr gO (@cg _ _ _ _ _ (@sF _ _ _ _ _ _ _ _ _ _ _ _ _ _ (@eF _ 4 _ _ rfl lZ fu fw) D_looked hr (@cg _ _ _ _ _ (@eF _ 5 _ _ rfl md cO cP) (@eY _) (cT rfl)) (by decide) (cT rfl) gj (by rfl)) (@cg _ _ _ _ _ (@gY _ _ _ _ _ _ _ _ _ _ _ fV hr iN (@cg _ _ _ _ _ (@eF _ 6 _ _ rfl me af ag) (@cg _ _ _ _ _ (@eF _ 1 _ _ rfl fO aa ae) (@cg _ _ _ _ _ (@eF _ 3 _ _ rfl pQ dO dP) (@eY _) (cT rfl)) (cT rfl)) (cT rfl)) (by decide) kG (cT rfl) (iT rfl (iT rfl gj))) (@eY _) (cT rfl)) (cT rfl)) (by decide) jX (cT rfl) (iT rfl gj))))))))))))))))),?_⟩
 refine rP fun tl htl=>?_
 trivial
 refine⟨a,ns,rfl,hS,fun kl kx ks H1 S1 hkl dkl td kok=>?_⟩
 have k1:=kok.l1
 have k4:=kok.l4
 have KA:KnA K H1 kx ks:=TpD.kna td
 have lkx:kx.length=ks.length:=KA.length
 show tl _ _ _
 rw[htl]
 clear htl tl
 refine rP fun tl htl=>?_
 trivial
 refine⟨a,kl,ns,kx,ks,rfl,S1.seq hS,SqL.of dkl,KA,k1,k4,kok.name,fun l0 vs0 rs0 H2 S2 hl0 dl0 ra0 rok0 r1 r8=>?_⟩
 have S02:=S1.trans S2
 refine r9 (S02.seq hS) (by decide) ?_
 refine⟨l0,_,vs0,rs0,rfl,dl0,ra0,r1,r8,fun rl us rs H3 S3 hrl drl ra pm=>?_⟩
 have rok:RsOk 4 rs:=RsOk.perm rok0 pm
 have lrs:rs.length=rs0.length:=pm.length_eq
 have S13:=S2.trans S3
 have S03:=S1.trans S13
 show tl _ _ _
 rw[htl]
 clear htl tl
 refine rP fun tl htl=>?_
 trivial
 refine⟨_,.inl (SqL.of (S13 _ _ dkl)),?_⟩
 rw[lkx]
 refine⟨ks.length,rfl,k1,k4,fun ll lus H4 S4 hll dll tps=>?_⟩
 have S14:=S13.trans S4
 show tl _ _ _
 rw[htl]
 clear htl tl
 refine rP fun tl htl=>?_
 trivial
 refine⟨_,SqL.of (S14 _ _ dkl),fun k5 hk5=>?_⟩
 obtain⟨H5,g5,S5,L5⟩:∃ H5,H5=upd H4 k5 (.lst kx)∧Same H4 H5∧H5 k5=some (.lst kx):=⟨_,rfl,gI hk5 _,fj⟩
 rw[← g5]
 clear g5
 have drl5:=(S4.trans S5) _ _ drl
 refine⟨_,SqL.of drl5,fun r6 hr6=>?_⟩
 obtain⟨H6,g6,S6,L6⟩:∃ H6,H6=upd H5 r6 (.lst us)∧Same H5 H6∧H6 r6=some (.lst us):=⟨_,rfl,gI hr6 _,fj⟩
 rw[← g6]
 clear g6
 intro tx dx htx hdx hne
 have S36:=(S4.trans S5).trans S6
 have S16:=S13.trans S36
 refine BU htx hdx (SqL.of (S6 _ _ L5)) (KA.same S16) kok (.inr rfl) (SqL.of L6) (RowsAt.ts ra (TS.of S36)) (rok.mono (by decide)) (by omega) (by omega) fun H7 S7 T7=>⟨rfl,?_⟩
 have S37:=S36.trans S7
 have S17:=S13.trans S37
 have S47:=(S5.trans S6).trans S7
 have S07:=S1.trans S17
 have ra7:=RowsAt.ts ra (TS.of S37)
 have kd7:KdAt K H7 kl ks:=⟨⟨kx,SqL.of (S17 _ _ dkl),KA.same S17⟩,k1,k4,kok.name⟩
 have dll7:=S47 _ _ dll
 have tp7:=Tps.same S47 tps
 have drl7:=S37 _ _ drl
 have lL:(LK ks.length).length≤1000:=by
  unfold LK
  rw[List.length_map]
  exact (zL k1 k4).1
 have lks:∀ lk∈LK ks.length,lk.length=ks.length∧∀ x∈lk,0≤x:=fun lk hlk=>by
  have:=Hs k1 k4 lk hlk
  exact⟨this.1,this.2.1⟩
 show tl _ _ _
 rw[htl]
 clear htl tl
 refine rP fun tl htl=>?_
 trivial
 refine⟨⟨_,SqL.of drl7⟩,?_⟩
 obtain⟨Pv,hP⟩:∃ Pv:Nat→St→Hp→Prop,Pv=fun i σ H'=>∃ (y5 y6 y7:Option V),Same H7 H'∧σ=[some (V.ref a),some (V.ref kl),some (V.ref rl),some (V.ref ll),some (V.ref tx),y5,y6,y7,none,none,none]:=⟨_,rfl⟩
 refine wX us Pv ?_ (fun i σ H' _ h=>by rw[hP] at h; obtain⟨_,_,_,e,_⟩:=h; exact SqL.of (e _ _ drl7)) ?_ ?_
 ·rw[hP]
  exact⟨_,_,_,Same.refl _,rfl⟩
 ·intro i v σ H' hv h
  rw[hP] at h
  obtain⟨y5,y6,y7,e,rfl⟩:=h
  obtain⟨r,hr',hrow⟩:=uH (RowsAt.ts ra7 (TS.of e)) hv
  obtain⟨p',a',t',rfl,h2',h3',h4'⟩:=id hrow
  have mr:=List.mem_of_getElem? hr'
  have okr:=rok.ok r mr
  trivial
  refine⟨_,h2',rfl,_,_,rfl,_,_,rfl,_,_,rfl,rfl,yc (TreeAt.same T7 e) h3' mr ?_⟩
  refine⟨t',kl,ll,lus,r.note,ks,LK ks.length,rfl,h4',okr.1,by omega,kd7.same e,SqL.of (e _ _ dll7),Tps.same e tp7,lL,lks,fun H9 S9=>⟨_,rfl,true,rfl,?_⟩⟩
  rw[if_neg (by decide),hP]
  exact⟨_,_,_,e.trans S9,rfl⟩
 intro σ H8 h
 rw[hP] at h
 obtain⟨y5,y6,y7,S8,rfl⟩:=h
 clear hP Pv
 show tl _ _ _
 rw[htl]
 clear htl tl
 refine EZ fun tl htl=>?_
 trivial
 have S08:=S07.trans S8
 have drl8:=S8 _ _ drl7
 have lus':us.length=rs.length:=Paired.length ra7
 refine r9 (S08.seq hS) (by decide) ⟨_,.inl (SqL.of drl8),_,rfl,by exact Oz70 r1 lrs lus',_,SqL.of drl8,?_⟩
 obtain⟨c15,h15⟩:∃ c,cellAt ns 15=c:=⟨_,rfl⟩
 rw[h15]
 have j0:=Int.emod_nonneg c15 (show (us.length:Int)≠0 by omega)
 have j1:=Int.emod_lt_of_pos c15 (show (0:Int)<(us.length:Int) by exact Oz70 r1 lrs lus')
 obtain⟨j,hj⟩:∃ j:Nat,c15 % (us.length:Int)=j:=⟨(c15 % (us.length:Int)).toNat,by exact Oz2 j0⟩
 obtain⟨v,hv⟩:∃ v,us[j]?=some v:=⟨_,List.getElem?_eq_getElem (by exact Oz16 j1 hj)⟩
 obtain⟨r,hr',hrow⟩:=uH (RowsAt.ts ra7 (TS.of S8)) hv
 obtain⟨p',na,nt,rfl,h2',h3',h4'⟩:=id hrow
 have mr:=List.mem_of_getElem? hr'
 have okr:=rok.ok r mr
 have rur:=rok.rule r mr
 refine⟨_,(by rw[hj]; exact um hv),_,rfl,_,h2',rfl,_,_,rfl,_,_,rfl,_,_,rfl,rfl,?_⟩
 refine r9 (S08.seq hS) (by decide) ⟨Lb,_,rfl,by decide,?_⟩
 have S18:=S17.trans S8
 refine⟨_,kl,kx,ks,rfl,SqL.of (S18 _ _ dkl),KA.same S18,k1,k4,kok.name,fun op H9 on S9 Ro oo od=>?_⟩
 have S09:=S08.trans S9
 have S79:=S8.trans S9
 show tl _ _ _
 rw[htl]
 clear htl tl
 refine rP fun tl htl=>?_
 trivial
 refine⟨nW,fun p7 hp7=>?_⟩
 obtain⟨Ha,ga,Sa,Ta⟩:∃ Ha,Ha=upd H9 p7 (.tup [V.int 7])∧Same H9 Ha∧Ha p7=some (.tup [V.int 7]):=⟨_,rfl,gI hp7 _,fj⟩
 rw[← ga]
 clear ga
 have S9a:=S9.trans Sa
 refine r9 ((S09.trans Sa).seq hS) (by decide) ?_
 refine⟨nt,op,_,r.note,on,rfl,h4'.same S9a,okr.1,okr.2,Ro.same Sa,oo,od,fun otp n' Hb Sb Rb okb dpb cl=>?_⟩
 refine⟨nW,fun q1 hq1=>?_⟩
 obtain⟨Hc,gc,Sc,Tc⟩:=oR (K:=K) hq1 [V.ref p7,V.ref otp,V.str (Str.ofString "one")]
 rw[← gc]
 clear gc
 refine⟨nW,fun q2 hq2=>?_⟩
 obtain⟨Hd,gd,Sd,Ld⟩:∃ Hd,Hd=upd Hc q2 (.lst [V.ref q1])∧Same Hc Hd∧Hd q2=some (.lst [V.ref q1]):=⟨_,rfl,gI hq2 _,fj⟩
 rw[← gd]
 clear gd
 have S9d:=((Sa.trans Sb).trans Sc).trans Sd
 have S8d:=S9.trans S9d
 show tl _ _ _
 rw[htl]
 clear htl tl
 refine rP fun tl htl=>?_
 trivial
 refine⟨nW,fun w1 hw1=>?_⟩
 obtain⟨A1,b1,Z1,U1⟩:∃ A1,A1=upd Hd w1 (.tup [V.int 7,V.int 1])∧Same Hd A1∧A1 w1=some (.tup [V.int 7,V.int 1]):=⟨_,rfl,gI hw1 _,fj⟩
 rw[← b1]
 clear b1
 refine⟨nW,fun w2 hw2=>?_⟩
 obtain⟨A2,b2,Z2,U2⟩:=oR (K:=K) hw2 [V.str (Str.ofString "both"),V.ref op,V.ref nt]
 rw[← b2]
 clear b2
 refine⟨nW,fun w3 hw3=>?_⟩
 obtain⟨A3,b3,Z3,U3⟩:=oR (K:=K) hw3 [V.ref w1,V.ref w2,V.str (Str.ofString "one")]
 rw[← b3]
 clear b3
 refine⟨nW,fun w4 hw4=>?_⟩
 obtain⟨A4,b4,Z4,U4⟩:∃ A4,A4=upd A3 w4 (.tup [V.int 3])∧Same A3 A4∧A4 w4=some (.tup [V.int 3]):=⟨_,rfl,gI hw4 _,fj⟩
 rw[← b4]
 clear b4
 refine⟨nW,fun w5 hw5=>?_⟩
 obtain⟨A5,b5,Z5,U5⟩:=oR (K:=K) hw5 [V.str (Str.ofString "any")]
 rw[← b5]
 clear b5
 refine⟨nW,fun w6 hw6=>?_⟩
 obtain⟨A6,b6,Z6,U6⟩:=oR (K:=K) hw6 [V.ref w4,V.ref w5,V.str (Str.ofString "near")]
 rw[← b6]
 clear b6
 refine⟨nW,fun w7 hw7=>?_⟩
 obtain⟨A7,b7,Z7,U7⟩:∃ A7,A7=upd A6 w7 (.lst [V.ref w3,V.ref w6])∧Same A6 A7∧A7 w7=some (.lst [V.ref w3,V.ref w6]):=⟨_,rfl,gI hw7 _,fj⟩
 rw[← b7]
 clear b7
 have Z37:=(Z4.trans Z5).trans (Z6.trans Z7)
 have Zd7:=((Z1.trans Z2).trans Z3).trans Z37
 refine⟨_,Zd7 _ _ Ld,_,U7,show 3≤sizeLine by decide,fun w8 hw8=>?_⟩
 obtain⟨A8,b8,Z8,U8⟩:∃ A8,A8=upd A7 w8 (.lst ([V.ref q1]++[V.ref w3,V.ref w6]))∧Same A7 A8∧A8 w8=some (.lst [V.ref q1,V.ref w3,V.ref w6]):=⟨_,rfl,gI hw8 _,fj⟩
 rw[← b8]
 clear b8
 have Zd8:=Zd7.trans Z8
 have S98:=S9d.trans Zd8
 have S88:=S9.trans S98
 have S78:=S8.trans S88
 have ra8:RowsAt K A8 [V.ref q1,V.ref w3,V.ref w6] [⟨[7],n',"one"⟩,⟨[7,1],.both on r.note,"one"⟩,⟨[3],.any,"near"⟩]:=by
  refine .cons ⟨q1,p7,otp,rfl,Same.tup (Sd.trans Zd8) Tc,((Sb.trans Sc).trans (Sd.trans Zd8)) _ _ Ta,Rb.same (Sc.trans (Sd.trans Zd8))⟩ (.cons ⟨w3,w1,w2,rfl,Same.tup (Z37.trans Z8) U3,((Z2.trans Z3).trans (Z37.trans Z8)) _ _ U1,.tup (Same.tup (Z3.trans (Z37.trans Z8)) U2) (.cons (.str _) (.cons (Ro.same S98) (.cons (h4'.same S88) .nil)))⟩ (.cons ⟨w6,w4,w5,rfl,Same.tup (Z7.trans Z8) U6,((Z5.trans Z6).trans (Z7.trans Z8)) _ _ U4,.tup (Same.tup (Z6.trans (Z7.trans Z8)) U5) (.cons (.str _) .nil)⟩ .nil))
 have rok8:RsOk 5 [⟨[7],n',"one"⟩,⟨[7,1],.both on r.note,"one"⟩,⟨[3],.any,"near"⟩]:=by
  refine⟨show ([[7],[7,1],[3]]:List (List Int)).Nodup by decide,?_,?_,?_,?_,?_⟩
  ·simp only [List.forall_mem_cons]
   exact⟨by decide,by decide,by decide,fun _ h=>by cases h⟩
  ·simp only [List.forall_mem_cons]
   exact⟨⟨by decide,fun _ h=>by cases h⟩,⟨by decide,by decide,fun _ h=>by cases h⟩,⟨by decide,fun _ h=>by cases h⟩,fun _ h=>by cases h⟩
  ·simp only [List.forall_mem_cons]
   exact⟨.inl rfl,.inr (.head _),.inl rfl,fun _ h=>by cases h⟩
  ·simp only [List.forall_mem_cons]
   refine⟨⟨okb,dpb⟩,⟨⟨oo,okr.1⟩,?_⟩,⟨trivial,by decide⟩,fun _ h=>by cases h⟩
   show max on.dp r.note.dp+1≤5
   have:=okr.2
   omega
  ·simp only [List.forall_mem_cons]
   exact⟨.inl trivial,.inl trivial,.inr trivial,fun _ h=>by cases h⟩
 show tl _ _ _
 rw[htl]
 clear htl tl
 refine rP fun tl htl=>?_
 trivial
 have S1e:=S17.trans S78
 refine⟨_,SqL.of (S1e _ _ dkl),fun kb hkb=>?_⟩
 obtain⟨A9,b9,Z9,U9⟩:∃ A9,A9=upd A8 kb (.lst kx)∧Same A8 A9∧A9 kb=some (.lst kx):=⟨_,rfl,gI hkb _,fj⟩
 rw[← b9]
 clear b9
 intro bx bd hbx hbd hbn
 refine BU hbx hbd (SqL.of U9) (KA.same (S1e.trans Z9)) kok rur (SqL.of (Z9 _ _ U8)) (RowsAt.ts ra8 (TS.of Z9)) rok8 (show 1≤3 by decide) (show 3≤24 by decide) fun B0 Y0 TB=>⟨rfl,?_⟩
 have S7B:=(S78.trans Z9).trans Y0
 have TT:=TreeAt.same T7 S7B
 have na0:=((S88.trans Z9).trans Y0) _ _ h3'
 show tl _ _ _
 rw[htl]
 clear htl tl
 refine rP fun tl htl=>?_
 trivial
 refine zO ⟨[7],n',"one"⟩ TB (.head _) rfl (show 1≤64 by decide) fun B1 Y1=>?_
 have TT1:=TreeAt.same TT Y1
 refine yc TT1 (Y1 _ _ na0) mr ?_
 refine⟨rfl,?_⟩
 rw[if_pos (by rw[Ky cl])]
 refine zO ⟨[7,1],.both on r.note,"one"⟩ (TreeAt.same TB Y1) (.tail _ (.head _)) rfl (show 2≤64 by decide) fun B2 Y2=>?_
 have Y02:=Y1.trans Y2
 refine yc (TreeAt.same TT Y02) (Y02 _ _ na0) mr ?_
 refine⟨_,rfl,_,rfl,?_⟩
 rw[if_neg (by
  have:=HG (ks:=ks) (n:=r.note) (m:=on) (LK ks.length)
  show ¬ ((cntL ks r.note (LK ks.length):Nat):Int)<((cntL ks (.both on r.note) (LK ks.length):Nat):Int)
  omega)]
 show tl _ _ _
 rw[htl]
 clear htl tl
 trivial
 refine zO ⟨[3],.any,"near"⟩ (TreeAt.same TB Y02) (.tail _ (.tail _ (.head _))) rfl (by decide) fun B3 Y3=>?_
 have Y03:=Y02.trans Y3
 have S7C:=S7B.trans Y03
 refine⟨_,.inl (SqL.of (S7C _ _ dll7)),?_⟩
 have ll':lus.length=(LK ks.length).length:=Tps.len tps
 rw[Je,ll']
 refine⟨_,rfl,true,rfl,?_⟩
 rw[if_pos rfl]
 refine yc (TreeAt.same TT Y03) (Y03 _ _ na0) mr ?_
 refine⟨nt,kl,ll,lus,r.note,ks,LK ks.length,rfl,h4'.same (((S88.trans Z9).trans Y0).trans Y03),okr.1,by have:=okr.2; omega,kd7.same S7C,SqL.of (S7C _ _ dll7),Tps.same S7C tp7,lL,lks,fun B4 Y4=>⟨_,rfl,?_⟩⟩
 exact q _
end
end MyO
namespace My
open MyB MyC MyD MyE MyF MyG MyI MyJ MyK MyL MyM MyN MyO PySem L2
theorem Fg {P:Program} {w:World} {K:PySem.W.Frag} {mg:Str→Option Value} {base:Heap} {f:Addr} {fd:FuncData} {ps:List Str} {spd:Nat→Sp} {L n:Nat} (h:∀ d,FnOk P w K mg base CX0 (L+d) f fd ps (spd d)):FnOk P w K mg base CX0 (L+n) f fd ps (fun vs H Q E=>∃ d,d≤n∧spd d vs H Q E):=by
 refine⟨fun vs H Q E ⟨d,hd,s⟩=>(h d).len _ _ _ _ s,fun A st s H bd us vs Q E hr I hb r ⟨d,hd,sp⟩=>?_⟩
 exact (h d).run A st s H bd us vs Q E (hr.mono (by omega)) I hb r sp
theorem wZ {K:PySem.W.Frag} {c d:Addr} {g:Value} (h1:PySem.W.findIn K (.ref c) "reason"=some (some g)) (h2:PySem.W.findIn K (.ref d) "reason"=some none):c≠d:=fun e=>by
 rw[e,h2] at h1
 cases h1
set_option hygiene false
local macro_rules
| `(`zA $n $f)=>`(PySem.W.nsIn K mainGlobals $n=some (some (.ref $f)))
| `(`zL $f $o $p $n $m $s $k $d $q $a $c $t $l)=>`(K.lookup $f=some ⟨$o,$p,.func (PySem.W.fnOf $n $m (defArgs $s) (defBody $s) (defScope $s) .none $k $d $q $a $c $t),$l⟩)
| `(`zC $c $n)=>`(PySem.W.codeIn K $c $n=true)
| `(`zK $f)=>`(PySem.W.keepIn K (.ref $f)=true)
| `(`zF $c $n $f)=>`(PySem.W.findIn K (.ref $c) $n=some (some (.ref $f)))
| `(`zG $c $n)=>`(PySem.W.findIn K (.ref $c) $n=some none)
| `(`zT $f)=>`(PySem.W.isFn K (.ref $f)=true)
| `(`zD $x $y $z $u)=>`(Cal l.prog w K mg base CX0 $x $y $z $u)
| `(`zN)=>`(⟨c_Anything,c_Made,c_Used,c_Chief,c_Over,c_Both,c_Either,c_But⟩)
| `(`zM $x)=>`(PySem.W.mg_of X G $x)
set_option hygiene true
theorem all_mk {l:PySem.W.OpenLaw} {w:World} {K:PySem.W.Frag} {h:Heap} {mg:Str→Option Value} {fa f1 f2 f3 f4 f5 f6 f7 f8 f9 f10 f11 f12 f13 f14 f15 f16 f17 f18 f19 f20 f21 f22 f23 f24 f25 f26 f27 f28 f29 f30 f31 f32 f33 f34 f35 f36 f37 f38 f39 f40 f41 f42 f43 f44 f45 f46 f47 f48 f49 f50 f51 f52 f53 f54 f55 f56 f57 f58 f59:Addr} (X:K.In h) (G:h.Ns mainGlobals mg) (hfa:mg "law"=some (.ref fa))
  {c_Note c_OfTwo c_Anything c_Made c_Used c_Chief c_Over c_Both c_Either c_But c_Tree:Addr}
  {od1 an1 od2 an2 od3 an3 od4 an4 od5 an5 od6 an6 od7 an7 od8 an8 od9 an9 od10 an10 od11 an11 od12 an12 od13 an13 od14 an14 od15 an15 od16 an16 od17 an17 od18 an18 od19 an19 od20 an20 od21 an21 od22 an22 od23 an23 od24 an24 od25 an25 od26 an26 od27 an27 od28 an28 od29 an29 od30 an30 od31 an31 od32 an32 od33 an33 od34 an34 od35 an35 od36 an36 od37 an37 od38 an38 od39 an39 od40 an40 od41 an41 od42 an42 od43 an43 od44 an44 od45 an45 od46 an46 od47 an47 od48 an48 od49 an49 od50 an50 od51 an51 od52 an52 od53 an53 od54 an54 od55 an55 od56 an56 od57 an57 od58 an58 od59 an59:Option Addr} {sl1 sl2 sl3 sl4 sl5 sl6 sl7 sl8 sl9 sl10 sl11 sl12 sl13 sl14 sl15 sl16 sl17 sl18 sl19 sl20 sl21 sl22 sl23 sl24 sl25 sl26 sl27 sl28 sl29 sl30 sl31 sl32 sl33 sl34 sl35 sl36 sl37 sl38 sl39 sl40 sl41 sl42 sl43 sl44 sl45 sl46 sl47 sl48 sl49 sl50 sl51 sl52 sl53 sl54 sl55 sl56 sl57 sl58 sl59:Array (Option Value)} {oc1 kV1 dc1 pm1 cd1 ct1 oc2 kV2 dc2 pm2 cd2 ct2 oc3 kV3 dc3 pm3 cd3 ct3 oc4 kV4 dc4 pm4 cd4 ct4 oc5 kV5 dc5 pm5 cd5 ct5 oc6 kV6 dc6 pm6 cd6 ct6 oc7 kV7 dc7 pm7 cd7 ct7 oc8 kV8 dc8 pm8 cd8 ct8 oc9 kV9 dc9 pm9 cd9 ct9 oc10 kV10 dc10 pm10 cd10 ct10 oc11 kV11 dc11 pm11 cd11 ct11 oc12 kV12 dc12 pm12 cd12 ct12 oc13 kV13 dc13 pm13 cd13 ct13 oc14 kV14 dc14 pm14 cd14 ct14 oc15 kV15 dc15 pm15 cd15 ct15 oc16 kV16 dc16 pm16 cd16 ct16 oc17 kV17 dc17 pm17 cd17 ct17 oc18 kV18 dc18 pm18 cd18 ct18 oc19 kV19 dc19 pm19 cd19 ct19 oc20 kV20 dc20 pm20 cd20 ct20 oc21 kV21 dc21 pm21 cd21 ct21 oc22 kV22 dc22 pm22 cd22 ct22 oc23 kV23 dc23 pm23 cd23 ct23 oc24 kV24 dc24 pm24 cd24 ct24 oc25 kV25 dc25 pm25 cd25 ct25 oc26 kV26 dc26 pm26 cd26 ct26 oc27 kV27 dc27 pm27 cd27 ct27 oc28 kV28 dc28 pm28 cd28 ct28 oc29 kV29 dc29 pm29 cd29 ct29 oc30 kV30 dc30 pm30 cd30 ct30 oc31 kV31 dc31 pm31 cd31 ct31 oc32 kV32 dc32 pm32 cd32 ct32 oc33 kV33 dc33 pm33 cd33 ct33 oc34 kV34 dc34 pm34 cd34 ct34 oc35 kV35 dc35 pm35 cd35 ct35 oc36 kV36 dc36 pm36 cd36 ct36 oc37 kV37 dc37 pm37 cd37 ct37 oc38 kV38 dc38 pm38 cd38 ct38 oc39 kV39 dc39 pm39 cd39 ct39 oc40 kV40 dc40 pm40 cd40 ct40 oc41 kV41 dc41 pm41 cd41 ct41 oc42 kV42 dc42 pm42 cd42 ct42 oc43 kV43 dc43 pm43 cd43 ct43 oc44 kV44 dc44 pm44 cd44 ct44 oc45 kV45 dc45 pm45 cd45 ct45 oc46 kV46 dc46 pm46 cd46 ct46 oc47 kV47 dc47 pm47 cd47 ct47 oc48 kV48 dc48 pm48 cd48 ct48 oc49 kV49 dc49 pm49 cd49 ct49 oc50 kV50 dc50 pm50 cd50 ct50 oc51 kV51 dc51 pm51 cd51 ct51 oc52 kV52 dc52 pm52 cd52 ct52 oc53 kV53 dc53 pm53 cd53 ct53 oc54 kV54 dc54 pm54 cd54 ct54 oc55 kV55 dc55 pm55 cd55 ct55 oc56 kV56 dc56 pm56 cd56 ct56 oc57 kV57 dc57 pm57 cd57 ct57 oc58 kV58 dc58 pm58 cd58 ct58 oc59 kV59 dc59 pm59 cd59 ct59:Value}
  (n_Note:`zA "Note" c_Note)
  (n_OfTwo:`zA "OfTwo" c_OfTwo)
  (n_Anything:`zA "Anything" c_Anything)
  (n_Made:`zA "Made" c_Made)
  (n_Used:`zA "Used" c_Used)
  (n_Chief:`zA "Chief" c_Chief)
  (n_Over:`zA "Over" c_Over)
  (n_Both:`zA "Both" c_Both)
  (n_Either:`zA "Either" c_Either)
  (n_But:`zA "But" c_But)
  (n_Tree:`zA "Tree" c_Tree)
  (a1:`zA "is_whole" f1) (l1:`zL f1 oc1 od1 "is_whole" "is_whole" cf kV1 dc1 pm1 an1 cd1 ct1 sl1) (c1:`zC cd1 "is_whole") (k1:`zK f1)
  (a2:`zA "is_name" f2) (l2:`zL f2 oc2 od2 "is_name" "is_name" cw kV2 dc2 pm2 an2 cd2 ct2 sl2) (c2:`zC cd2 "is_name") (k2:`zK f2)
  (a3:`zA "is_prefix" f3) (l3:`zL f3 oc3 od3 "is_prefix" "is_prefix" bI kV3 dc3 pm3 an3 cd3 ct3 sl3) (c3:`zC cd3 "is_prefix") (k3:`zK f3)
  (a4:`zA "is_number" f4) (l4:`zL f4 oc4 od4 "is_number" "is_number" ci kV4 dc4 pm4 an4 cd4 ct4 sl4) (c4:`zC cd4 "is_number") (k4:`zK f4)
  (a5:`zA "is_kind" f5) (l5:`zL f5 oc5 od5 "is_kind" "is_kind" cx kV5 dc5 pm5 an5 cd5 ct5 sl5) (c5:`zC cd5 "is_kind") (k5:`zK f5)
  (a6:`zA "are_kinds" f6) (l6:`zL f6 oc6 od6 "are_kinds" "are_kinds" bJ kV6 dc6 pm6 an6 cd6 ct6 sl6) (c6:`zC cd6 "are_kinds") (k6:`zK f6)
  (a7:`zA "kinds_of" f7) (l7:`zL f7 oc7 od7 "kinds_of" "kinds_of" cH kV7 dc7 pm7 an7 cd7 ct7 sl7) (c7:`zC cd7 "kinds_of") (k7:`zK f7)
  (a8:`zA "rank_in" f8) (l8:`zL f8 oc8 od8 "rank_in" "rank_in" cZ kV8 dc8 pm8 an8 cd8 ct8 sl8) (c8:`zC cd8 "rank_in") (k8:`zK f8)
  (a9:`zA "look_of" f9) (l9:`zL f9 oc9 od9 "look_of" "look_of" dB kV9 dc9 pm9 an9 cd9 ct9 sl9) (c9:`zC cd9 "look_of") (k9:`zK f9)
  (a10:`zA "key_of" f10) (l10:`zL f10 oc10 od10 "key_of" "key_of" cF kV10 dc10 pm10 an10 cd10 ct10 sl10) (c10:`zC cd10 "key_of") (k10:`zK f10)
  (a11:`zA "rows_of" f11) (l11:`zL f11 oc11 od11 "rows_of" "rows_of" bH kV11 dc11 pm11 an11 cd11 ct11 sl11) (c11:`zC cd11 "rows_of") (k11:`zK f11)
  (a12:`zA "all_looks" f12) (l12:`zL f12 oc12 od12 "all_looks" "all_looks" bC kV12 dc12 pm12 an12 cd12 ct12 sl12) (c12:`zC cd12 "all_looks") (k12:`zK f12)
  (a13:`zF c_Made "__init__" f13) (l13:`zL f13 oc13 od13 "__init__" "Made.__init__" cL kV13 dc13 pm13 an13 cd13 ct13 sl13) (c13:`zC cd13 "Made.__init__") (k13:`zK f13)
  (t13:`zT f13)
  (a14:`zF c_Used "__init__" f14) (l14:`zL f14 oc14 od14 "__init__" "Used.__init__" cM kV14 dc14 pm14 an14 cd14 ct14 sl14) (c14:`zC cd14 "Used.__init__") (k14:`zK f14)
  (t14:`zT f14)
  (a15:`zF c_Chief "__init__" f15) (l15:`zL f15 oc15 od15 "__init__" "Chief.__init__" cA kV15 dc15 pm15 an15 cd15 ct15 sl15) (c15:`zC cd15 "Chief.__init__") (k15:`zK f15)
  (t15:`zT f15)
  (a16:`zF c_Over "__init__" f16) (l16:`zL f16 oc16 od16 "__init__" "Over.__init__" cj kV16 dc16 pm16 an16 cd16 ct16 sl16) (c16:`zC cd16 "Over.__init__") (k16:`zK f16)
  (t16:`zT f16)
  (a17:`zF c_OfTwo "__init__" f17) (l17:`zL f17 oc17 od17 "__init__" "OfTwo.__init__" bU kV17 dc17 pm17 an17 cd17 ct17 sl17) (c17:`zC cd17 "OfTwo.__init__") (k17:`zK f17)
  (t17:`zT f17)
  (a18:`zA "note_of_name" f18) (l18:`zL f18 oc18 od18 "note_of_name" "note_of_name" aZ kV18 dc18 pm18 an18 cd18 ct18 sl18) (c18:`zC cd18 "note_of_name") (k18:`zK f18)
  (a19:`zA "note_of_notes" f19) (l19:`zL f19 oc19 od19 "note_of_notes" "note_of_notes" aO kV19 dc19 pm19 an19 cd19 ct19 sl19) (c19:`zC cd19 "note_of_notes") (k19:`zK f19)
  (a20:`zA "note_of_one" f20) (l20:`zL f20 oc20 od20 "note_of_one" "note_of_one" aS kV20 dc20 pm20 an20 cd20 ct20 sl20) (c20:`zC cd20 "note_of_one") (k20:`zK f20)
  (a21:`zA "note_within" f21) (l21:`zL f21 oc21 od21 "note_within" "note_within" ak kV21 dc21 pm21 an21 cd21 ct21 sl21) (c21:`zC cd21 "note_within") (k21:`zK f21)
  (a22:`zA "note_of" f22) (l22:`zL f22 oc22 od22 "note_of" "note_of" dC kV22 dc22 pm22 an22 cd22 ct22 sl22) (c22:`zC cd22 "note_of") (k22:`zK f22)
  (a23:`zA "made_places" f23) (l23:`zL f23 oc23 od23 "made_places" "made_places" bX kV23 dc23 pm23 an23 cd23 ct23 sl23) (c23:`zC cd23 "made_places") (k23:`zK f23)
  (a24:`zA "used_places" f24) (l24:`zL f24 oc24 od24 "used_places" "used_places" bY kV24 dc24 pm24 an24 cd24 ct24 sl24) (c24:`zC cd24 "used_places") (k24:`zK f24)
  (a25:`zA "chief_places" f25) (l25:`zL f25 oc25 od25 "chief_places" "chief_places" bb kV25 dc25 pm25 an25 cd25 ct25 sl25) (c25:`zC cd25 "chief_places") (k25:`zK f25)
  (a26:`zA "number_in" f26) (l26:`zL f26 oc26 od26 "number_in" "number_in" cq kV26 dc26 pm26 an26 cd26 ct26 sl26) (c26:`zC cd26 "number_in") (k26:`zK f26)
  (a27:`zA "is_over" f27) (l27:`zL f27 oc27 od27 "is_over" "is_over" cB kV27 dc27 pm27 an27 cd27 ct27 sl27) (c27:`zC cd27 "is_over") (k27:`zK f27)
  (a28:`zA "place_reason" f28) (l28:`zL f28 oc28 od28 "place_reason" "place_reason" bP kV28 dc28 pm28 an28 cd28 ct28 sl28) (c28:`zC cd28 "place_reason") (k28:`zK f28)
  (a29:`zF c_Anything "reason" f29) (l29:`zL f29 oc29 od29 "reason" "Anything.reason" bW kV29 dc29 pm29 an29 cd29 ct29 sl29) (c29:`zC cd29 "Anything.reason") (k29:`zK f29)
  (t29:`zT f29)
  (a30:`zF c_Made "reason" f30) (l30:`zL f30 oc30 od30 "reason" "Made.reason" bv kV30 dc30 pm30 an30 cd30 ct30 sl30) (c30:`zC cd30 "Made.reason") (k30:`zK f30)
  (t30:`zT f30)
  (a31:`zF c_Used "reason" f31) (l31:`zL f31 oc31 od31 "reason" "Used.reason" bw kV31 dc31 pm31 an31 cd31 ct31 sl31) (c31:`zC cd31 "Used.reason") (k31:`zK f31)
  (t31:`zT f31)
  (a32:`zF c_Chief "reason" f32) (l32:`zL f32 oc32 od32 "reason" "Chief.reason" bf kV32 dc32 pm32 an32 cd32 ct32 sl32) (c32:`zC cd32 "Chief.reason") (k32:`zK f32)
  (t32:`zT f32)
  (a33:`zF c_Over "reason" f33) (l33:`zL f33 oc33 od33 "reason" "Over.reason" bD kV33 dc33 pm33 an33 cd33 ct33 sl33) (c33:`zC cd33 "Over.reason") (k33:`zK f33)
  (t33:`zT f33)
  (a34:`zF c_Both "reason" f34) (l34:`zL f34 oc34 od34 "reason" "Both.reason" aQ kV34 dc34 pm34 an34 cd34 ct34 sl34) (c34:`zC cd34 "Both.reason") (k34:`zK f34)
  (t34:`zT f34)
  (a35:`zF c_Either "reason" f35) (l35:`zL f35 oc35 od35 "reason" "Either.reason" aC kV35 dc35 pm35 an35 cd35 ct35 sl35) (c35:`zC cd35 "Either.reason") (k35:`zK f35)
  (t35:`zT f35)
  (a36:`zF c_But "reason" f36) (l36:`zL f36 oc36 od36 "reason" "But.reason" aV kV36 dc36 pm36 an36 cd36 ct36 sl36) (c36:`zC cd36 "But.reason") (k36:`zK f36)
  (t36:`zT f36)
  (a37:`zF c_Note "claims" f37) (l37:`zL f37 oc37 od37 "claims" "Note.claims" bM kV37 dc37 pm37 an37 cd37 ct37 sl37) (c37:`zC cd37 "Note.claims") (k37:`zK f37)
  (t37:`zT f37)
  (a38:`zA "is_picking" f38) (l38:`zL f38 oc38 od38 "is_picking" "is_picking" bV kV38 dc38 pm38 an38 cd38 ct38 sl38) (c38:`zC cd38 "is_picking") (k38:`zK f38)
  (a39:`zA "is_row" f39) (l39:`zL f39 oc39 od39 "is_row" "is_row" cG kV39 dc39 pm39 an39 cd39 ct39 sl39) (c39:`zC cd39 "is_row") (k39:`zK f39)
  (a40:`zA "has_place" f40) (l40:`zL f40 oc40 od40 "has_place" "has_place" bR kV40 dc40 pm40 an40 cd40 ct40 sl40) (c40:`zC cd40 "has_place") (k40:`zK f40)
  (a41:`zA "are_rows" f41) (l41:`zL f41 oc41 od41 "are_rows" "are_rows" bG kV41 dc41 pm41 an41 cd41 ct41 sl41) (c41:`zC cd41 "are_rows") (k41:`zK f41)
  (a42:`zA "claimed_of" f42) (l42:`zL f42 oc42 od42 "claimed_of" "claimed_of" cC kV42 dc42 pm42 an42 cd42 ct42 sl42) (c42:`zC cd42 "claimed_of") (k42:`zK f42)
  (a43:`zF c_Tree "__init__" f43) (l43:`zL f43 oc43 od43 "__init__" "Tree.__init__" aj kV43 dc43 pm43 an43 cd43 ct43 sl43) (c43:`zC cd43 "Tree.__init__") (k43:`zK f43)
  (t43:`zT f43)
  (a44:`zF c_Tree "looked" f44) (l44:`zL f44 oc44 od44 "looked" "Tree.looked" cc kV44 dc44 pm44 an44 cd44 ct44 sl44) (c44:`zC cd44 "Tree.looked") (k44:`zK f44)
  (t44:`zT f44)
  (a45:`zA "_law_cell_at" f45) (l45:`zL f45 oc45 od45 "_law_cell_at" "_law_cell_at" bL kV45 dc45 pm45 an45 cd45 ct45 sl45) (c45:`zC cd45 "_law_cell_at") (k45:`zK f45)
  (a46:`zA "_law_names" f46) (l46:`zL f46 oc46 od46 "_law_names" "_law_names" aI kV46 dc46 pm46 an46 cd46 ct46 sl46) (c46:`zC cd46 "_law_names") (k46:`zK f46)
  (a47:`zA "_law_kinds" f47) (l47:`zL f47 oc47 od47 "_law_kinds" "_law_kinds" ah kV47 dc47 pm47 an47 cd47 ct47 sl47) (c47:`zC cd47 "_law_kinds") (k47:`zK f47)
  (a48:`zA "_law_there" f48) (l48:`zL f48 oc48 od48 "_law_there" "_law_there" aW kV48 dc48 pm48 an48 cd48 ct48 sl48) (c48:`zC cd48 "_law_there") (k48:`zK f48)
  (a49:`zA "_law_rank" f49) (l49:`zL f49 oc49 od49 "_law_rank" "_law_rank" cI kV49 dc49 pm49 an49 cd49 ct49 sl49) (c49:`zC cd49 "_law_rank") (k49:`zK f49)
  (a50:`zA "_law_claims" f50) (l50:`zL f50 oc50 od50 "_law_claims" "_law_claims" aN kV50 dc50 pm50 an50 cd50 ct50 sl50) (c50:`zC cd50 "_law_claims") (k50:`zK f50)
  (a51:`zA "_law_plain" f51) (l51:`zL f51 oc51 od51 "_law_plain" "_law_plain" bz kV51 dc51 pm51 an51 cd51 ct51 sl51) (c51:`zC cd51 "_law_plain") (k51:`zK f51)
  (a52:`zA "_law_note" f52) (l52:`zL f52 oc52 od52 "_law_note" "_law_note" aX kV52 dc52 pm52 an52 cd52 ct52 sl52) (c52:`zC cd52 "_law_note") (k52:`zK f52)
  (a53:`zA "_law_rows" f53) (l53:`zL f53 oc53 od53 "_law_rows" "_law_rows" ai kV53 dc53 pm53 an53 cd53 ct53 sl53) (c53:`zC cd53 "_law_rows") (k53:`zK f53)
  (a54:`zA "_law_turned" f54) (l54:`zL f54 oc54 od54 "_law_turned" "_law_turned" bi kV54 dc54 pm54 an54 cd54 ct54 sl54) (c54:`zC cd54 "_law_turned") (k54:`zK f54)
  (a55:`zA "_law_count" f55) (l55:`zL f55 oc55 od55 "_law_count" "_law_count" bj kV55 dc55 pm55 an55 cd55 ct55 sl55) (c55:`zC cd55 "_law_count") (k55:`zK f55)
  (a56:`zA "_law_depth" f56) (l56:`zL f56 oc56 od56 "_law_depth" "_law_depth" bS kV56 dc56 pm56 an56 cd56 ct56 sl56) (c56:`zC cd56 "_law_depth") (k56:`zK f56)
  (a57:`zA "_law_otherwise" f57) (l57:`zL f57 oc57 od57 "_law_otherwise" "_law_otherwise" aH kV57 dc57 pm57 an57 cd57 ct57 sl57) (c57:`zC cd57 "_law_otherwise") (k57:`zK f57)
  (a58:`zA "_law_is" f58) (l58:`zL f58 oc58 od58 "_law_is" "_law_is" cS kV58 dc58 pm58 an58 cd58 ct58 sl58) (c58:`zC cd58 "_law_is") (k58:`zK f58)
  (a59:`zA "law" f59) (l59:`zL f59 oc59 od59 "law" "law" aF kV59 dc59 pm59 an59 cd59 ct59 sl59) (c59:`zC cd59 "law") (k59:`zK f59)
  (pg_Anything:PySem.W.plainGet K c_Anything Str.empty=true)
  (hd_Anything:PySem.W.hasDictIn K c_Anything=true)
  (po_Anything:PySem.W.plainOver K c_Anything=true)
  (sa_Anything:PySem.W.findIn K (.ref c_Anything) "__setattr__"=some (some (.builtin "object.__setattr__")))
  (ia_Anything:PySem.W.findIn K (.ref c_Anything) "__class__"=some (some (.builtin "object.__class__")))
  (im_Anything:PySem.W.mroIn K c_Anything (.type "object")=some true)
  (mk_Anything:PySem.W.makesIn K c_Anything=true)
  (kc_Anything:`zK c_Anything)
  (in_Anything:PySem.W.findIn K (.ref c_Anything) "__init__"=some (some (.builtin "object.__init__")))
  (pg_Made:PySem.W.plainGet K c_Made Str.empty=true)
  (hd_Made:PySem.W.hasDictIn K c_Made=true)
  (po_Made:PySem.W.plainOver K c_Made=true)
  (sa_Made:PySem.W.findIn K (.ref c_Made) "__setattr__"=some (some (.builtin "object.__setattr__")))
  (ia_Made:PySem.W.findIn K (.ref c_Made) "__class__"=some (some (.builtin "object.__class__")))
  (im_Made:PySem.W.mroIn K c_Made (.type "object")=some true)
  (mk_Made:PySem.W.makesIn K c_Made=true)
  (kc_Made:`zK c_Made)
  (pg_Used:PySem.W.plainGet K c_Used Str.empty=true)
  (hd_Used:PySem.W.hasDictIn K c_Used=true)
  (po_Used:PySem.W.plainOver K c_Used=true)
  (sa_Used:PySem.W.findIn K (.ref c_Used) "__setattr__"=some (some (.builtin "object.__setattr__")))
  (ia_Used:PySem.W.findIn K (.ref c_Used) "__class__"=some (some (.builtin "object.__class__")))
  (im_Used:PySem.W.mroIn K c_Used (.type "object")=some true)
  (mk_Used:PySem.W.makesIn K c_Used=true)
  (kc_Used:`zK c_Used)
  (pg_Chief:PySem.W.plainGet K c_Chief Str.empty=true)
  (hd_Chief:PySem.W.hasDictIn K c_Chief=true)
  (po_Chief:PySem.W.plainOver K c_Chief=true)
  (sa_Chief:PySem.W.findIn K (.ref c_Chief) "__setattr__"=some (some (.builtin "object.__setattr__")))
  (ia_Chief:PySem.W.findIn K (.ref c_Chief) "__class__"=some (some (.builtin "object.__class__")))
  (im_Chief:PySem.W.mroIn K c_Chief (.type "object")=some true)
  (mk_Chief:PySem.W.makesIn K c_Chief=true)
  (kc_Chief:`zK c_Chief)
  (pg_Over:PySem.W.plainGet K c_Over Str.empty=true)
  (hd_Over:PySem.W.hasDictIn K c_Over=true)
  (po_Over:PySem.W.plainOver K c_Over=true)
  (sa_Over:PySem.W.findIn K (.ref c_Over) "__setattr__"=some (some (.builtin "object.__setattr__")))
  (ia_Over:PySem.W.findIn K (.ref c_Over) "__class__"=some (some (.builtin "object.__class__")))
  (im_Over:PySem.W.mroIn K c_Over (.type "object")=some true)
  (mk_Over:PySem.W.makesIn K c_Over=true)
  (kc_Over:`zK c_Over)
  (pg_Both:PySem.W.plainGet K c_Both Str.empty=true)
  (hd_Both:PySem.W.hasDictIn K c_Both=true)
  (po_Both:PySem.W.plainOver K c_Both=true)
  (sa_Both:PySem.W.findIn K (.ref c_Both) "__setattr__"=some (some (.builtin "object.__setattr__")))
  (ia_Both:PySem.W.findIn K (.ref c_Both) "__class__"=some (some (.builtin "object.__class__")))
  (im_Both:PySem.W.mroIn K c_Both (.type "object")=some true)
  (mk_Both:PySem.W.makesIn K c_Both=true)
  (kc_Both:`zK c_Both)
  (pg_Either:PySem.W.plainGet K c_Either Str.empty=true)
  (hd_Either:PySem.W.hasDictIn K c_Either=true)
  (po_Either:PySem.W.plainOver K c_Either=true)
  (sa_Either:PySem.W.findIn K (.ref c_Either) "__setattr__"=some (some (.builtin "object.__setattr__")))
  (ia_Either:PySem.W.findIn K (.ref c_Either) "__class__"=some (some (.builtin "object.__class__")))
  (im_Either:PySem.W.mroIn K c_Either (.type "object")=some true)
  (mk_Either:PySem.W.makesIn K c_Either=true)
  (kc_Either:`zK c_Either)
  (pg_But:PySem.W.plainGet K c_But Str.empty=true)
  (hd_But:PySem.W.hasDictIn K c_But=true)
  (po_But:PySem.W.plainOver K c_But=true)
  (sa_But:PySem.W.findIn K (.ref c_But) "__setattr__"=some (some (.builtin "object.__setattr__")))
  (ia_But:PySem.W.findIn K (.ref c_But) "__class__"=some (some (.builtin "object.__class__")))
  (im_But:PySem.W.mroIn K c_But (.type "object")=some true)
  (mk_But:PySem.W.makesIn K c_But=true)
  (kc_But:`zK c_But)
  (pg_Tree:PySem.W.plainGet K c_Tree Str.empty=true)
  (hd_Tree:PySem.W.hasDictIn K c_Tree=true)
  (po_Tree:PySem.W.plainOver K c_Tree=true)
  (sa_Tree:PySem.W.findIn K (.ref c_Tree) "__setattr__"=some (some (.builtin "object.__setattr__")))
  (ia_Tree:PySem.W.findIn K (.ref c_Tree) "__class__"=some (some (.builtin "object.__class__")))
  (im_Tree:PySem.W.mroIn K c_Tree (.type "object")=some true)
  (mk_Tree:PySem.W.makesIn K c_Tree=true)
  (kc_Tree:`zK c_Tree)
  (oget:PySem.W.specialIn K (.builtin "object.__class__") "__get__"=some (some (.builtin "getset_descriptor.__get__")))
  (otakes:PySem.W.takesIn K (.builtin "object.__class__")=some true)
  (na_Made_stuff:`zG c_Made "stuff")
  (na_Used_use:`zG c_Used "use")
  (na_Chief_stuff:`zG c_Chief "stuff")
  (na_Over_one:`zG c_Over "one")
  (na_Over_other:`zG c_Over "other")
  (na_Both_one:`zG c_Both "one")
  (na_Both_other:`zG c_Both "other")
  (na_Either_one:`zG c_Either "one")
  (na_Either_other:`zG c_Either "other")
  (na_But_one:`zG c_But "one")
  (na_But_other:`zG c_But "other")
  (in_Both:`zF c_Both "__init__" f17)
  (in_Either:`zF c_Either "__init__" f17)
  (in_But:`zF c_But "__init__" f17)
  (cm_Anything:`zF c_Anything "claims" f37)
  (cm_Made:`zF c_Made "claims" f37)
  (cm_Used:`zF c_Used "claims" f37)
  (cm_Chief:`zF c_Chief "claims" f37)
  (cm_Over:`zF c_Over "claims" f37)
  (cm_Both:`zF c_Both "claims" f37)
  (cm_Either:`zF c_Either "claims" f37)
  (cm_But:`zF c_But "claims" f37)
  (nt_goods:`zG c_Tree "goods")
  (nt_numbers:`zG c_Tree "numbers")
  (nt_pickings:`zG c_Tree "pickings")
  (nt_notes:`zG c_Tree "notes")
  (nt_counts:`zG c_Tree "counts")
  (nr_Tree:`zG c_Tree "reason")
  (z_len:PySem.W.nsIn K mainGlobals "len"=some none)
  (z_range:PySem.W.nsIn K mainGlobals "range"=some none)
  (z_abs:PySem.W.nsIn K mainGlobals "abs"=some none)
  (z_max:PySem.W.nsIn K mainGlobals "max"=some none)
  (z_min:PySem.W.nsIn K mainGlobals "min"=some none)
  (z_isinstance:PySem.W.nsIn K mainGlobals "isinstance"=some none)
  (z_int:PySem.W.nsIn K mainGlobals "int"=some none)
  (z_bool:PySem.W.nsIn K mainGlobals "bool"=some none)
  (z_str:PySem.W.nsIn K mainGlobals "str"=some none)
  (z_list:PySem.W.nsIn K mainGlobals "list"=some none)
  (z_tuple:PySem.W.nsIn K mainGlobals "tuple"=some none)
  (z_sum:PySem.W.nsIn K mainGlobals "sum"=some none)
  (z_all:PySem.W.nsIn K mainGlobals "all"=some none)
  (z_enumerate:PySem.W.nsIn K mainGlobals "enumerate"=some none)
  (z_zip:PySem.W.nsIn K mainGlobals "zip"=some none)
  (z_ValueError:PySem.W.nsIn K mainGlobals "ValueError"=some none)
  (z_any:PySem.W.nsIn K mainGlobals "any"=some none)
  (z_set:PySem.W.nsIn K mainGlobals "set"=some none)
  (z_sorted:PySem.W.nsIn K mainGlobals "sorted"=some none)
  : ∃ fd:FuncData,(∀ (s:Shared) (v:Value),BindsTo s fd ⟨[v],[]⟩ [("_law_script",v)])∧∀ base:Heap,K.In base→base.Ns mainGlobals mg→FnOk l.prog w K mg base CX0 14 fa fd ["_law_script"] (BO K):=by
 have e:=hfa.symm.trans (`zM a59)
 cases e
 have F1:=mV (st:=cf) l1 c1 k1
 have F2:=mV (st:=cw) l2 c2 k2
 have F3:=mV (st:=bI) l3 c3 k3
 have F4:=mV (st:=ci) l4 c4 k4
 have F5:=mV (st:=cx) l5 c5 k5
 have F6:=mV (st:=bJ) l6 c6 k6
 have F7:=mV (st:=cH) l7 c7 k7
 have F8:=mV (st:=cZ) l8 c8 k8
 have F9:=mV (st:=dB) l9 c9 k9
 have F10:=mV (st:=cF) l10 c10 k10
 have F11:=mV (st:=bH) l11 c11 k11
 have F12:=mV (st:=bC) l12 c12 k12
 have F13:=mV (st:=cL) l13 c13 k13
 have F14:=mV (st:=cM) l14 c14 k14
 have F15:=mV (st:=cA) l15 c15 k15
 have F16:=mV (st:=cj) l16 c16 k16
 have F17:=mV (st:=bU) l17 c17 k17
 have F18:=mV (st:=aZ) l18 c18 k18
 have F19:=mV (st:=aO) l19 c19 k19
 have F20:=mV (st:=aS) l20 c20 k20
 have F21:=mV (st:=ak) l21 c21 k21
 have F22:=mV (st:=dC) l22 c22 k22
 have F23:=mV (st:=bX) l23 c23 k23
 have F24:=mV (st:=bY) l24 c24 k24
 have F25:=mV (st:=bb) l25 c25 k25
 have F26:=mV (st:=cq) l26 c26 k26
 have F27:=mV (st:=cB) l27 c27 k27
 have F28:=mV (st:=bP) l28 c28 k28
 have F29:=mV (st:=bW) l29 c29 k29
 have F30:=mV (st:=bv) l30 c30 k30
 have F31:=mV (st:=bw) l31 c31 k31
 have F32:=mV (st:=bf) l32 c32 k32
 have F33:=mV (st:=bD) l33 c33 k33
 have F34:=mV (st:=aQ) l34 c34 k34
 have F35:=mV (st:=aC) l35 c35 k35
 have F36:=mV (st:=aV) l36 c36 k36
 have F37:=mV (st:=bM) l37 c37 k37
 have F38:=mV (st:=bV) l38 c38 k38
 have F39:=mV (st:=cG) l39 c39 k39
 have F40:=mV (st:=bR) l40 c40 k40
 have F41:=mV (st:=bG) l41 c41 k41
 have F42:=mV (st:=cC) l42 c42 k42
 have F43:=mV (st:=aj) l43 c43 k43
 have F44:=mV (st:=cc) l44 c44 k44
 have F45:=mV (st:=bL) l45 c45 k45
 have F46:=mV (st:=aI) l46 c46 k46
 have F47:=mV (st:=ah) l47 c47 k47
 have F48:=mV (st:=aW) l48 c48 k48
 have F49:=mV (st:=cI) l49 c49 k49
 have F50:=mV (st:=aN) l50 c50 k50
 have F51:=mV (st:=bz) l51 c51 k51
 have F52:=mV (st:=aX) l52 c52 k52
 have F53:=mV (st:=ai) l53 c53 k53
 have F54:=mV (st:=bi) l54 c54 k54
 have F55:=mV (st:=bj) l55 c55 k55
 have F56:=mV (st:=bS) l56 c56 k56
 have F57:=mV (st:=aH) l57 c57 k57
 have F58:=mV (st:=cS) l58 c58 k58
 have F59:=mV (st:=aF) l59 c59 k59
 have b1:=F1.binds (ps:=["thing"]) fun _ _ _ _ _ _ us hl=>match us,hl with | [_],_=>rfl
 have b2:=F2.binds (ps:=["thing"]) fun _ _ _ _ _ _ us hl=>match us,hl with | [_],_=>rfl
 have b3:=F3.binds (ps:=["thing"]) fun _ _ _ _ _ _ us hl=>match us,hl with | [_],_=>rfl
 have b4:=F4.binds (ps:=["thing"]) fun _ _ _ _ _ _ us hl=>match us,hl with | [_],_=>rfl
 have b5:=F5.binds (ps:=["thing"]) fun _ _ _ _ _ _ us hl=>match us,hl with | [_],_=>rfl
 have b6:=F6.binds (ps:=["thing"]) fun _ _ _ _ _ _ us hl=>match us,hl with | [_],_=>rfl
 have b7:=F7.binds (ps:=["some"]) fun _ _ _ _ _ _ us hl=>match us,hl with | [_],_=>rfl
 have b8:=F8.binds (ps:=["weights","weight"]) fun _ _ _ _ _ _ us hl=>match us,hl with | [_,_],_=>rfl
 have b9:=F9.binds (ps:=["weights"]) fun _ _ _ _ _ _ us hl=>match us,hl with | [_],_=>rfl
 have b10:=F10.binds (ps:=["weights"]) fun _ _ _ _ _ _ us hl=>match us,hl with | [_],_=>rfl
 have b11:=F11.binds (ps:=["many"]) fun _ _ _ _ _ _ us hl=>match us,hl with | [_],_=>rfl
 have b12:=F12.binds (ps:=["many"]) fun _ _ _ _ _ _ us hl=>match us,hl with | [_],_=>rfl
 have b13:=F13.binds (ps:=["self","stuff"]) fun _ _ _ _ _ _ us hl=>match us,hl with | [_,_],_=>rfl
 have b14:=F14.binds (ps:=["self","use"]) fun _ _ _ _ _ _ us hl=>match us,hl with | [_,_],_=>rfl
 have b15:=F15.binds (ps:=["self","stuff"]) fun _ _ _ _ _ _ us hl=>match us,hl with | [_,_],_=>rfl
 have b16:=F16.binds (ps:=["self","one","other"]) fun _ _ _ _ _ _ us hl=>match us,hl with | [_,_,_],_=>rfl
 have b17:=F17.binds (ps:=["self","one","other"]) fun _ _ _ _ _ _ us hl=>match us,hl with | [_,_,_],_=>rfl
 have b18:=F18.binds (ps:=["word","name"]) fun _ _ _ _ _ _ us hl=>match us,hl with | [_,_],_=>rfl
 have b19:=F19.binds (ps:=["word","one","other"]) fun _ _ _ _ _ _ us hl=>match us,hl with | [_,_,_],_=>rfl
 have b20:=F20.binds (ps:=["told"]) fun _ _ _ _ _ _ us hl=>match us,hl with | [_],_=>rfl
 have b21:=F21.binds (ps:=["left","told"]) fun _ _ _ _ _ _ us hl=>match us,hl with | [_,_],_=>rfl
 have b22:=F22.binds (ps:=["told"]) fun _ _ _ _ _ _ us hl=>match us,hl with | [_],_=>rfl
 have b23:=F23.binds (ps:=["kinds","look","stuff"]) fun _ _ _ _ _ _ us hl=>match us,hl with | [_,_,_],_=>rfl
 have b24:=F24.binds (ps:=["kinds","look","use"]) fun _ _ _ _ _ _ us hl=>match us,hl with | [_,_,_],_=>rfl
 have b25:=F25.binds (ps:=["kinds","look","stuff"]) fun _ _ _ _ _ _ us hl=>match us,hl with | [_,_,_],_=>rfl
 have b26:=F26.binds (ps:=["kinds","look","kind"]) fun _ _ _ _ _ _ us hl=>match us,hl with | [_,_,_],_=>rfl
 have b27:=F27.binds (ps:=["kinds","look","one","other"]) fun _ _ _ _ _ _ us hl=>match us,hl with | [_,_,_,_],_=>rfl
 have b28:=F28.binds (ps:=["places"]) fun _ _ _ _ _ _ us hl=>match us,hl with | [_],_=>rfl
 have b29:=F29.binds (ps:=["self","kinds","look"]) fun _ _ _ _ _ _ us hl=>match us,hl with | [_,_,_],_=>rfl
 have b30:=F30.binds (ps:=["self","kinds","look"]) fun _ _ _ _ _ _ us hl=>match us,hl with | [_,_,_],_=>rfl
 have b31:=F31.binds (ps:=["self","kinds","look"]) fun _ _ _ _ _ _ us hl=>match us,hl with | [_,_,_],_=>rfl
 have b32:=F32.binds (ps:=["self","kinds","look"]) fun _ _ _ _ _ _ us hl=>match us,hl with | [_,_,_],_=>rfl
 have b33:=F33.binds (ps:=["self","kinds","look"]) fun _ _ _ _ _ _ us hl=>match us,hl with | [_,_,_],_=>rfl
 have b34:=F34.binds (ps:=["self","kinds","look"]) fun _ _ _ _ _ _ us hl=>match us,hl with | [_,_,_],_=>rfl
 have b35:=F35.binds (ps:=["self","kinds","look"]) fun _ _ _ _ _ _ us hl=>match us,hl with | [_,_,_],_=>rfl
 have b36:=F36.binds (ps:=["self","kinds","look"]) fun _ _ _ _ _ _ us hl=>match us,hl with | [_,_,_],_=>rfl
 have b37:=F37.binds (ps:=["self","kinds","look"]) fun _ _ _ _ _ _ us hl=>match us,hl with | [_,_,_],_=>rfl
 have b38:=F38.binds (ps:=["thing"]) fun _ _ _ _ _ _ us hl=>match us,hl with | [_],_=>rfl
 have b39:=F39.binds (ps:=["thing"]) fun _ _ _ _ _ _ us hl=>match us,hl with | [_],_=>rfl
 have b40:=F40.binds (ps:=["numbers","number"]) fun _ _ _ _ _ _ us hl=>match us,hl with | [_,_],_=>rfl
 have b41:=F41.binds (ps:=["thing"]) fun _ _ _ _ _ _ us hl=>match us,hl with | [_],_=>rfl
 have b42:=F42.binds (ps:=["note","kinds","looks"]) fun _ _ _ _ _ _ us hl=>match us,hl with | [_,_,_],_=>rfl
 have b43:=F43.binds (ps:=["self","kinds","rule","rows"]) fun _ _ _ _ _ _ us hl=>match us,hl with | [_,_,_,_],_=>rfl
 have b44:=F44.binds (ps:=["self","number"]) fun _ _ _ _ _ _ us hl=>match us,hl with | [_,_],_=>rfl
 have b45:=F45.binds (ps:=["_law_script","_law_k"]) fun _ _ _ _ _ _ us hl=>match us,hl with | [_,_],_=>rfl
 have b46:=F46.binds (ps:=["_law_cell","_law_more"]) fun _ _ _ _ _ _ us hl=>match us,hl with | [_,_],_=>rfl
 have b47:=F47.binds (ps:=["_law_script"]) fun _ _ _ _ _ _ us hl=>match us,hl with | [_],_=>rfl
 have b48:=F48.binds (ps:=["_law_kinds_here","_law_look","_law_side","_law_name","_law_least"]) fun _ _ _ _ _ _ us hl=>match us,hl with | [_,_,_,_,_],_=>rfl
 have b49:=F49.binds (ps:=["_law_kinds_here","_law_look","_law_kind"]) fun _ _ _ _ _ _ us hl=>match us,hl with | [_,_,_],_=>rfl
 have b50:=F50.binds (ps:=["_law_note_here","_law_kinds_here","_law_look"]) fun _ _ _ _ _ _ us hl=>match us,hl with | [_,_,_],_=>rfl
 have b51:=F51.binds (ps:=["_law_cell","_law_kinds_here"]) fun _ _ _ _ _ _ us hl=>match us,hl with | [_,_],_=>rfl
 have b52:=F52.binds (ps:=["_law_cell","_law_kinds_here","_law_deep"]) fun _ _ _ _ _ _ us hl=>match us,hl with | [_,_,_],_=>rfl
 have b53:=F53.binds (ps:=["_law_script","_law_kinds_here"]) fun _ _ _ _ _ _ us hl=>match us,hl with | [_,_],_=>rfl
 have b54:=F54.binds (ps:=["_law_rows_here","_law_cell"]) fun _ _ _ _ _ _ us hl=>match us,hl with | [_,_],_=>rfl
 have b55:=F55.binds (ps:=["_law_note_here","_law_kinds_here","_law_looks"]) fun _ _ _ _ _ _ us hl=>match us,hl with | [_,_,_],_=>rfl
 have b56:=F56.binds (ps:=["_law_note_here"]) fun _ _ _ _ _ _ us hl=>match us,hl with | [_],_=>rfl
 have b57:=F57.binds (ps:=["_law_note_here","_law_other","_law_cell"]) fun _ _ _ _ _ _ us hl=>match us,hl with | [_,_,_],_=>rfl
 have b58:=F58.binds (ps:=["_law_found","_law_due"]) fun _ _ _ _ _ _ us hl=>match us,hl with | [_,_],_=>rfl
 have M:Mg mg:=⟨PySem.W.mg_none_of X G z_len,PySem.W.mg_none_of X G z_range,PySem.W.mg_none_of X G z_abs,PySem.W.mg_none_of X G z_max,PySem.W.mg_none_of X G z_min,PySem.W.mg_none_of X G z_isinstance,PySem.W.mg_none_of X G z_int,PySem.W.mg_none_of X G z_bool,PySem.W.mg_none_of X G z_str,PySem.W.mg_none_of X G z_list,PySem.W.mg_none_of X G z_tuple,PySem.W.mg_none_of X G z_sum,PySem.W.mg_none_of X G z_all,PySem.W.mg_none_of X G z_enumerate,PySem.W.mg_none_of X G z_zip,PySem.W.mg_none_of X G z_ValueError,PySem.W.mg_none_of X G z_any,PySem.W.mg_none_of X G z_set,PySem.W.mg_none_of X G z_sorted⟩
 refine⟨PySem.W.fnOf "law" "law" (defArgs aF) (defBody aF) (defScope aF) .none kV59 dc59 pm59 an59 cd59 ct59,fun s v=>.of_eq rfl,fun base _ _=>?_⟩
 have A_Note:=`zM n_Note
 have A_OfTwo:=`zM n_OfTwo
 have A_Anything:=`zM n_Anything
 have A_Made:=`zM n_Made
 have A_Used:=`zM n_Used
 have A_Chief:=`zM n_Chief
 have A_Over:=`zM n_Over
 have A_Both:=`zM n_Both
 have A_Either:=`zM n_Either
 have A_But:=`zM n_But
 have A_Tree:=`zM n_Tree
 have cls_Anything:Cls K c_Anything:=⟨pg_Anything,hd_Anything,po_Anything,sa_Anything⟩
 have ic_Anything:ICls K c_Anything:=⟨cls_Anything,ia_Anything,oget,otakes,im_Anything⟩
 have Z_Anything:Mk0 K c_Anything:=⟨mk_Anything,in_Anything,kc_Anything⟩
 have cls_Made:Cls K c_Made:=⟨pg_Made,hd_Made,po_Made,sa_Made⟩
 have ic_Made:ICls K c_Made:=⟨cls_Made,ia_Made,oget,otakes,im_Made⟩
 have cls_Used:Cls K c_Used:=⟨pg_Used,hd_Used,po_Used,sa_Used⟩
 have ic_Used:ICls K c_Used:=⟨cls_Used,ia_Used,oget,otakes,im_Used⟩
 have cls_Chief:Cls K c_Chief:=⟨pg_Chief,hd_Chief,po_Chief,sa_Chief⟩
 have ic_Chief:ICls K c_Chief:=⟨cls_Chief,ia_Chief,oget,otakes,im_Chief⟩
 have cls_Over:Cls K c_Over:=⟨pg_Over,hd_Over,po_Over,sa_Over⟩
 have ic_Over:ICls K c_Over:=⟨cls_Over,ia_Over,oget,otakes,im_Over⟩
 have cls_Both:Cls K c_Both:=⟨pg_Both,hd_Both,po_Both,sa_Both⟩
 have ic_Both:ICls K c_Both:=⟨cls_Both,ia_Both,oget,otakes,im_Both⟩
 have cls_Either:Cls K c_Either:=⟨pg_Either,hd_Either,po_Either,sa_Either⟩
 have ic_Either:ICls K c_Either:=⟨cls_Either,ia_Either,oget,otakes,im_Either⟩
 have cls_But:Cls K c_But:=⟨pg_But,hd_But,po_But,sa_But⟩
 have ic_But:ICls K c_But:=⟨cls_But,ia_But,oget,otakes,im_But⟩
 have cls_Tree:Cls K c_Tree:=⟨pg_Tree,hd_Tree,po_Tree,sa_Tree⟩
 have ic_Tree:ICls K c_Tree:=⟨cls_Tree,ia_Tree,oget,otakes,im_Tree⟩
 have tc_Over:TwoC K c_Over:=⟨cls_Over,na_Over_one,na_Over_other⟩
 have tc_Both:TwoC K c_Both:=⟨cls_Both,na_Both_one,na_Both_other⟩
 have tc_Either:TwoC K c_Either:=⟨cls_Either,na_Either_one,na_Either_other⟩
 have tc_But:TwoC K c_But:=⟨cls_But,na_But_one,na_But_other⟩
 have tcT:TrC K c_Tree:=⟨cls_Tree,nt_goods,nt_numbers,nt_pickings,nt_notes,nt_counts⟩
 have jL:`zD "is_whole" 1 ["thing"] (xU K):=⟨⟨_,_,DF F1 M,b1,k1,`zM a1⟩⟩
 have dU:`zD "is_name" 1 ["thing"] (yx K):=⟨⟨_,_,EW F2 M,b2,k2,`zM a2⟩⟩
 have jb:`zD "is_prefix" 2 ["thing"] (ym K):=⟨⟨_,_,C0 F3 M jL,b3,k3,`zM a3⟩⟩
 have jh:`zD "is_number" 3 ["thing"] (yz K):=⟨⟨_,_,Cd F4 M jb,b4,k4,`zM a4⟩⟩
 have dW:`zD "is_kind" 2 ["thing"] (xO K):=⟨⟨_,_,EF F5 M dU,b5,k5,`zM a5⟩⟩
 have jc:`zD "are_kinds" 3 ["thing"] (yo K):=⟨⟨_,_,B6 F6 M dW,b6,k6,`zM a6⟩⟩
 have jU:`zD "kinds_of" 4 ["some"] (zJ K):=⟨⟨_,_,Ds F7 M jc,b7,k7,`zM a7⟩⟩
 have lq:`zD "rank_in" 1 ["weights","weight"] (BY K):=⟨⟨_,_,Fv F8 M,b8,k8,`zM a8⟩⟩
 have lz:`zD "look_of" 2 ["weights"] (zU K):=⟨⟨_,_,Fo F9 M lq,b9,k9,`zM a9⟩⟩
 have mQ:`zD "key_of" 1 ["weights"] (zm K):=⟨⟨_,_,Ht F10 M,b10,k10,`zM a10⟩⟩
 have ls:`zD "rows_of" 1 ["many"] (zX K):=⟨⟨_,_,EN F11 M,b11,k11,`zM a11⟩⟩
 have dQ:`zD "all_looks" 4 ["many"] (xA K):=⟨⟨_,_,Ca F12 M ls lz mQ,b12,k12,`zM a12⟩⟩
 have Z_Made:MkC l.prog w K mg base "Made" c_Made 1 ["self","stuff"] (vS K c_Made "stuff"):=⟨⟨_,_,⟨mk_Made,a13,t13,kc_Made⟩,CS F13 M (cs:=`zN) cls_Made na_Made_stuff,b13⟩,A_Made⟩
 have Z_Used:MkC l.prog w K mg base "Used" c_Used 1 ["self","use"] (vS K c_Used "use"):=⟨⟨_,_,⟨mk_Used,a14,t14,kc_Used⟩,CO F14 M (cs:=`zN) cls_Used na_Used_use,b14⟩,A_Used⟩
 have Z_Chief:MkC l.prog w K mg base "Chief" c_Chief 1 ["self","stuff"] (vS K c_Chief "stuff"):=⟨⟨_,_,⟨mk_Chief,a15,t15,kc_Chief⟩,BF F15 M (cs:=`zN) cls_Chief na_Chief_stuff,b15⟩,A_Chief⟩
 have Z_Over:MkC l.prog w K mg base "Over" c_Over 1 ["self","one","other"] (vJ K):=⟨⟨_,_,⟨mk_Over,a16,t16,kc_Over⟩,Cm F16 M,b16⟩,A_Over⟩
 have Z_Both:MkC l.prog w K mg base "Both" c_Both 1 ["self","one","other"] (vJ K):=⟨⟨_,_,⟨mk_Both,in_Both,t17,kc_Both⟩,xo F17 M,b17⟩,A_Both⟩
 have Z_Either:MkC l.prog w K mg base "Either" c_Either 1 ["self","one","other"] (vJ K):=⟨⟨_,_,⟨mk_Either,in_Either,t17,kc_Either⟩,xo F17 M,b17⟩,A_Either⟩
 have Z_But:MkC l.prog w K mg base "But" c_But 1 ["self","one","other"] (vJ K):=⟨⟨_,_,⟨mk_But,in_But,t17,kc_But⟩,xo F17 M,b17⟩,A_But⟩
 have fG:`zD "note_of_name" 3 ["word","name"] (zQ K `zN):=⟨⟨_,_,z8 F18 M Z_Made Z_Used Z_Chief,b18,k18,`zM a18⟩⟩
 have cE:`zD "note_of_notes" 3 ["word","one","other"] (xX K `zN):=⟨⟨_,_,zM F19 M Z_Both Z_Either Z_But tc_Both tc_Either tc_But,b19,k19,`zM a19⟩⟩
 have cW:`zD "note_of_one" 4 ["told"] (ye K `zN):=⟨⟨_,_,AS F20 M dU dW fG Z_Anything A_Anything Z_Over tc_Over,b20,k20,`zM a20⟩⟩
 have cX:`zD "note_within" 10 ["left","told"] (xj K `zN 5):=⟨⟨_,_,yh F21 M cW cE b21 k21 (`zM a21) 5,b21,k21,`zM a21⟩⟩
 have lV:`zD "note_of" 11 ["told"] (zN K `zN):=⟨⟨_,_,Fz F22 M cX,b22,k22,`zM a22⟩⟩
 have gy:`zD "made_places" 1 ["kinds","look","stuff"] (vE K v9):=⟨⟨_,_,AF F23 M,b23,k23,`zM a23⟩⟩
 have gz:`zD "used_places" 1 ["kinds","look","use"] (vE K v8):=⟨⟨_,_,AC F24 M,b24,k24,`zM a24⟩⟩
 have fK:`zD "chief_places" 1 ["kinds","look","stuff"] (vE K vt):=⟨⟨_,_,z7 F25 M,b25,k25,`zM a25⟩⟩
 have fR:`zD "number_in" 1 ["kinds","look","kind"] (wK K):=⟨⟨_,_,B5 F26 M,b26,k26,`zM a26⟩⟩
 have lH:`zD "is_over" 2 ["kinds","look","one","other"] (CG K):=⟨⟨_,_,EC F27 M fR,b27,k27,`zM a27⟩⟩
 have bF:`zD "place_reason" 1 ["places"] (xM K):=⟨⟨_,_,Am F28 M,b28,k28,`zM a28⟩⟩
 have cl8:∀ j,j<8→Cls K (v7 `zN j):=fun j hj=>match j,hj with | 0,_=>cls_Anything | 1,_=>cls_Made | 2,_=>cls_Used | 3,_=>cls_Chief | 4,_=>cls_Over | 5,_=>cls_Both | 6,_=>cls_Either | 7,_=>cls_But | j+8,h=>absurd h (by exact Oz57)
 have R0:wV l.prog w K mg base `zN 0:=fun k d=>⟨_,_,⟨a29,t29,k29⟩,yS F29 M,b29⟩
 have R1:wV l.prog w K mg base `zN 1:=fun k d=>⟨_,_,⟨a30,t30,k30⟩,AL F30 M cls_Made na_Made_stuff gy bF,b30⟩
 have R2:wV l.prog w K mg base `zN 2:=fun k d=>⟨_,_,⟨a31,t31,k31⟩,Az F31 M cls_Used na_Used_use gz bF,b31⟩
 have R3:wV l.prog w K mg base `zN 3:=fun k d=>⟨_,_,⟨a32,t32,k32⟩,Ag F32 M cls_Chief na_Chief_stuff fK bF,b32⟩
 have R4:wV l.prog w K mg base `zN 4:=fun k d=>⟨_,_,⟨a33,t33,k33⟩,AW F33 M tc_Over lH,b33⟩
 have R5:zC l.prog w K mg base `zN 5:=⟨fun k=>⟨_,_,⟨a34,t34,k34⟩,AD F34,b34⟩,fun d D=>⟨_,_,⟨a34,t34,k34⟩,AU F34 M tc_Both D,b34⟩⟩
 have R6:zC l.prog w K mg base `zN 6:=⟨fun k=>⟨_,_,⟨a35,t35,k35⟩,zK F35,b35⟩,fun d D=>⟨_,_,⟨a35,t35,k35⟩,zS F35 M tc_Either D,b35⟩⟩
 have R7:zC l.prog w K mg base `zN 7:=⟨fun k=>⟨_,_,⟨a36,t36,k36⟩,BJ F36,b36⟩,fun d D=>⟨_,_,⟨a36,t36,k36⟩,BI F36 M tc_But D,b36⟩⟩
 have D_reason:∀ C sp,vN K `zN 5 C sp→Disp l.prog w K mg base "reason" 8 ["self","kinds","look"] C sp:=FU cl8 R0 R1 R2 R3 R4 R5 R6 R7 5
 have okc:FnOk l.prog w K mg base CX0 9 _ _ ["self","kinds","look"] (yv K `zN):=AG F37 M D_reason
 have cm8:∀ j,j<8→PySem.W.findIn K (.ref (v7 `zN j)) "claims"=some (some (.ref f37)):=fun j hj=>match j,hj with | 0,_=>cm_Anything | 1,_=>cm_Made | 2,_=>cm_Used | 3,_=>cm_Chief | 4,_=>cm_Over | 5,_=>cm_Both | 6,_=>cm_Either | 7,_=>cm_But | j+8,h=>absurd h (by exact Oz57)
 have D_claims:∀ C sp,zW K `zN C sp→Disp l.prog w K mg base "claims" 9 ["self","kinds","look"] C sp:=by rintro C sp ⟨j,hj,rfl,rfl⟩; exact⟨cl8 j hj,_,_,⟨cm8 j hj,t37,k37⟩,okc,b37⟩
 have dy:`zD "is_picking" 1 ["thing"] (xT K):=⟨⟨_,_,BD F38 M,b38,k38,`zM a38⟩⟩
 have nq:`zD "is_row" 4 ["thing"] (Au K):=⟨⟨_,_,Gu F39 M jh dy,b39,k39,`zM a39⟩⟩
 have ji:`zD "has_place" 1 ["numbers","number"] (yq K):=⟨⟨_,_,CH F40 M,b40,k40,`zM a40⟩⟩
 have jV:`zD "are_rows" 5 ["thing"] (yN K):=⟨⟨_,_,Dq F41 M nq ji,b41,k41,`zM a41⟩⟩
 have iL:`zD "claimed_of" 10 ["note","kinds","looks"] (xY K `zN):=⟨⟨_,_,BK F42 M D_claims,b42,k42,`zM a42⟩⟩
 have neT:∀ j,j<8→v7 `zN j≠c_Tree:=fun j hj=>match j,hj with | 0,_=>wZ a29 nr_Tree | 1,_=>wZ a30 nr_Tree | 2,_=>wZ a31 nr_Tree | 3,_=>wZ a32 nr_Tree | 4,_=>wZ a33 nr_Tree | 5,_=>wZ a34 nr_Tree | 6,_=>wZ a35 nr_Tree | 7,_=>wZ a36 nr_Tree | j+8,h=>absurd h (by exact Oz57)
 have Z_Tree:MkC l.prog w K mg base "Tree" c_Tree 12 ["self","kinds","rule","rows"] (xq K `zN c_Tree):=⟨⟨_,_,⟨mk_Tree,a43,t43,kc_Tree⟩,CW F43 M tcT neT jU dy jV lV dQ iL,b43⟩,A_Tree⟩
 have D_looked:∀ C' sp,BR K `zN c_Tree C' sp→Disp l.prog w K mg base "looked" 1 ["self","number"] C' sp:=by rintro C' sp ⟨rfl,rfl⟩; exact⟨cls_Tree,_,_,⟨a44,t44,k44⟩,Av F44 M tcT,b44⟩
 have aB:`zD "_law_cell_at" 1 ["_law_script","_law_k"] (wO K):=⟨⟨_,_,AR F45 M,b45,k45,`zM a45⟩⟩
 have fQ:`zD "_law_names" 1 ["_law_cell","_law_more"] (Aw K):=⟨⟨_,_,Co F46 M,b46,k46,`zM a46⟩⟩
 have jl:`zD "_law_kinds" 2 ["_law_script"] (AJ K):=⟨⟨_,_,CU F47 M aB fQ,b47,k47,`zM a47⟩⟩
 have cN:`zD "_law_there" 1 ["_law_kinds_here","_law_look","_law_side","_law_name","_law_least"] (zp K):=⟨⟨_,_,Cv F48 M,b48,k48,`zM a48⟩⟩
 have dJ:`zD "_law_rank" 1 ["_law_kinds_here","_law_look","_law_kind"] (wK K):=⟨⟨_,_,DU F49 M,b49,k49,`zM a49⟩⟩
 have bK:`zD "_law_claims" 8 ["_law_note_here","_law_kinds_here","_law_look"] (w9 K 5):=⟨⟨_,_,yM F50 M cN dJ b50 k50 (`zM a50) 5,b50,k50,`zM a50⟩⟩
 have cu:`zD "_law_plain" 1 ["_law_cell","_law_kinds_here"] (wG K):=⟨⟨_,_,CQ F51 M,b51,k51,`zM a51⟩⟩
 have d9:`zD "_law_note" 5 ["_law_cell","_law_kinds_here","_law_deep"] (BX K):=⟨⟨_,_,Fg (L:=2) (n:=3) (zI F52 M cu b52 k52 (`zM a52)),b52,k52,`zM a52⟩⟩
 have j3:`zD "_law_rows" 6 ["_law_script","_law_kinds_here"] (AE K):=⟨⟨_,_,DJ F53 M aB d9,b53,k53,`zM a53⟩⟩
 have iO:`zD "_law_turned" 1 ["_law_rows_here","_law_cell"] (yV K):=⟨⟨_,_,BL F54 M,b54,k54,`zM a54⟩⟩
 have fV:`zD "_law_count" 9 ["_law_note_here","_law_kinds_here","_law_looks"] (AX K):=⟨⟨_,_,CA F55 M bK,b55,k55,`zM a55⟩⟩
 have dR:`zD "_law_depth" 6 ["_law_note_here"] (ya K 5):=⟨⟨_,_,yT F56 M b56 k56 (`zM a56) 5,b56,k56,`zM a56⟩⟩
 have fA:`zD "_law_otherwise" 7 ["_law_note_here","_law_other","_law_cell"] (AB K):=⟨⟨_,_,zV F57 M dR,b57,k57,`zM a57⟩⟩
 have iP:`zD "_law_is" 1 ["_law_found","_law_due"] (HQ K):=⟨⟨_,_,GC F58 M,b58,k58,`zM a58⟩⟩
 exact J4 F59 M tcT neT jl j3 iO aB dQ Z_Tree D_looked fV cu fA iP
theorem walk {l:PySem.W.OpenLaw} {q:Program} {loose:List Str} {XP:(Str→Option Value)→Heap→Prop} {YP:World→Heap→Prop} {d:DefRec} {K:Params→PySem.W.Frag} (hn:l.most=some 63) (hdf:d.params.defaults=[])
  (hY:∀ (w:World) (h:Heap),YP w h→(K w.params).In h)
  (F:∀ (w:World) (mg:Str→Option Value) (fa:Addr) (h:Heap),(K w.params).In h→h.Ns mainGlobals mg→mg d.name=some (.ref fa) →
   ∃ fd:FuncData,(∀ (s:Shared) (u:Value),BindsTo s fd ⟨[u],[]⟩ [("_law_script",u)])∧∀ base:Heap,(K w.params).In base→base.Ns mainGlobals mg→FnOk l.prog w (K w.params) mg base CX0 14 fa fd ["_law_script"] (BO (K w.params))) :
  PySem.W.WalkO q loose XP YP l.row.toRowW d [] (fun f vs=>PySem.call f vs) :=
 L2.walk_of (n:=63) (k:=14) (x:="_law_script") (CX:=fun _=>CX0) (sp:=fun w=>BO (K w.params)) hn (by decide) hdf ⟨rfl,by decide,by decide⟩ hY F (fun _ _ a ns hl _ hS=>⟨a,ns,rfl,hS,hl,fun _=>rfl⟩) fun _ _ _ _ _ z=>z
end My
namespace PySem.W.Fast
theorem tw1541738285980221312:True:=⟨⟩
theorem tw15301070300717034630:True:=⟨⟩
theorem tw11464119002266436161:True:=⟨⟩
theorem tw6318943163122730955:True:=⟨⟩
theorem tw8519588110805064709:True:=⟨⟩
theorem tw2812360897195598678:True:=⟨⟩
theorem tw6636537971303001068:True:=⟨⟩
theorem tw17790718299824354466:True:=⟨⟩
theorem tw14603505923888671271:True:=⟨⟩
theorem tw4054235732439228274:True:=⟨⟩
theorem tw5260249862998239184:True:=⟨⟩
theorem tw9071361464266240877:True:=⟨⟩
theorem tw3697861051551634191:True:=⟨⟩
theorem tw17655083937148177726:True:=⟨⟩
theorem tw12295007196683524996:True:=⟨⟩
theorem tw9147806763462406601:True:=⟨⟩
theorem tw8924285976600075577:True:=⟨⟩
theorem tw8990329972255491398:True:=⟨⟩
theorem tw889106497285745269:True:=⟨⟩
theorem tw13508447183587016186:True:=⟨⟩
theorem tw16997527101321660590:True:=⟨⟩
theorem tw2324748302002660847:True:=⟨⟩
theorem tw5567829178393887217:True:=⟨⟩
theorem tw7201951466330791001:True:=⟨⟩
theorem tw6387765197165824758:True:=⟨⟩
theorem tw16760111325729872390:True:=⟨⟩
theorem tw1553007602163333411:True:=⟨⟩
theorem tw3124839962319963242:True:=⟨⟩
theorem tw2606603747677428388:True:=⟨⟩
theorem tw12630874589499786883:True:=⟨⟩
theorem tw17644192072613736974:True:=⟨⟩
theorem tw2052029169896932468:True:=⟨⟩
theorem tw12524593234191552642:True:=⟨⟩
theorem tw32295547683467423:True:=⟨⟩
theorem tw6147422316223686211:True:=⟨⟩
theorem tw8839332481662529808:True:=⟨⟩
theorem tw15499081665242082604:True:=⟨⟩
theorem tw5083557906933602997:True:=⟨⟩
theorem tw11271411984499310303:True:=⟨⟩
theorem tw11409144103107745968:True:=⟨⟩
theorem tw8016478553821102423:True:=⟨⟩
theorem tw11819260109392563431:True:=⟨⟩
theorem tw12417370241899854021:True:=⟨⟩
theorem tw8275559090334788753:True:=⟨⟩
theorem tw2826965545658188277:True:=⟨⟩
theorem tw8432637352078648422:True:=⟨⟩
theorem tw4761251432412355739:True:=⟨⟩
theorem tw5055345541879935830:True:=⟨⟩
theorem tw1505889566395585398:True:=⟨⟩
theorem tw16734195254815258233:True:=⟨⟩
theorem tw9147894488780575396:True:=⟨⟩
theorem tw14716171951168734539:True:=⟨⟩
theorem tw18338412349883638783:True:=⟨⟩
theorem tw13734500111463472407:True:=⟨⟩
theorem tw3691887622848941383:True:=⟨⟩
theorem tw12127841801213910662:True:=⟨⟩
theorem tw10593285883610329064:True:=⟨⟩
theorem tw2272939323489179283:True:=⟨⟩
theorem tw13569061728788446712:True:=⟨⟩
theorem tw3373217135908717676:True:=⟨⟩
theorem tw11832583129482560056:True:=⟨⟩
theorem tw16078989274614893702:True:=⟨⟩
theorem tw16886308868457204507:True:=⟨⟩
theorem tw16309185533545574815:True:=⟨⟩
theorem tw6976368380374238451:True:=⟨⟩
theorem tw11917656802654783334:True:=⟨⟩
theorem tw7667960330317886310:True:=⟨⟩
theorem tw5710741899409771935:True:=⟨⟩
theorem tw7646553042591248674:True:=⟨⟩
theorem tw6934168682038479102:True:=⟨⟩
theorem tw7430712581964085176:True:=⟨⟩
theorem tw17433172985664621521:True:=⟨⟩
theorem tw6191503029699292461:True:=⟨⟩
theorem tw14155207038759496581:True:=⟨⟩
theorem tw11268064544711395576:True:=⟨⟩
theorem tw4570204828055129097:True:=⟨⟩
theorem tw1488920867412594328:True:=⟨⟩
theorem tw16539190732841026383:True:=⟨⟩
theorem tw7511221699359201868:True:=⟨⟩
theorem tw17659759593318411612:True:=⟨⟩
theorem tw8623078286687349278:True:=⟨⟩
theorem tw4110293751668189335:True:=⟨⟩
theorem tw17506660107601472565:True:=⟨⟩
theorem tw9585239157496116818:True:=⟨⟩
theorem tw10522266931408308286:True:=⟨⟩
theorem tw4849973458396553988:True:=⟨⟩
theorem tw1957543501893102626:True:=⟨⟩
theorem tw4560163226434793131:True:=⟨⟩
theorem tw1076413632928658805:True:=⟨⟩
theorem tw7792318236953780886:True:=⟨⟩
theorem tw10406092562469716146:True:=⟨⟩
theorem tw17388168492433222683:True:=⟨⟩
theorem tw314953562934642216:True:=⟨⟩
theorem tw11545436020887350890:True:=⟨⟩
theorem tw13402224119871294:True:=⟨⟩
theorem tw17880048241894261294:True:=⟨⟩
theorem tw8049221792696406484:True:=⟨⟩
theorem tw4289482865235170963:True:=⟨⟩
theorem tw12871007918684391602:True:=⟨⟩
theorem tw17982519240341839965:True:=⟨⟩
theorem tw9500524072602955150:True:=⟨⟩
theorem tw12808911494711579958:True:=⟨⟩
theorem tw5846396891443870888:True:=⟨⟩
theorem tw12191448705195257684:True:=⟨⟩
theorem tw15576240237122852257:True:=⟨⟩
theorem tw10918275205699084757:True:=⟨⟩
theorem tw12076052307151351797:True:=⟨⟩
theorem tw2212337130223663746:True:=⟨⟩
theorem tw9749938533852657005:True:=⟨⟩
theorem tw287938750640103986:True:=⟨⟩
theorem tw10005898646373825364:True:=⟨⟩
theorem tw9371997109330484403:True:=⟨⟩
theorem tw12597026312826267155:True:=⟨⟩
theorem tw16985830626412393998:True:=⟨⟩
theorem tw4404523211857152971:True:=⟨⟩
theorem tw13081367756639343259:True:=⟨⟩
theorem tw4756365195588004:True:=⟨⟩
theorem tw11318278689810659846:True:=⟨⟩
theorem tw5535376722667180858:True:=⟨⟩
theorem tw15162843875257453093:True:=⟨⟩
theorem tw1632416851213212301:True:=⟨⟩
theorem tw8318153631875423446:True:=⟨⟩
theorem tw11097614455640087143:True:=⟨⟩
theorem tw5087679483644591429:True:=⟨⟩
theorem tw13540494159474599867:True:=⟨⟩
theorem tw11966901206030961989:True:=⟨⟩
theorem tw3399852813758198220:True:=⟨⟩
theorem tw5715328539321785651:True:=⟨⟩
theorem tw246951958784118663:True:=⟨⟩
theorem tw11771678316610130190:True:=⟨⟩
theorem tw6765373775011271713:True:=⟨⟩
theorem tw13103517110105659508:True:=⟨⟩
theorem tw6696885890444137018:True:=⟨⟩
theorem tw5635294204632163954:True:=⟨⟩
theorem tw17868821742947597041:True:=⟨⟩
theorem tw12811419729299144429:True:=⟨⟩
theorem tw6695904850181300405:True:=⟨⟩
theorem tw15573239624525144382:True:=⟨⟩
theorem tw8588462345039115383:True:=⟨⟩
theorem tw13941480081516307690:True:=⟨⟩
theorem tw13958118048453223063:True:=⟨⟩
theorem tw4693314210481699257:True:=⟨⟩
theorem tw8651703219115899089:True:=⟨⟩
theorem tw6963592087428386342:True:=⟨⟩
theorem tw5490571856434857928:True:=⟨⟩
theorem tw12859105822445770924:True:=⟨⟩
theorem tw6783695719633006092:True:=⟨⟩
theorem tw4505688545873829082:True:=⟨⟩
theorem tw2244030711576495000:True:=⟨⟩
theorem tw16896488670414805792:True:=⟨⟩
theorem tw17600482505218689725:True:=⟨⟩
theorem tw16894565391024513164:True:=⟨⟩
theorem tw3531184412327626223:True:=⟨⟩
theorem tw13891178063151279952:True:=⟨⟩
theorem tw7931846839751740136:True:=⟨⟩
theorem tw16148714983865093156:True:=⟨⟩
theorem tw15724662294161936740:True:=⟨⟩
theorem tw8743043960171059485:True:=⟨⟩
theorem tw10781333644931442878:True:=⟨⟩
theorem tw6711803429385386923:True:=⟨⟩
theorem tw3489756800656184872:True:=⟨⟩
theorem tw5715756167300857590:True:=⟨⟩
theorem tw16113176399579111535:True:=⟨⟩
theorem tw17312988043316449128:True:=⟨⟩
theorem tw9742244587239636809:True:=⟨⟩
theorem tw3758914907455672877:True:=⟨⟩
theorem tw10610823078369818979:True:=⟨⟩
theorem tw14068296001091174616:True:=⟨⟩
theorem tw8223965933902309284:True:=⟨⟩
theorem tw14332563786934288661:True:=⟨⟩
theorem tw7494752949254986048:True:=⟨⟩
theorem tw17437046292432456093:True:=⟨⟩
theorem tw1348364136958391508:True:=⟨⟩
theorem tw14473142584852775788:True:=⟨⟩
theorem tw13757283538393175498:True:=⟨⟩
theorem tw8516398010760097559:True:=⟨⟩
theorem tw6568860928273556438:True:=⟨⟩
theorem tw11315699694851896917:True:=⟨⟩
theorem tw15437001401703623094:True:=⟨⟩
theorem tw10498973250891903432:True:=⟨⟩
theorem tw1981712816139441266:True:=⟨⟩
theorem tw10979752026301782241:True:=⟨⟩
theorem tw1518978528709708705:True:=⟨⟩
theorem tw17230893086791817684:True:=⟨⟩
theorem tw13209112439622513969:True:=⟨⟩
theorem tw9343992963336784970:True:=⟨⟩
theorem tw17207339616468680556:True:=⟨⟩
theorem tw7167030139088722362:True:=⟨⟩
theorem tw14550975753586820857:True:=⟨⟩
theorem tw7774254700954359579:True:=⟨⟩
theorem tw2650990984389202695:True:=⟨⟩
theorem tw8769602033814950762:True:=⟨⟩
theorem tw16899759215862585543:True:=⟨⟩
theorem tw1985021819241521452:True:=⟨⟩
theorem tw16934815630642595618:True:=⟨⟩
theorem tw12039690307940417612:True:=⟨⟩
theorem tw6743654829392503985:True:=⟨⟩
theorem tw3273574321112616327:True:=⟨⟩
theorem tw16318144404973201012:True:=⟨⟩
theorem tw14101766974356325890:True:=⟨⟩
theorem tw12693370284565288237:True:=⟨⟩
theorem tw7526815291106291701:True:=⟨⟩
theorem tw14392057077315197450:True:=⟨⟩
theorem tw8318970965399540518:True:=⟨⟩
theorem tw10504414744180698947:True:=⟨⟩
theorem tw11705095884628408833:True:=⟨⟩
theorem tw2791344997620076295:True:=⟨⟩
theorem tw1603484020308021534:True:=⟨⟩
theorem tw4789524209415600803:True:=⟨⟩
theorem tw2591830696454182548:True:=⟨⟩
theorem tw7482322288969060626:True:=⟨⟩
theorem tw10511644746201344328:True:=⟨⟩
theorem tw16943576244723288683:True:=⟨⟩
theorem tw3042506828376827285:True:=⟨⟩
theorem tw793467477586894144:True:=⟨⟩
theorem tw18033122850365079591:True:=⟨⟩
theorem tw4360662088427675582:True:=⟨⟩
theorem tw3144495237485123558:True:=⟨⟩
theorem tw1504016829393647956:True:=⟨⟩
theorem tw3311283480480989467:True:=⟨⟩
theorem tw15372724883395582090:True:=⟨⟩
theorem tw5773519028536308145:True:=⟨⟩
theorem tw13020457462457882470:True:=⟨⟩
theorem tw12770872950350511210:True:=⟨⟩
theorem tw14119665926415621482:True:=⟨⟩
theorem tw10154988186223216690:True:=⟨⟩
theorem tw15914694316742327257:True:=⟨⟩
theorem tw11091992141899525702:True:=⟨⟩
theorem tw268224089705630467:True:=⟨⟩
theorem tw16704959744506303606:True:=⟨⟩
theorem tw3348815335817918386:True:=⟨⟩
theorem tw3553823391626296711:True:=⟨⟩
theorem tw7388946200616376202:True:=⟨⟩
theorem tw5443478390061158960:True:=⟨⟩
theorem tw11659221168675227728:True:=⟨⟩
theorem tw17869680744284826436:True:=⟨⟩
theorem tw806239016254788626:True:=⟨⟩
theorem tw12370206319893960139:True:=⟨⟩
theorem tw13610107850591503359:True:=⟨⟩
theorem tw1433659968111449534:True:=⟨⟩
theorem tw14856187528542451498:True:=⟨⟩
theorem tw10889202594753604754:True:=⟨⟩
theorem tw10047748276373198750:True:=⟨⟩
theorem tw8489741800857518956:True:=⟨⟩
theorem tw749061973453322730:True:=⟨⟩
theorem tw134447707087042842:True:=⟨⟩
theorem tw11824108677875404263:True:=⟨⟩
theorem tw12299381793745618513:True:=⟨⟩
theorem tw6024685153668997321:True:=⟨⟩
theorem tw4011559521833042649:True:=⟨⟩
theorem tw6654468997152631431:True:=⟨⟩
theorem tw3933438254129116187:True:=⟨⟩
theorem tw3516495726293405190:True:=⟨⟩
theorem tw18043139793709608514:True:=⟨⟩
theorem tw16398012631231493804:True:=⟨⟩
theorem tw1992242381721612293:True:=⟨⟩
theorem tw14038820977433722022:True:=⟨⟩
theorem tw435324878554972246:True:=⟨⟩
theorem tw10083306179830800740:True:=⟨⟩
theorem tw6291631394694272143:True:=⟨⟩
theorem tw11496202396511082926:True:=⟨⟩
theorem tw15843046140128224210:True:=⟨⟩
theorem tw15207369622788667545:True:=⟨⟩
theorem tw7905657876401457220:True:=⟨⟩
theorem tw2539771838267977057:True:=⟨⟩
theorem tw14461830399016553851:True:=⟨⟩
theorem tw16038316701357318116:True:=⟨⟩
theorem tw17002236255103632566:True:=⟨⟩
theorem tw7268178637317388643:True:=⟨⟩
theorem tw4422551986121672361:True:=⟨⟩
theorem tw10808983580129717081:True:=⟨⟩
theorem tw17122370557063920002:True:=⟨⟩
theorem tw1529638673654572335:True:=⟨⟩
theorem tw14264622182643656176:True:=⟨⟩
theorem tw4250015644584766012:True:=⟨⟩
theorem tw8528849593630119614:True:=⟨⟩
theorem tw15698556816348905041:True:=⟨⟩
theorem tw16140125520423255087:True:=⟨⟩
theorem tw2705115469187689967:True:=⟨⟩
theorem tw1688977166570340306:True:=⟨⟩
theorem tw6143170622870494572:True:=⟨⟩
theorem tw13890127440937316150:True:=⟨⟩
theorem tw6027215310000666547:True:=⟨⟩
theorem tw17959524130538907817:True:=⟨⟩
theorem tw10117338521235662621:True:=⟨⟩
theorem tw14146904113003205675:True:=⟨⟩
theorem tw10457688147622138690:True:=⟨⟩
theorem tw7399334540720955448:True:=⟨⟩
theorem tw17549062074944962466:True:=⟨⟩
theorem tw10272521090745728473:True:=⟨⟩
theorem tw15853681924660307208:True:=⟨⟩
theorem tw17242218212350618128:True:=⟨⟩
theorem tw10856375165295986518:True:=⟨⟩
theorem tw15064853348084350150:True:=⟨⟩
theorem tw16042617087369455393:True:=⟨⟩
theorem tw897696035479056776:True:=⟨⟩
theorem tw6456803476797299848:True:=⟨⟩
theorem tw4417892867502035428:True:=⟨⟩
theorem tw5146066604838973826:True:=⟨⟩
theorem tw453741223944793073:True:=⟨⟩
theorem tw15248303202086996939:True:=⟨⟩
theorem tw7737669689528942478:True:=⟨⟩
theorem tw8096001119436769462:True:=⟨⟩
theorem tw2787624850779366868:True:=⟨⟩
theorem tw723255632316060281:True:=⟨⟩
theorem tw3536754363645657504:True:=⟨⟩
theorem tw8324144956166988153:True:=⟨⟩
theorem tw3040452826166799280:True:=⟨⟩
theorem tw9587765544077901590:True:=⟨⟩
theorem tw9030007257001340739:True:=⟨⟩
theorem tw7912279133039809428:True:=⟨⟩
theorem tw16881140212167733888:True:=⟨⟩
theorem tw3574429924988026565:True:=⟨⟩
theorem tw15266600286157129769:True:=⟨⟩
theorem tw8164610400229102765:True:=⟨⟩
theorem tw10901024092494779753:True:=⟨⟩
theorem tw2877273708256556142:True:=⟨⟩
theorem tw10043653223540085087:True:=⟨⟩
theorem tw10538201421155384089:True:=⟨⟩
theorem tw1455939272232244609:True:=⟨⟩
theorem tw4939940803774346791:True:=⟨⟩
theorem tw10363564689000752967:True:=⟨⟩
theorem tw16970720016503134071:True:=⟨⟩
theorem tw6394083986617239707:True:=⟨⟩
theorem tw16836174502661461987:True:=⟨⟩
theorem tw644637350983458476:True:=⟨⟩
theorem tw15420532313695271191:True:=⟨⟩
theorem tw4139250712914084733:True:=⟨⟩
theorem tw13447860096690446566:True:=⟨⟩
theorem tw17400189002352655102:True:=⟨⟩
theorem tw9352520248029322543:True:=⟨⟩
theorem tw13692207130200929063:True:=⟨⟩
theorem tw12811744026891345771:True:=⟨⟩
theorem tw15754651063124041387:True:=⟨⟩
theorem tw16072594274454712692:True:=⟨⟩
theorem tw9155897588625179461:True:=⟨⟩
theorem tw15596417556602490322:True:=⟨⟩
theorem tw6565884203902802463:True:=⟨⟩
theorem tw16584717909598578297:True:=⟨⟩
theorem tw2971153200642656492:True:=⟨⟩
theorem tw7396078759370646189:True:=⟨⟩
theorem tw17315231981252992987:True:=⟨⟩
theorem tw16176360349584746483:True:=⟨⟩
theorem tw15656792017701378713:True:=⟨⟩
theorem tw484500389248892566:True:=⟨⟩
theorem tw2244453119741958073:True:=⟨⟩
theorem tw5182379795684483365:True:=⟨⟩
theorem tw17138151132022043465:True:=⟨⟩
theorem tw3107059969665428904:True:=⟨⟩
theorem tw1155332399349770307:True:=⟨⟩
theorem tw16961601347021932095:True:=⟨⟩
theorem tw3498035876930950318:True:=⟨⟩
theorem tw18106554412805729062:True:=⟨⟩
theorem tw16000249458832642739:True:=⟨⟩
theorem tw16666762554086917245:True:=⟨⟩
theorem tw1202824879755809262:True:=⟨⟩
theorem tw7457359737247933021:True:=⟨⟩
theorem tw1217438162126078999:True:=⟨⟩
theorem tw6015800111290244042:True:=⟨⟩
theorem tw2983824958111128662:True:=⟨⟩
theorem tw13624731559270380155:True:=⟨⟩
theorem tw14827125055420464133:True:=⟨⟩
theorem tw18216306675835503732:True:=⟨⟩
theorem tw7794789368691955960:True:=⟨⟩
theorem tw9225718693521967442:True:=⟨⟩
theorem tw1266643942011405362:True:=⟨⟩
theorem tw6256936535577305341:True:=⟨⟩
theorem tw1638905115834873731:True:=⟨⟩
theorem tw6029984674361042741:True:=⟨⟩
theorem tw7799346616366832133:True:=⟨⟩
theorem tw16254534194097531878:True:=⟨⟩
theorem tw10015391435282622399:True:=⟨⟩
theorem tw10824695962998113234:True:=⟨⟩
theorem tw6315438646368009394:True:=⟨⟩
theorem tw14624198022506023586:True:=⟨⟩
theorem tw823052402809309394:True:=⟨⟩
theorem tw13971416959891240973:True:=⟨⟩
theorem tw13120987837381923762:True:=⟨⟩
theorem tw3503304599365012810:True:=⟨⟩
theorem tw17595023109069154380:True:=⟨⟩
theorem tw16916135718290506505:True:=⟨⟩
theorem tw2705255117925480660:True:=⟨⟩
theorem tw9519269712228778552:True:=⟨⟩
theorem tw16426932526145855739:True:=⟨⟩
theorem tw15710246418657504419:True:=⟨⟩
theorem tw8279738408234179106:True:=⟨⟩
theorem tw13725419114687637310:True:=⟨⟩
theorem tw7026217539338336033:True:=⟨⟩
theorem tw12616015055534455919:True:=⟨⟩
theorem tw5631672221928886326:True:=⟨⟩
theorem tw5069829451007261529:True:=⟨⟩
theorem tw16450894480513598833:True:=⟨⟩
theorem tw6964223348748461447:True:=⟨⟩
theorem tw9909470244012874155:True:=⟨⟩
theorem tw6041476622370324729:True:=⟨⟩
theorem tw4959942830162213353:True:=⟨⟩
theorem tw4958608100432616014:True:=⟨⟩
theorem tw15972155718848494250:True:=⟨⟩
theorem tw15926687859207292191:True:=⟨⟩
theorem tw5968078407976082200:True:=⟨⟩
theorem tw10378890192067972955:True:=⟨⟩
theorem tw16948144994077769933:True:=⟨⟩
theorem tw6012573206996251388:True:=⟨⟩
theorem tw7504181108367700781:True:=⟨⟩
theorem tw7373641022138190026:True:=⟨⟩
theorem tw11624718358760203757:True:=⟨⟩
theorem tw16017829225287723162:True:=⟨⟩
theorem tw17284067653522866358:True:=⟨⟩
theorem tw645637743408960044:True:=⟨⟩
theorem tw6492336574301582756:True:=⟨⟩
theorem tw8847991001813749458:True:=⟨⟩
theorem tw7000222430768939875:True:=⟨⟩
theorem tw15423944038731378781:True:=⟨⟩
theorem tw1085875457849387001:True:=⟨⟩
theorem tw11169967044319931307:True:=⟨⟩
theorem tw11279096603936650530:True:=⟨⟩
theorem tw9299170209159626264:True:=⟨⟩
theorem tw3884767956412839208:True:=⟨⟩
theorem tw16331348512340911507:True:=⟨⟩
theorem tw10577691851370983423:True:=⟨⟩
theorem tw4997860209995035497:True:=⟨⟩
theorem tw5685446653526519964:True:=⟨⟩
theorem tw13208715718231302740:True:=⟨⟩
theorem tw11662177245451529013:True:=⟨⟩
theorem tw118927183428140576:True:=⟨⟩
theorem tw9352230521848451205:True:=⟨⟩
theorem tw18197885854236021705:True:=⟨⟩
theorem tw12024527819059710270:True:=⟨⟩
theorem tw14743872879999494808:True:=⟨⟩
theorem tw15356914435990948486:True:=⟨⟩
theorem tw8615243615191303185:True:=⟨⟩
theorem tw4328382875817608577:True:=⟨⟩
theorem tw1589527109716417444:True:=⟨⟩
theorem tw5384145409671438353:True:=⟨⟩
theorem tw13914540838114676795:True:=⟨⟩
theorem tw3751442071922391810:True:=⟨⟩
theorem tw7401966823852262071:True:=⟨⟩
theorem tw8932267097115828099:True:=⟨⟩
theorem tw5176634117010052291:True:=⟨⟩
theorem tw17226548139228337040:True:=⟨⟩
theorem tw9847945399759227640:True:=⟨⟩
theorem tw4730100276771740852:True:=⟨⟩
theorem tw9751100009845294346:True:=⟨⟩
theorem tw1277449743615838636:True:=⟨⟩
theorem tw6527409802294605678:True:=⟨⟩
theorem tw7309817076346878033:True:=⟨⟩
theorem tw1187967644849652635:True:=⟨⟩
theorem tw10709483641298677115:True:=⟨⟩
theorem tw3947317802176092175:True:=⟨⟩
theorem tw12224939138048860128:True:=⟨⟩
theorem tw16423714905543987597:True:=⟨⟩
theorem tw7739847473700844122:True:=⟨⟩
theorem tw7147375488497570124:True:=⟨⟩
theorem tw8183615158486267369:True:=⟨⟩
theorem tw1665280030823504058:True:=⟨⟩
theorem tw16719060069912415067:True:=⟨⟩
theorem tw15800176690194201309:True:=⟨⟩
theorem tw16815671187096735175:True:=⟨⟩
theorem tw102601881735398687:True:=⟨⟩
theorem tw4400864732345023832:True:=⟨⟩
theorem tw9887440430301823165:True:=⟨⟩
theorem tw5881484125451650224:True:=⟨⟩
theorem tw4232454574048939879:True:=⟨⟩
theorem tw11327420242962036365:True:=⟨⟩
theorem tw9217511812187656896:True:=⟨⟩
theorem tw11708705638447029938:True:=⟨⟩
theorem tw17225917450617866654:True:=⟨⟩
theorem tw12372545699394926646:True:=⟨⟩
theorem tw17691465335286406878:True:=⟨⟩
theorem tw412606405737609251:True:=⟨⟩
theorem tw2304439273545216501:True:=⟨⟩
theorem tw6067144326988816484:True:=⟨⟩
theorem tw2298796531131004774:True:=⟨⟩
theorem tw13299837524973336506:True:=⟨⟩
theorem tw15676076257306016058:True:=⟨⟩
theorem tw11174645442999832088:True:=⟨⟩
theorem tw13493165026871780979:True:=⟨⟩
theorem tw11439409386860912218:True:=⟨⟩
theorem tw13512527527084169486:True:=⟨⟩
theorem tw8820412181997584229:True:=⟨⟩
theorem tw5186275339449054912:True:=⟨⟩
theorem tw8003985765324499172:True:=⟨⟩
theorem tw8485760898416837861:True:=⟨⟩
theorem tw6181652730788121059:True:=⟨⟩
theorem tw8322437815777874420:True:=⟨⟩
theorem tw4088829741269296861:True:=⟨⟩
theorem tw13777980628003252075:True:=⟨⟩
theorem tw265756756995383748:True:=⟨⟩
theorem tw15381553328117952445:True:=⟨⟩
theorem tw8889530971880701274:True:=⟨⟩
theorem tw17370238925056141283:True:=⟨⟩
theorem tw11900881098841392919:True:=⟨⟩
theorem tw8533214150458918765:True:=⟨⟩
theorem tw2124856587862173799:True:=⟨⟩
theorem tw18203896123371888228:True:=⟨⟩
theorem tw14545085478642554038:True:=⟨⟩
theorem tw13864777297598916635:True:=⟨⟩
theorem tw5435971303478815440:True:=⟨⟩
theorem tw12548480654068240583:True:=⟨⟩
theorem tw250031360654731439:True:=⟨⟩
theorem tw6339821233198035554:True:=⟨⟩
theorem tw16845732543512300132:True:=⟨⟩
theorem tw6121988548138289520:True:=⟨⟩
theorem tw11647562245756172498:True:=⟨⟩
theorem tw12861019211653005063:True:=⟨⟩
theorem tw843204669900361506:True:=⟨⟩
theorem tw16154239104150943086:True:=⟨⟩
theorem tw11796601205242479085:True:=⟨⟩
theorem tw1441734907746826124:True:=⟨⟩
theorem tw3759495592497389908:True:=⟨⟩
theorem tw14125443598294437036:True:=⟨⟩
theorem tw12826958434716185493:True:=⟨⟩
theorem tw6780764501101618200:True:=⟨⟩
theorem tw17493886366618170549:True:=⟨⟩
theorem tw16486485111496968468:True:=⟨⟩
theorem tw8937771942706825815:True:=⟨⟩
theorem tw928817835543587696:True:=⟨⟩
theorem tw18276269760160140574:True:=⟨⟩
theorem tw9444128030977460982:True:=⟨⟩
theorem tw8144645526431357666:True:=⟨⟩
theorem tw18238263237078289447:True:=⟨⟩
theorem tw16321891235969068873:True:=⟨⟩
theorem tw8329552769730261677:True:=⟨⟩
theorem tw15548899483965441787:True:=⟨⟩
theorem tw6797149765405598674:True:=⟨⟩
theorem tw12167595973840941318:True:=⟨⟩
theorem tw4683276120851217656:True:=⟨⟩
theorem tw17789660620439156693:True:=⟨⟩
theorem tw7053302409144648560:True:=⟨⟩
theorem tw10212977175886931005:True:=⟨⟩
theorem tw16488373799443482263:True:=⟨⟩
theorem tw1889492244894937862:True:=⟨⟩
theorem tw9345763570090609843:True:=⟨⟩
theorem tw14344296431452242349:True:=⟨⟩
theorem tw11341665678101193994:True:=⟨⟩
theorem tw4834343455167868525:True:=⟨⟩
theorem tw10712492838739456060:True:=⟨⟩
theorem tw2912982428415826236:True:=⟨⟩
theorem tw3104381707989659333:True:=⟨⟩
theorem tw8417612330634802723:True:=⟨⟩
theorem tw14715425305013025406:True:=⟨⟩
theorem tw11764015574711247174:True:=⟨⟩
theorem tw269042443523370011:True:=⟨⟩
theorem tw13212328600186535083:True:=⟨⟩
theorem tw6824055858230433048:True:=⟨⟩
theorem tw17100225226443011357:True:=⟨⟩
theorem tw15674405608189568626:True:=⟨⟩
theorem tw1817508100079012773:True:=⟨⟩
theorem tw13313415715225339710:True:=⟨⟩
theorem tw10305519922175570221:True:=⟨⟩
theorem tw6936502958959406534:True:=⟨⟩
theorem tw16245311758771589295:True:=⟨⟩
theorem tw5747710351858615288:True:=⟨⟩
theorem tw7680714277579380271:True:=⟨⟩
theorem tw5802617111790989224:True:=⟨⟩
theorem tw1004386341106306207:True:=⟨⟩
theorem tw14952220811722518458:True:=⟨⟩
theorem tw10679549724940244968:True:=⟨⟩
theorem tw9792141552299319353:True:=⟨⟩
theorem tw14932069730660933587:True:=⟨⟩
theorem tw9021005202395973565:True:=⟨⟩
theorem tw1014752569682220500:True:=⟨⟩
theorem tw3679362700175436128:True:=⟨⟩
theorem tw13053364548518942011:True:=⟨⟩
theorem tw17616621025308555539:True:=⟨⟩
theorem tw3941212440306156001:True:=⟨⟩
theorem tw6489401321964719726:True:=⟨⟩
theorem tw14046721732614218356:True:=⟨⟩
theorem tw16409037203492884511:True:=⟨⟩
theorem tw3697535468961534666:True:=⟨⟩
theorem tw6873685284150674699:True:=⟨⟩
theorem tw12044978719443871261:True:=⟨⟩
theorem tw9915143454355696343:True:=⟨⟩
theorem tw12673857151106936352:True:=⟨⟩
theorem tw7135748509512408732:True:=⟨⟩
theorem tw17692957955747808968:True:=⟨⟩
theorem tw10103008776633530365:True:=⟨⟩
theorem tw6038012142939498179:True:=⟨⟩
theorem tw4255896943240998473:True:=⟨⟩
theorem tw8990422750386515093:True:=⟨⟩
theorem tw9264304676314912230:True:=⟨⟩
theorem tw16451120822475358852:True:=⟨⟩
theorem tw17596447073829963275:True:=⟨⟩
theorem tw16237988769032627666:True:=⟨⟩
theorem tw4657629936484017025:True:=⟨⟩
theorem tw4528466601785724968:True:=⟨⟩
theorem tw2316573465700604288:True:=⟨⟩
theorem tw13095756367229104027:True:=⟨⟩
theorem tw11694913150971534778:True:=⟨⟩
theorem tw5736379625754444954:True:=⟨⟩
theorem tw5616500159454547739:True:=⟨⟩
theorem tw1734478617198376880:True:=⟨⟩
theorem tw10501157249023493019:True:=⟨⟩
theorem tw17994776327437170714:True:=⟨⟩
theorem tw9074071331496050972:True:=⟨⟩
theorem tw14833076894852964201:True:=⟨⟩
theorem tw15354925156973490445:True:=⟨⟩
theorem tw14173139660049204461:True:=⟨⟩
theorem tw17137666468664589371:True:=⟨⟩
theorem tw2285150772707672604:True:=⟨⟩
theorem tw11795575382259611745:True:=⟨⟩
theorem tw14393608437332187544:True:=⟨⟩
theorem tw12360598814121597747:True:=⟨⟩
theorem tw9957310033633631749:True:=⟨⟩
theorem tw4132583139936120943:True:=⟨⟩
theorem tw118890317791237526:True:=⟨⟩
theorem tw12423058494756724488:True:=⟨⟩
theorem tw4399700733473574607:True:=⟨⟩
theorem tw15657632648595721018:True:=⟨⟩
theorem tw13184423033904640749:True:=⟨⟩
theorem tw9566447256040676441:True:=⟨⟩
theorem tw16053306202277870637:True:=⟨⟩
theorem tw14761795020583499933:True:=⟨⟩
theorem tw15889881433348216869:True:=⟨⟩
theorem tw9285726778719443603:True:=⟨⟩
theorem tw864405573939370553:True:=⟨⟩
theorem tw2453886304328782927:True:=⟨⟩
theorem tw14008657668014556494:True:=⟨⟩
theorem tw8110731765503200847:True:=⟨⟩
theorem tw9618213767506916756:True:=⟨⟩
theorem tw3604714126352684007:True:=⟨⟩
theorem tw3925883821694351195:True:=⟨⟩
theorem tw6343734837709544148:True:=⟨⟩
theorem tw6268388563551923035:True:=⟨⟩
theorem tw12240749698072803870:True:=⟨⟩
theorem tw15872040254699805395:True:=⟨⟩
theorem tw11949042235659877599:True:=⟨⟩
theorem tw17735647855113917734:True:=⟨⟩
theorem tw6246317542633010628:True:=⟨⟩
theorem tw9015623184350107135:True:=⟨⟩
theorem tw18274474129783522472:True:=⟨⟩
theorem tw3711148681614410965:True:=⟨⟩
theorem tw38295934277313974:True:=⟨⟩
theorem tw1260027389018110667:True:=⟨⟩
theorem tw9202664557592696659:True:=⟨⟩
theorem tw13717855798479025907:True:=⟨⟩
theorem tw18097623418388867750:True:=⟨⟩
theorem tw9398836515714578192:True:=⟨⟩
theorem tw11635204294877983507:True:=⟨⟩
theorem tw956416199525661457:True:=⟨⟩
theorem tw14550288242668791875:True:=⟨⟩
theorem tw11658302671581251203:True:=⟨⟩
theorem tw15481114583988979260:True:=⟨⟩
theorem tw6388944640813633474:True:=⟨⟩
theorem tw8054670262503689316:True:=⟨⟩
theorem tw7381578118649822605:True:=⟨⟩
theorem tw13619198862624706915:True:=⟨⟩
theorem tw5268793440510797341:True:=⟨⟩
theorem tw12382593759777684336:True:=⟨⟩
theorem tw4541398518306692243:True:=⟨⟩
theorem tw10970245670756785426:True:=⟨⟩
theorem tw1320970339790692400:True:=⟨⟩
theorem tw7198535551531765082:True:=⟨⟩
theorem tw1144913569626510296:True:=⟨⟩
theorem tw13982963908580438865:True:=⟨⟩
theorem tw12305485835377707966:True:=⟨⟩
theorem tw7037524486817644871:True:=⟨⟩
theorem tw16447287409111270774:True:=⟨⟩
theorem tw13071710112790534752:True:=⟨⟩
theorem tw6175511020472735359:True:=⟨⟩
theorem tw1420896812767264665:True:=⟨⟩
theorem tw8776986382726434802:True:=⟨⟩
theorem tw14144287129788310268:True:=⟨⟩
theorem tw4056652729195238757:True:=⟨⟩
theorem tw1171932578527514323:True:=⟨⟩
theorem tw8853700466064768140:True:=⟨⟩
theorem tw15352298426054145346:True:=⟨⟩
theorem tw4436981063426262868:True:=⟨⟩
theorem tw9066267146949911571:True:=⟨⟩
theorem tw11853602846956868908:True:=⟨⟩
theorem tw11795098072537154382:True:=⟨⟩
theorem tw6696744193270730520:True:=⟨⟩
theorem tw10832813583576846109:True:=⟨⟩
theorem tw10719156049333052475:True:=⟨⟩
theorem tw1475078653106682672:True:=⟨⟩
theorem tw3069975402194263951:True:=⟨⟩
theorem tw7548979967716805825:True:=⟨⟩
theorem tw14655424324047905595:True:=⟨⟩
theorem tw1577561698838154892:True:=⟨⟩
theorem tw9002328525496997472:True:=⟨⟩
theorem tw10463937480277608769:True:=⟨⟩
theorem tw15387511057161508188:True:=⟨⟩
theorem tw15704591259318850680:True:=⟨⟩
theorem tw13355501303807045069:True:=⟨⟩
theorem tw14727928690510178006:True:=⟨⟩
theorem tw2941011327275126195:True:=⟨⟩
theorem tw6554485542398408431:True:=⟨⟩
theorem tw1604852417198613867:True:=⟨⟩
theorem tw10326927648507830626:True:=⟨⟩
theorem tw3589938548379990794:True:=⟨⟩
theorem tw16975230179611641956:True:=⟨⟩
theorem tw1251777578495798384:True:=⟨⟩
theorem tw11132395247659461010:True:=⟨⟩
theorem tw6267723826102835613:True:=⟨⟩
theorem tw7830075291903692265:True:=⟨⟩
theorem tw3149671867941078961:True:=⟨⟩
theorem tw3810636038337372491:True:=⟨⟩
theorem tw6548696800973509694:True:=⟨⟩
theorem tw11170506506825233864:True:=⟨⟩
theorem tw3463508276990857999:True:=⟨⟩
theorem tw3128871759728030233:True:=⟨⟩
theorem tw17144655774745784860:True:=⟨⟩
theorem tw3554090556776345553:True:=⟨⟩
theorem tw18336316153892721768:True:=⟨⟩
theorem tw4363231052129358833:True:=⟨⟩
theorem tw14985272087010020829:True:=⟨⟩
theorem tw15464388173007226482:True:=⟨⟩
theorem tw9981741323028846426:True:=⟨⟩
theorem tw17903389006651323577:True:=⟨⟩
theorem tw6332489137914580891:True:=⟨⟩
theorem tw10465944421976146746:True:=⟨⟩
theorem tw16091796914871212538:True:=⟨⟩
theorem tw11829562699601234438:True:=⟨⟩
theorem tw3293150567021949834:True:=⟨⟩
theorem tw18404597050777502955:True:=⟨⟩
theorem tw13553695109569787092:True:=⟨⟩
theorem tw11715453960666594310:True:=⟨⟩
theorem tw1579713893160288338:True:=⟨⟩
theorem tw14261001575292625659:True:=⟨⟩
theorem tw206953947729002752:True:=⟨⟩
theorem tw7518160615501047235:True:=⟨⟩
theorem tw3337448770654444360:True:=⟨⟩
theorem tw1252744090863010803:True:=⟨⟩
theorem tw9109525462181656385:True:=⟨⟩
theorem tw5310830046319207483:True:=⟨⟩
theorem tw1317357887085720968:True:=⟨⟩
theorem tw15556556129390787837:True:=⟨⟩
theorem tw10709639601322617269:True:=⟨⟩
theorem tw241702649991425888:True:=⟨⟩
theorem tw3792397044212538038:True:=⟨⟩
theorem tw1686950255343752900:True:=⟨⟩
theorem tw11535775736007766407:True:=⟨⟩
theorem tw11262855703960056136:True:=⟨⟩
theorem tw17538122380362044334:True:=⟨⟩
theorem tw1400569666420175719:True:=⟨⟩
theorem tw5832964106278252290:True:=⟨⟩
theorem tw16106269878947669916:True:=⟨⟩
theorem tw3511901565883128834:True:=⟨⟩
theorem tw15840217460960884283:True:=⟨⟩
theorem tw5981010497633415210:True:=⟨⟩
theorem tw5817241569835629330:True:=⟨⟩
theorem tw16922552256455068283:True:=⟨⟩
theorem tw8600984007872375906:True:=⟨⟩
theorem tw2109903602517704366:True:=⟨⟩
theorem tw10216592085698678981:True:=⟨⟩
theorem tw14068523135436681095:True:=⟨⟩
theorem tw4724897116452367929:True:=⟨⟩
theorem tw17924913916259477442:True:=⟨⟩
theorem tw678912030391019386:True:=⟨⟩
theorem tw3442835120420171916:True:=⟨⟩
theorem tw4427270938787515083:True:=⟨⟩
theorem tw439412174671786150:True:=⟨⟩
theorem tw15695760306403794371:True:=⟨⟩
theorem tw75397521017621915:True:=⟨⟩
theorem tw5199307345521093392:True:=⟨⟩
theorem tw3434206598384808509:True:=⟨⟩
theorem tw11480230717994834798:True:=⟨⟩
theorem tw4077186178323565654:True:=⟨⟩
theorem tw13824038714876009126:True:=⟨⟩
theorem tw12387772661234528420:True:=⟨⟩
theorem tw3658915399818750749:True:=⟨⟩
theorem tw1905585727065227217:True:=⟨⟩
theorem tw4684800365901858131:True:=⟨⟩
theorem tw12855018391484955708:True:=⟨⟩
theorem tw18396439740919154106:True:=⟨⟩
theorem tw2745852463574782096:True:=⟨⟩
theorem tw6677033184933127865:True:=⟨⟩
theorem tw13057324079527161065:True:=⟨⟩
theorem tw11292693811868958700:True:=⟨⟩
theorem tw7969218929476197083:True:=⟨⟩
theorem tw12594473721713668824:True:=⟨⟩
theorem tw6632033230498315344:True:=⟨⟩
theorem tw11176454033095306999:True:=⟨⟩
theorem tw13985898481697486934:True:=⟨⟩
theorem tw17255949761011190279:True:=⟨⟩
theorem tw9728573203029862085:True:=⟨⟩
theorem tw14682779507364000623:True:=⟨⟩
theorem tw10746417043197631584:True:=⟨⟩
theorem tw10214640583862060227:True:=⟨⟩
theorem tw8264799138196071604:True:=⟨⟩
theorem tw226481346709740677:True:=⟨⟩
theorem tw2730453046176343496:True:=⟨⟩
theorem tw10441486272542352106:True:=⟨⟩
theorem tw12574859627801537617:True:=⟨⟩
theorem tw6796864633653801412:True:=⟨⟩
theorem tw6809446023390139642:True:=⟨⟩
theorem tw480012544216843576:True:=⟨⟩
theorem tw12687522791982126274:True:=⟨⟩
theorem tw4853853610137097994:True:=⟨⟩
theorem tw6289879358191627787:True:=⟨⟩
theorem tw12058220604527696241:True:=⟨⟩
theorem tw16712539392601053622:True:=⟨⟩
theorem tw4246829324213179332:True:=⟨⟩
theorem tw215114003817795216:True:=⟨⟩
theorem tw9536240226694030265:True:=⟨⟩
theorem tw8270424285277957300:True:=⟨⟩
end PySem.W.Fast
open PySem PySem.W PyProof.Rows
set_option maxRecDepth 100000 in
set_option maxHeartbeats 0 in
theorem PySem.Challenge.cw_tariffgate_k43_looked_holds : PySem.Challenge.rw_tariffgate_k43_looked.Holds := by
 w_on; o_law; k_head; (case hw=>w_witness2)
 k_fill
 refine My.walk (l:=PySem.Challenge.rw_tariffgate_k43_looked) rfl rfl (fun w h Y=>PySem.W.kIn_of Y) ?F
 case F =>
  intro w mg fa h KX G hmg
  refine' My.all_mk KX G hmg ?n_Note ?n_OfTwo ?n_Anything ?n_Made ?n_Used ?n_Chief ?n_Over ?n_Both ?n_Either ?n_But ?n_Tree ?a1 ?l1 ?c1 ?k1 ?a2 ?l2 ?c2 ?k2 ?a3 ?l3 ?c3 ?k3 ?a4 ?l4 ?c4 ?k4 ?a5 ?l5 ?c5 ?k5 ?a6 ?l6 ?c6 ?k6 ?a7 ?l7 ?c7 ?k7 ?a8 ?l8 ?c8 ?k8 ?a9 ?l9 ?c9 ?k9 ?a10 ?l10 ?c10 ?k10 ?a11 ?l11 ?c11 ?k11 ?a12 ?l12 ?c12 ?k12 ?a13 ?l13 ?c13 ?k13 ?t13 ?a14 ?l14 ?c14 ?k14 ?t14 ?a15 ?l15 ?c15 ?k15 ?t15 ?a16 ?l16 ?c16 ?k16 ?t16 ?a17 ?l17 ?c17 ?k17 ?t17 ?a18 ?l18 ?c18 ?k18 ?a19 ?l19 ?c19 ?k19 ?a20 ?l20 ?c20 ?k20 ?a21 ?l21 ?c21 ?k21 ?a22 ?l22 ?c22 ?k22 ?a23 ?l23 ?c23 ?k23 ?a24 ?l24 ?c24 ?k24 ?a25 ?l25 ?c25 ?k25 ?a26 ?l26 ?c26 ?k26 ?a27 ?l27 ?c27 ?k27 ?a28 ?l28 ?c28 ?k28 ?a29 ?l29 ?c29 ?k29 ?t29 ?a30 ?l30 ?c30 ?k30 ?t30 ?a31 ?l31 ?c31 ?k31 ?t31 ?a32 ?l32 ?c32 ?k32 ?t32 ?a33 ?l33 ?c33 ?k33 ?t33 ?a34 ?l34 ?c34 ?k34 ?t34 ?a35 ?l35 ?c35 ?k35 ?t35 ?a36 ?l36 ?c36 ?k36 ?t36 ?a37 ?l37 ?c37 ?k37 ?t37 ?a38 ?l38 ?c38 ?k38 ?a39 ?l39 ?c39 ?k39 ?a40 ?l40 ?c40 ?k40 ?a41 ?l41 ?c41 ?k41 ?a42 ?l42 ?c42 ?k42 ?a43 ?l43 ?c43 ?k43 ?t43 ?a44 ?l44 ?c44 ?k44 ?t44 ?a45 ?l45 ?c45 ?k45 ?a46 ?l46 ?c46 ?k46 ?a47 ?l47 ?c47 ?k47 ?a48 ?l48 ?c48 ?k48 ?a49 ?l49 ?c49 ?k49 ?a50 ?l50 ?c50 ?k50 ?a51 ?l51 ?c51 ?k51 ?a52 ?l52 ?c52 ?k52 ?a53 ?l53 ?c53 ?k53 ?a54 ?l54 ?c54 ?k54 ?a55 ?l55 ?c55 ?k55 ?a56 ?l56 ?c56 ?k56 ?a57 ?l57 ?c57 ?k57 ?a58 ?l58 ?c58 ?k58 ?a59 ?l59 ?c59 ?k59 ?pg_Anything ?hd_Anything ?po_Anything ?sa_Anything ?ia_Anything ?im_Anything ?mk_Anything ?kc_Anything ?in_Anything ?pg_Made ?hd_Made ?po_Made ?sa_Made ?ia_Made ?im_Made ?mk_Made ?kc_Made ?pg_Used ?hd_Used ?po_Used ?sa_Used ?ia_Used ?im_Used ?mk_Used ?kc_Used ?pg_Chief ?hd_Chief ?po_Chief ?sa_Chief ?ia_Chief ?im_Chief ?mk_Chief ?kc_Chief ?pg_Over ?hd_Over ?po_Over ?sa_Over ?ia_Over ?im_Over ?mk_Over ?kc_Over ?pg_Both ?hd_Both ?po_Both ?sa_Both ?ia_Both ?im_Both ?mk_Both ?kc_Both ?pg_Either ?hd_Either ?po_Either ?sa_Either ?ia_Either ?im_Either ?mk_Either ?kc_Either ?pg_But ?hd_But ?po_But ?sa_But ?ia_But ?im_But ?mk_But ?kc_But ?pg_Tree ?hd_Tree ?po_Tree ?sa_Tree ?ia_Tree ?im_Tree ?mk_Tree ?kc_Tree ?oget ?otakes ?na_Made_stuff ?na_Used_use ?na_Chief_stuff ?na_Over_one ?na_Over_other ?na_Both_one ?na_Both_other ?na_Either_one ?na_Either_other ?na_But_one ?na_But_other ?in_Both ?in_Either ?in_But ?cm_Anything ?cm_Made ?cm_Used ?cm_Chief ?cm_Over ?cm_Both ?cm_Either ?cm_But ?nt_goods ?nt_numbers ?nt_pickings ?nt_notes ?nt_counts ?nr_Tree ?z_len ?z_range ?z_abs ?z_max ?z_min ?z_isinstance ?z_int ?z_bool ?z_str ?z_list ?z_tuple ?z_sum ?z_all ?z_enumerate ?z_zip ?z_ValueError ?z_any ?z_set ?z_sorted
  case n_Note | n_OfTwo | n_Anything | n_Made | n_Used | n_Chief | n_Over | n_Both | n_Either | n_But | n_Tree | a1 | l1 | c1 | k1 | a2 | l2 | c2 | k2 | a3 | l3 | c3 | k3 | a4 | l4 | c4 | k4 | a5 | l5 | c5 | k5 | a6 | l6 | c6 | k6 | a7 | l7 | c7 | k7 | a8 | l8 | c8 | k8 | a9 | l9 | c9 | k9 | a10 | l10 | c10 | k10 | a11 | l11 | c11 | k11 | a12 | l12 | c12 | k12 | a13 | l13 | c13 | k13 | t13 | a14 | l14 | c14 | k14 | t14 | a15 | l15 | c15 | k15 | t15 | a16 | l16 | c16 | k16 | t16 | a17 | l17 | c17 | k17 | t17 | a18 | l18 | c18 | k18 | a19 | l19 | c19 | k19 | a20 | l20 | c20 | k20 | a21 | l21 | c21 | k21 | a22 | l22 | c22 | k22 | a23 | l23 | c23 | k23 | a24 | l24 | c24 | k24 | a25 | l25 | c25 | k25 | a26 | l26 | c26 | k26 | a27 | l27 | c27 | k27 | a28 | l28 | c28 | k28 | a29 | l29 | c29 | k29 | t29 | a30 | l30 | c30 | k30 | t30 | a31 | l31 | c31 | k31 | t31 | a32 | l32 | c32 | k32 | t32 | a33 | l33 | c33 | k33 | t33 | a34 | l34 | c34 | k34 | t34 | a35 | l35 | c35 | k35 | t35 | a36 | l36 | c36 | k36 | t36 | a37 | l37 | c37 | k37 | t37 | a38 | l38 | c38 | k38 | a39 | l39 | c39 | k39 | a40 | l40 | c40 | k40 | a41 | l41 | c41 | k41 | a42 | l42 | c42 | k42 | a43 | l43 | c43 | k43 | t43 | a44 | l44 | c44 | k44 | t44 | a45 | l45 | c45 | k45 | a46 | l46 | c46 | k46 | a47 | l47 | c47 | k47 | a48 | l48 | c48 | k48 | a49 | l49 | c49 | k49 | a50 | l50 | c50 | k50 | a51 | l51 | c51 | k51 | a52 | l52 | c52 | k52 | a53 | l53 | c53 | k53 | a54 | l54 | c54 | k54 | a55 | l55 | c55 | k55 | a56 | l56 | c56 | k56 | a57 | l57 | c57 | k57 | a58 | l58 | c58 | k58 | a59 | l59 | c59 | k59 | pg_Anything | hd_Anything | po_Anything | sa_Anything | ia_Anything | im_Anything | mk_Anything | kc_Anything | in_Anything | pg_Made | hd_Made | po_Made | sa_Made | ia_Made | im_Made | mk_Made | kc_Made | pg_Used | hd_Used | po_Used | sa_Used | ia_Used | im_Used | mk_Used | kc_Used | pg_Chief | hd_Chief | po_Chief | sa_Chief | ia_Chief | im_Chief | mk_Chief | kc_Chief | pg_Over | hd_Over | po_Over | sa_Over | ia_Over | im_Over | mk_Over | kc_Over | pg_Both | hd_Both | po_Both | sa_Both | ia_Both | im_Both | mk_Both | kc_Both | pg_Either | hd_Either | po_Either | sa_Either | ia_Either | im_Either | mk_Either | kc_Either | pg_But | hd_But | po_But | sa_But | ia_But | im_But | mk_But | kc_But | pg_Tree | hd_Tree | po_Tree | sa_Tree | ia_Tree | im_Tree | mk_Tree | kc_Tree | oget | otakes | na_Made_stuff | na_Used_use | na_Chief_stuff | na_Over_one | na_Over_other | na_Both_one | na_Both_other | na_Either_one | na_Either_other | na_But_one | na_But_other | in_Both | in_Either | in_But | cm_Anything | cm_Made | cm_Used | cm_Chief | cm_Over | cm_Both | cm_Either | cm_But | nt_goods | nt_numbers | nt_pickings | nt_notes | nt_counts | nr_Tree | z_len | z_range | z_abs | z_max | z_min | z_isinstance | z_int | z_bool | z_str | z_list | z_tuple | z_sum | z_all | z_enumerate | z_zip | z_ValueError | z_any | z_set | z_sorted=>first | k_is | k_exc | kit_is | rfl | kernel_rfl | decide
#print axioms PySem.Challenge.cw_tariffgate_k43_looked_holds

import PyProof.Rows.All
import Wide.All
import OpenK.AllK
import Wide.FinOn
import Lean
import PyProof.EqAt
import PyProof.EqKinds
import PyProof.TupleCall
import PyProof.NeKinds
import PyProof.Draws
import PyProof.EnumMake
import PyProof.WalksEnum
import PyProof.Rows.EnumRows
import PyProof.ExcArgsOwn
import PyProof.ExcAttrAll.ValueError
import PyProof.ExcBaseAll.ValueError
import KE.KIsAll
import KE.KTryOn
import KE.RegKIsAll
import OpenK.KOwn
import PyProof.ZipIter
import PyProof.StrWalks
import PyProof.DictTable
import PyProof.SetNew
import PyProof.SetRoads
import PyProof.P3In
import PyProof.NeData
import PyProof.AttrMissSeq
import KE.KDictOf
import KE.KDictSum
import PyProof.Rows.SortStr
import PyProof.ExcInit
import PyProof.ExcClass2
import PyProof.InstStoreFacts
import KE.KLam
import KE.KNestM
import PyProof.Rows.SortRuns
import KE.KSortTup
import KE.KDictLaws
import KE.KDictList
import PyProof.ListRange
import PyProof.ListMulRoad
import PyProof.FactsAll.tuple_2
import PySem.Challenge.RW_tariffgate_k42_trees_refused
set_option Elab.async false
set_option linter.all false
noncomputable section
set_option maxRecDepth 100000
set_option compiler.extract_closed false
set_option genSizeOf false
open PySem.W renaming Frag→cy,findIn→DG,mg_none_of→DS,kitOne→D4,nsIn→Ei,emptyDict→Ej,keepIn→Es,instObj→Ey,mroIn→EG,specialIn→EY,fnOf→Fv,takesIn→FZ,clsIn→Gi,subIn→Gj,plainGet→Gr,hideAll→GC,makesIn→GG,callWith_K→GI,isClsIn→GS,hasDictIn→GV,codeIn→G1,kat_cons→Hi,excIn→Hq,plainGet_of→Hu,kat_yes→HA,kat_nil→HB,isFn→HP,lookIn→HV,typeIn→HW,kat_no→HY,methodObj→HZ,plainOver→Ic,mg_of→IB,makes_of→IG,cellsFrom_some→IJ,funFrames_hide→IL,takerIn→IR,OpenLaw→IY,kat_one→Jc,looks_findIn→Jj,hideAll_get→Ju,of_hideAll→JF,make_core→JL,handedIn→J0,InitBack→J1,kat_kind→J4
open List renaming length_map→iz,getElem?_eq_some_iff→yp,size_toArray→Dk,getElem?_eq_getElem→Dm,length_append→Dp,getElem?_map→Dq,mem_of_getElem?→Ds,length_take→Dt,mem_cons→Du,take_of_length_le→Dw,mem_singleton→DA,length_cons→DF,map_append→DH,mem_cons_of_mem→DI,range→DJ,mem_append_right→DM,mem_append→DV,length_range→DW,mem_cons_self→DX,mem_map→DZ,Nodup→D5,length_filter_le→D6,map_cons→D8,append_nil→D9,all_eq_true→Ek,take_add_one→El,filter_cons_of_neg→Em,getD→Er,mem_iff_getElem?→Et,filter_cons_of_pos→Ex,replicate→Ez,filter_append→EC,length_drop→ED,mem_of_mem_take→EI,mem_range→ES,take_length→EW,take_succ→E1,mem_append_left→Fd,length_dropLast→Fe,nodup_cons→Fp,getElem?_set_self→Fq,drop_of_length_le→Ft,map_take→Fx,drop_zero→FF,mem_filter→FH,foldl_cons→FO,any_cons→FT,getElem?_cons_succ→FU,take_zero→FW,length_set→F3,find?_cons→F7,getElem?_eq_none→F9,range_succ→Ga,filter_nil→Gb,mem_of_mem_drop→Gm,drop_eq_getElem_cons→Gp,mem_or_eq_of_mem_set→Gq,getElem_mem→Gu,filterMap_cons→Gv,getElem?_replicate→GJ,all_cons→GK,length_zip→GO,countP_cons_of_pos→GR,lookup→GW,reverse_cons→GY,getElem?_inj→G0,length_replicate→G2,length_singleton→G3,dropLast_eq_take→G8,zip_toArray→Hj,forIn_cons→Hv,getElem_of_mem→Hw,getElem?_range→HC,getElem?_append_right→HF,mem_filterMap→HN,all_map→HS,zip_cons_cons→HU,getElem?_append_left→HX,nodup_append→Ik,map_drop→Iu,countP_cons_of_neg→IA,range_succ_eq_map→IM,find?_cons_of_neg→IP,of_mem_zip→IU,map_nil→IX,count_cons→Je,take_append_drop→Jf,all_append→Jg,foldl→Jh,getElem?_set_ne→Ji,forall_mem_cons→Jl,count_cons_self→Jm,forIn_nil→Jr,length→Jv,replicate_succ→JA,map_map→JV,map_set→JW,any_map→JX
open PySem renaming wpAny_bind→wo,wpAny_pure→Do,Program→Dz,starEach→DK,mainGlobals→DR,FuncData→DU,bootBuiltins→Eg,wpAny_mono→Eo,wpAny_truthy_bool→EE,compareOp→EJ,wpAny_holding→EK,sizeLine_eq→EL,mem_of_lookup→EM,wpAny_pyIter_tuple→E3,wpAny_Call_Name_kw→E4,checkBuiltinCall→Fb,codeAny_call_builtin→Ff,wpAny_callSpecial?_slot→Fg,wpAny_newObj_type→Fo,binaryOp→FG,wpAny_loadPart'→FN,codeAny_mono→F0,relabel→F4,sysModules→Gc,behindInMarks→Gd,wpAny_pyIter_list→Ge,attributeBase→Gf,wpAny_call→Gg,call_meets→Gh,wpAny_call_entry→Gs,wpAny_field→Gw,Builtin→Gx,wpAny_execs_nil→GE,wpAny_passesOwn→GF,codeAny→GH,wpAny_attempt→GM,codeAny_builtin→GN,assignEach→GU,sliceBounds→GX,wpAny_pyIter_enum→GZ,noFill_tuple_add→Hh,letOwnedTupleGo→Ht,wpAny_letOwnedTupleGo_enum→HJ,swapsWith→Ia,foldedSetIterable→Ib,wpAny_comprehension_free→Ie,wpAny_rule→Ig,intKind→Il,seq_tuple_add→Io,getItem→Ip,keywordEach→Iq,wpAny_newList→Iw,wpAny_execs_cons→IF,tupleKind→IQ,BindsTo→IS,Keyword→IT,concat_meets→IV,wpAny_loadPart→Jo,recursionLimit→Jp,isSubtype_type→Jq,subscripted→Jw,argBest→Jz,holding→JK,callerA→JN,valueAt→JO,Within→JS
open PySem.Str renaming ofString→Dj
open PySem.Heap renaming get?_push_of_some→Dl,get?_push_size→Dr,lt_size→Dy,get?_update_other→En,size_push→Fi,SameBut→Gy,get?_none_of_le→Hl,FlyingW→HR,get?_update_self→IW
open Int renaming emod_lt_of_pos→Dv,emod_nonneg→DB,toNat_natCast→EA,lt_trans→JY
open Bool renaming false_ne_true→DC,false_eq_true→E5,and_eq_true→E8,and_false→Fj,true_and→Fy,false_and→FA,eq_iff_iff→FI,eq_false_iff→Ih,false_or→Ir,not_not→JZ
open PySem.PyData renaming canLay0→DN,depthAll→DO,canLayAll0→Ea,eqv→Eu,depth→Fz
open Option.some renaming inj→DP
open PySem.F renaming plainAttrs_list→DQ,slot_list_append→EO,type_list_append→ER,args_tuple_add_2→FJ,entry_tuple_add→FS,slot_tuple_add→FY,slot_list_insert→GA,type_list_insert→GB,slot_tuple_mul→GT,excBase_ValueError→HL,slot_list_extend→Ii,type_list_extend→Ij,slot_tuple_rmul→IC,slot_list_count→ID,type_list_count→IE,slot_str_join→IZ,slot_int_rmul→Jd
open PySem.Paired renaming length→DT
open True renaming intro→DY
open PySem.Obj renaming mapSeq→Eh
open PyProof.Rows renaming slot_tuple_getitem→Ep,wpS_bind→Ew,callWith_type1→ET,wpS_pure→EU,pendingOf→F8,listUpdate_at→Gk,IntsAre→GL,wpS_forRange→G6,get?_update_seq→HD,AllBare→Im,seqEpoch_at→Iz,tuples'→Jb,wpS_get→JB,Subscript_→JM,wpS_modify→JP
open Option renaming map_eq_some_iff→EB,isSome_iff_exists→EN,map_some→Hy,getD_some→II
open False renaming elim→EF
open And renaming intro→EH
open Array renaming getD_eq_getD_getElem?→EV,getElem?_toList→Fw,swapIfInBounds_def→FP,getElem?_map→GQ,length_toList→Hs,perm_iff_toList_perm→HM,range→JC,append_assoc→JG
open PyProof.Rows.SortSt renaming mk'→EZ
open Ne renaming symm→E6
open Prod.mk renaming inj→Fc
open PySem.Builtin.Slice renaming slicePlaces→FD,sliceAdjust→Gn,sliceApplied→HG
open PySem.Builtin.SmallTypes renaming nextOf→FE
open PySem.Builtin.Tuple renaming tupleExact→FL,tupleItemsOf→HH,tupleIsExact→HK
open PySem.PassesOwn renaming never→FQ,leaving→JR
open PySem.Builtin.List renaming listTooLong→Gz,listUpdate→Iv
open PySem.SeqAt renaming readsAll_map→GP,readOf→G4,readsAll_mem→JI
open PySem.W.Looks renaming of_pure→G5,andThen→Ja
open List.Nodup renaming length_le_of_subset→G9
open PySem.Around renaming under_plainId→Ho,under→JT
open PySem.Builtin.Str renaming tooLong→Hx
open Pure renaming pure→Hz
open PySem.Calls renaming Name_function_global→HE,callWith_builtin→IK,evalArgs_plain→Jk
open PySem.SeqAt.EqAt renaming int_int→HQ,int_str→JD,str_int→JE
open PySem.Value renaming isInt→Js
open Sum renaming inl→Jt,inr→JJ
open PySem.Builtin.Int renaming intBits→Jx
open PySem.Heap.SameBut renaming update→Jy
open PySem.W.KF renaming slot_gs→JH
open Decidable renaming not_not→JQ
open PySem.Code renaming isFrame→JU
open PySem.IsiPair renaming bool_int→J2
open Std.Legacy renaming Range→J3
open PyProof.Rows.IsTup renaming new→J5
def Oz0{a:Int}:0≤a→a=((Int.toNat a):Int):=by omega
def Oz1{a b:Nat}:b<a→a-(b+1)<a-b:=by omega
def Oz2{a b:Nat}:(min a b)+((b-a)+1)=b+1:=by omega
def Oz3{a b c d:Nat}:a≤c+1→b≤d+1→(max 0 (max a (max b 0)))+1≤((max c d)+1)+1:=by omega
def Oz4{a b c d:Nat}:a+60<d→c≤40→(a+1)+(min b c)<d:=by omega
def Oz5{a:Nat}:Int.toNat ((-1)+(a:Int))=a-1:=by omega
def Oz6{a b c:Nat}:(max c a)+1≤b+1→a≤b:=by omega
def Oz7{a b c:Nat}:(max a c)+1≤b+1→a≤b:=by omega
def Oz8{a b:Nat}:a<b→a-1<b:=by omega
def Oz9{a:Nat}:a<8→(a=0)∨((a=1)∨((a=2)∨((a=3)∨((a=4)∨((a=5)∨((a=6)∨(a=7))))))):=by omega
def Oz10{a b:Nat}:a≤b→¬(a<b)→a=b:=by omega
def Oz11{a:Int}:0<1+(a%8):=by omega
def Oz12{a b:Nat}:1≤b→a=b→0<(a:Int):=by omega
def Oz13{a b c:Nat}:c=b→a<c→a<b:=by omega
def Oz14{a b c:Nat}:c≤b→c=a→a≤b:=by omega
def Oz15{a b:Nat}:((0+a)-1)-b=(a-1)-b:=by omega
def Oz16{a b:Nat}{c:Int}:c<(b:Int)→c=(a:Int)→a<b:=by omega
def Oz17{a:Nat}:1≤a+2:=by omega
def Oz18{a b:Nat}:a≤b→a≤b+1:=by omega
def Oz19{a b:Int}:¬(b<a)→a≠b→a<b:=by omega
def Oz20{a b c:Nat}:a<c→b=c→a<b:=by omega
def Oz21{a b c:Nat}:c<a→a<b+1→a-1<b:=by omega
def Oz22{a b:Nat}:a<b→a<b:=by omega
def Oz23{a b c:Nat}:a≤c→b≤c→(max a b)+1≤c+1:=by omega
def Oz24{a:Nat}:(a+1)+3=3+(a+1):=by omega
def Oz25{a b:Nat}:a≤b→a≤b:=by omega
def Oz26{a:Nat}:3+a≤3+a:=by omega
def Oz27{a b:Nat}:b=4→a%4<b:=by omega
def Oz28{a b:Nat}:¬(b≤a)→a≤b:=by omega
def Oz29{a:Nat}:¬(a+1<1):=by omega
def Oz30{b:Nat}{a:Int}:a<0→max 0 (min (a+(b:Int)) (b:Int))=((Int.toNat (a+(b:Int))):Int):=by omega
def Oz31{a:Nat}:a≤1→a+1≤40:=by omega
def Oz32{a b:Nat}:1≤b→a=b→1≤a:=by omega
def Oz33{a b:Nat}:1≤a→¬((max a b)+1=1):=by omega
def Oz34{a b:Nat}:1≤b→a=b→(a:Int)≠0:=by omega
def Oz35{a:Nat}:0≤(a:Int):=by omega
def Oz36{a:Nat}:Int.toNat ((a:Int)+1)=a+1:=by omega
def Oz37{b c:Nat}{a:Int}:b≤c→a<(b:Int)→c<2^63→a<2^63:=by omega
def Oz38{a:Nat}:((a+1):Int)-1=(a:Int):=by omega
def Oz39{a:Nat}:1≤a→1≤(a:Int):=by omega
def Oz40{a:Nat}:a≤4→a+1≤5:=by omega
def Oz41{b c:Nat}{a:Int}:b≤c→-(b:Int)≤a→c<2^63→-(2^63)≤a:=by omega
def Oz42{a b c f:Nat}:b=f→f=c→a<c→a<b:=by omega
def Oz43{a:Nat}:a≤1000→a≤16777216:=by omega
def Oz44{a b:Nat}:a<b→(a:Int)<(b:Int):=by omega
def Oz45{a:Int}:¬(0≤a)→a<0:=by omega
def Oz46{a:Nat}:0<(a:Int)+1:=by omega
def Oz47{a c:Nat}:a=c+1→1≤a:=by omega
def Oz48{a b:Nat}:a=b+1→(max a 1)+1=(b+1)+1:=by omega
def Oz49{a b c:Nat}:c=b→a=c→a=b:=by omega
def Oz50{a:Nat}:-(10^61)≤0+(a:Int):=by omega
def Oz51{a:Nat}:a≤24→a<64:=by omega
def Oz52{a:Nat}:Int.toNat (a:Int)=a:=by omega
def Oz53{a:Int}:((0≤a)∧(a<26))→a=((Int.toNat a):Int):=by omega
def Oz54{a b e:Nat}{c d:Int}:b=4→((c/64)+(d*(0+(e:Int))))%16=(a:Int)→a/4<b:=by omega
def Oz55{a c:Nat}:a<c→c≤4→a<64:=by omega
def Oz56{a:Nat}:¬(((a+1):Int)=0):=by omega
def Oz57{a c:Nat}:a≤c→c≤4→a≤4:=by omega
def Oz58{a b c d:Nat}:d<c→b≤d→¬(a≥b)→(a+b)/2<c:=by omega
def Oz59{a b c:Nat}:c≤b→a≤c+1→a≤b+1:=by omega
def Oz60{a:Nat}:a≤0→1≤a→False:=by omega
def Oz61{a b:Nat}:b≤4→min a b<64:=by omega
def Oz62{a:Int}:1+(a%8)≠0:=by omega
def Oz63{a:Nat}:a<64→a≤16777216+1:=by omega
def Oz64{a b c:Nat}:a+1<(max b c)+1→a<max b c:=by omega
def Oz65{a b:Nat}{d:Int}:d<(b:Int)→d=(a:Int)→a<b:=by omega
def Oz66{a:Nat}:1+1≤a→a-1≠a:=by omega
def Oz67{a:Nat}:¬(((a+1):Int)=1)→1≤a:=by omega
def Oz68{a b:Nat}:a<b→a≥b-1→a=b-1:=by omega
def Oz69{a b c:Nat}:1≤b→c=b→a=c→0<(a:Int):=by omega
def Oz70{a:Nat}{b:Int}:((1≤b)∧(b≤4))→a<Int.toNat b→a<4:=by omega
def Oz71{a b c:Nat}:a<min c b→a<b:=by omega
def Oz72{a b:Nat}:a<b+1→a≥b→a=b:=by omega
def Oz73{a b:Nat}:b<a→a-1<a:=by omega
def Oz74{a b c:Nat}:a+b≤c→a+b≤c:=by omega
def Oz75{a b c:Nat}:a≤c→c≤b→a≤b:=by omega
def Oz76{a b c d:Nat}:b≤8→c=b→d=c→a=d→a≤8:=by omega
def Oz77{a b c:Nat}{d:Int}:c=b→d<(c:Int)→d=(a:Int)→a<b:=by omega
def Oz78{a:Nat}:(a:Int)=1→a=1:=by omega
def Oz79{a:Nat}:a≤8→a+1≤1000:=by omega
def Oz80{a b c:Nat}:c<b→c=a→a≤b:=by omega
def Oz81{a b:Nat}:a=b→1≤b→0<(a:Int):=by omega
def Oz82{a b:Nat}:a<b→a+1≤b:=by omega
def Oz83{a:Nat}:a≤1000→a≤1000:=by omega
def Oz84{a b c:Nat}:c<b→a≤c+1→a≤b:=by omega
def Oz85{a:Nat}:¬((a:Int)<0):=by omega
def Oz86{a b:Nat}:a<b+1→¬(a=b)→a<b:=by omega
def Oz87{a b c:Nat}:(a+(3*(b+1)))+5<c→((a+1)+(3*b))+5<c:=by omega
def Oz88{c d:Nat}{a b:Int}:c<d→d<1→a<b:=by omega
def Oz89{a:Nat}:a≤4→a<64:=by omega
def Oz90{a:Nat}:((0≤(a:Int))∧((a:Int)<26))→a<26:=by omega
def Oz91{a b c:Nat}:(a+(16*(b+1)))+200<c→((a+1)+(16*b))+200<c:=by omega
def Oz92{a:Nat}:a≤8→a≤9:=by omega
def Oz93{a b c:Nat}:a<c→c=b→a<b:=by omega
def Oz94{a:Int}:4≤a→0<a:=by omega
def Oz95{a b c d e:Nat}:d+e≤c→d=a→e=b→a+b≤c:=by omega
def Oz96{a:Nat}:a≤9→a≤25:=by omega
def Oz97{a:Nat}:a<4→a<64:=by omega
def Oz98{a b:Nat}:¬(b≤a)→a<b:=by omega
def Oz99{a b:Nat}:¬(b<a)→a≤b:=by omega
def Oz100{a b:Nat}:a+60<b→a+1<b:=by omega
def Oz101{a b c:Nat}:b=c→a<c→a<b:=by omega
def Oz102{a b:Nat}:a<b→a≤b:=by omega
def Oz103{a b:Nat}:a<b+1→a≤b:=by omega
def Oz104{a b:Nat}:a+60<b→a<b:=by omega
def Oz105{a:Int}:0≤a→-(10^61)≤a:=by omega
def Oz106{c:Nat}{a b:Int}:c<0→a<b:=by omega
def Oz107{a:Nat}:0≤a:=by omega
def Oz108{a b:Nat}:a<b→a+1<b+1:=by omega
def Oz109{a b c:Nat}:b<2^63→c≤b→c=a→(a:Int)<2^63:=by omega
def Oz110{a b c:Nat}:c≤b→a=c→a≤b:=by omega
def Oz111:(4:Nat)≤4:=by omega
def Oz112{a:Int}:a≤10^9→a≤10^61:=by omega
def Oz113{a:Nat}:2+a≤2+a:=by omega
def Oz114{a:Nat}:5+a≤5+a:=by omega
def Oz115{a:Int}:0<a→0≤a:=by omega
def Oz116{a:Nat}:a≤4→(a:Int)≤4:=by omega
def Oz117{a:Nat}:a<128→a<1114112:=by omega
def Oz118{a:Nat}:a≤24→(a:Int)≤24:=by omega
variable {K:cy} {b t' m nl tk:Nat} {s s':Shared} {w:World} {A:Around} {pins:List (Addr×Obj)} {C f D kl it dx rl sl fa:Addr} {u vl vu:Value} {h h' base:Heap} {us its:List Value} {E:Value→Shared→Prop} {pos:Pos} {env:Env} {mg:Str→Option Value} {M:Model} {fd:DU} {ns lk ms ws:List Int} {ps N N':List Str} {scope:Scope} {fp ch:List Addr} {qual x2 x1:Str} {tg:Expr} {items:Array Value} {neg:Bool} {op:CmpOp} {lo:Int} {prog q:Dz}
namespace _l
open PySem PySem.Spec PyProof.Rows
abbrev Key:=Sum Int Str
noncomputable def mS:Key→Value→Bool
 | .inl k,v=>Js k v
 | .inr x,v=>Value.isStrOf x v
noncomputable def C8 (w:World):Key→Int
 | .inl k=>hashInt k
 | .inr x=>hashStr w x
def gE:∀ {k:Key} {v:Value},mS k v=true→(∃ i t,k=Jt i∧v=Value.int i t)∨(∃ x t,k=JJ x∧v=Value.str x t)
 | .inl i,v,h=>by
  obtain⟨t,e⟩:=Value.isInt_shape (k:=i) (v:=v) h
  exact .inl ⟨i,t,rfl,e⟩
 | .inr x,v,h=>by
  obtain⟨t,e⟩:=Value.isStrOf_shape (x:=x) (v:=v) h
  exact .inr ⟨x,t,rfl,e⟩
def xS (i:Int) (t:Tok):mS (.inl i) (.int i t)=true:=by simp [mS,Js]
def yR (x:Str) (t:Tok):mS (.inr x) (.str x t)=true:=by simp [mS,Value.isStrOf]
def BC (a b:Int):decide ((Jt a:Key)=Jt b)=(a == b):=by
 by_cases e:a=b
 ·subst e; simp
 ·have h:¬ (Jt a:Key)=Jt b:=fun q=>e (Sum.inl.inj q)
  rw[decide_eq_false h]
  exact (beq_eq_false_iff_ne.mpr e).symm
def Cn (a b:Str):decide ((JJ a:Key)=JJ b)=decide (a=b):=by
 by_cases e:a=b
 ·subst e; simp
 ·have h:¬ (JJ a:Key)=JJ b:=fun q=>e (Sum.inr.inj q)
  rw[decide_eq_false h,decide_eq_false e]
def BU (a:Int) (b:Str):decide ((Jt a:Key)=JJ b)=false:=decide_eq_false (fun q=>nomatch q)
def BB (a:Str) (b:Int):decide ((JJ a:Key)=Jt b)=false:=decide_eq_false (fun q=>nomatch q)
noncomputable def gI (prog:Dz) (w:World):PySem.KeyKind prog w Key where
 is:=mS
 hash:=C8 w
 inj:=fun v a b ha hb=>by
  rcases gE ha with ⟨i,t,rfl,rfl⟩ | ⟨x,t,rfl,rfl⟩
  ·rcases gE hb with ⟨j,u,rfl,e⟩ | ⟨y,u,rfl,e⟩
   ·injection e with e1 _; rw[e1]
   ·exact nomatch e
  ·rcases gE hb with ⟨j,u,rfl,e⟩ | ⟨y,u,rfl,e⟩
   ·exact nomatch e
   ·injection e with e1 _; rw[e1]
 byValue:=fun k v h=>by
  rcases gE h with ⟨i,t,rfl,rfl⟩ | ⟨x,t,rfl,rfl⟩ <;> rfl
 pyHash:=fun hv h=>by
  rcases gE hv with ⟨i,t,rfl,rfl⟩ | ⟨x,t,rfl,rfl⟩
  ·exact wpAny_pyHash_int h
  ·exact wpAny_pyHash_str h
 eqBool:=fun hu hv h=>by
  rcases gE hu with ⟨i,t,rfl,rfl⟩ | ⟨x,t,rfl,rfl⟩
  ·rcases gE hv with ⟨j,u,rfl,rfl⟩ | ⟨y,u,rfl,rfl⟩
   ·rw[BC] at h; exact wpAny_eqBool_int h
   ·rw[BU] at h; exact JD i t y u _ _ _ _ h
  ·rcases gE hv with ⟨j,u,rfl,rfl⟩ | ⟨y,u,rfl,rfl⟩
   ·rw[BB] at h; exact JE x t j u _ _ _ _ h
   ·rw[Cn] at h; exact wpAny_eqBool_str h
 «strs»:=fun k x t v h=>by
  rcases gE h with ⟨i,u,rfl,e⟩ | ⟨y,u,rfl,e⟩
  ·exact nomatch e
  ·injection e with e1 _
   subst e1
   cases v <;> rfl
def tU (prog:Dz) (w:World) (i:Int) (t:Tok):(gI prog w).is (.inl i) (.int i t)=true:=xS i t
def uK (prog:Dz) (w:World) (x:Str) (t:Tok):(gI prog w).is (.inr x) (.str x t)=true:=yR x t
inductive V where
 | non | bl (b:Bool) | int (i:Int) | str (x:Str) | byt (b:Array UInt8) | flt (b:UInt64) | ref (a:Addr) | ty (n:String)
 deriving DecidableEq
def RelV:V→Value→Prop
 | .non,u=>u=Value.none
 | .bl b,u=>u=Value.bool b
 | .int i,u=>∃ t,u=Value.int i t
 | .str x,u=>∃ t,u=Value.str x t
 | .byt b,u=>∃ t,u=Value.bytes b t
 | .flt b,u=>∃ t,u=Value.float b t
 | .ref a,u=>u=Value.ref a
 | .ty n,u=>u=Value.type n
abbrev Vals:List V→List Value→Prop:=Paired RelV
def Vals.length {xs:List V} (r:Vals xs us):xs.length=us.length:=DT r
def Vals.get:∀ {xs:List V} {us:List Value} {i:Nat} {x:V},Vals xs us→xs[i]?=some x→∃ u,us[i]?=some u∧RelV x u
 | _,_,_,_,.nil,e=>by simp at e
 | _,_,0,_,.cons r _,e=>by simp at e; subst e; exact⟨_,rfl,r⟩
 | _,_,i+1,x,.cons _ t,e=>by
  obtain⟨u,h1,h2⟩:=Vals.get (i:=i) (x:=x) t (by simpa using e)
  exact⟨u,by simpa using h1,h2⟩
def Vals.set {x:V} (r:RelV x u):∀ {xs:List V} {us:List Value} (i:Nat),Vals xs us→Vals (xs.set i x) (us.set i u)
 | _,_,_,.nil=>.nil
 | _,_,0,.cons _ t=>.cons r t
 | _,_,i+1,.cons q t=>.cons q (Vals.set r i t)
def Vals.append:∀ {xs ys:List V} {us ws:List Value},Vals xs us→Vals ys ws→Vals (xs++ys) (us++ws)
 | _,_,_,_,.nil,s=>s
 | _,_,_,_,.cons r t,s=>.cons r (Vals.append t s)
def Vals.take:∀ {xs:List V} {us:List Value} (n:Nat),Vals xs us→Vals (xs.take n) (us.take n)
 | _,_,0,_=>.nil
 | _,_,_+1,.nil=>.nil
 | _,_,n+1,.cons r t=>.cons r (Vals.take n t)
def Vals.drop:∀ {xs:List V} {us:List Value} (n:Nat),Vals xs us→Vals (xs.drop n) (us.drop n)
 | _,_,0,r=>r
 | _,_,_+1,.nil=>.nil
 | _,_,n+1,.cons _ t=>Vals.drop n t
def RelO:Option V→Option Value→Prop
 | some v,some u=>RelV v u
 | none,none=>True
 | _,_=>False
def KV {κ:Type}:List (κ×V)→List (κ×Value)→Prop:=Paired fun (p:κ×V) (q:κ×Value)=>p.1=q.1∧RelV p.2 q.2
noncomputable def kV:Key→V
 | .inl i=>.int i
 | .inr x=>.str x
inductive HO where
 /-- a list -/
 | lst (xs:List V)
 /-- a tuple (never changes) -/
 | tup (xs:List V)
 /-- a dict whose keys are ints and texts; one whose keys are tuples of ints and texts (the empty one is both) -/
 | dK (kvs:List (Key×V)) | dT (kvs:List (List Key×V))
 /-- a set of ints: its members,its size -/
 | set (S:Int→Bool) (n:Nat)
 /-- an instance of the class at C,its dict at dx,its attributes -/
 | ins (C dx:Addr) (fs:List (Str×V))
 /-- the dict of the instance at x -/
 | own (x:Addr)
 /-- the dict of an exception -/
 | xd (fs:List (Str×V))
 /-- a bound method,f of x -/
 | met (f x:Addr)
 /-- a range object lo,lo+1,.. below hi -/
 | rng (lo hi:Int)
 /-- a thing that is known to the object (the script; a dict while a loop walks it): read,never written while it is so -/
 | frz (o:Obj) (u:HO)
 /-- a code object's table -/
 | tbl (ps:Array Value)
 /-- any other thing,by what is true of its one object (a def of one's own: SetO a S n:=HO.ext fun h=>..) -/
 | ext (φ:Heap→Prop)
abbrev Hp:=Addr→Option HO
noncomputable def upd (H:Hp) (a:Addr) (o:HO):Hp:=fun b=>if b=a then some o else H b
def aT {H:Hp} {a:Addr} {o:HO}:upd H a o a=some o:=by unfold upd; rw[if_pos rfl]
def aZ {H:Hp} {a b:Addr} {o:HO} (h:b≠a):upd H a o b=H b:=by unfold upd; rw[if_neg h]
def qW {H:Hp} {a b:Addr} {o u:HO} (h:H a=some o) (h':H b=some u) (d:o≠u):a≠b:=by
 intro e; subst e; rw[h] at h'; exact d (DP h')
def bZ {H:Hp} {a b:Addr} {o:HO} (h:H a=some o) (h':H b=none):a≠b:=by
 intro e; subst e; rw[h] at h'; cases h'
section
variable (P:Dz) (w:World)
def NoD (h:Heap) (a:Addr):Prop:=∃ o,h.get? a=some o∧o.dict=none
def ObjOk (H:Hp) (h:Heap) (a:Addr):HO→Prop
 | .lst xs=>xs.length≤sizeLine∧∃ (its:List Value) (n:Nat),Vals xs its∧h.get? a=some { cls:=.type "list",data:=.seq its.toArray n }
 | .tup xs=>xs.length≤sizeLine∧∃ its:List Value,Vals xs its∧IsTup h a its.toArray∧NoD h a
 | .dK kvs=>kvs.length≤sizeLine∧(a == Gc)=false∧∃ vs,KV kvs vs∧h.DictOf (gI P w) a vs
 | .dT kvs=>kvs.length≤sizeLine∧(a == Gc)=false∧∃ xs:List (List Key×Addr×Value),
   Paired (fun (p:List Key×V) (q:List Key×Addr×Value)=>p.1=q.1∧H q.2.1=some (.tup (p.1.map kV))∧RelV p.2 q.2.2) kvs xs ∧
   ∃ o es ep,h.get? a=some o∧o.ExactDict∧o.data=.dict es ep∧es.toList=xs.map (entryOfKey (IQ (gI P w)))∧(xs.map (·.1)).Nodup
 | .set S n=>h.SetOf (Il P w) a S n
 | .ins C dx fs=>H dx=some (.own a)∧fs.length≤1000∧dx≠a∧h.get? a=some (Ey C dx) ∧
   ∃ mA,h.Ns1 dx mA∧(∀ f,RelO (fs.lookup f) (mA f))∧JS mA (fs.map (·.1))
 | .own _=>∃ o,h.get? a=some o
 | .xd fs=>∃ mA,h.Ns1 a mA∧∀ f,RelO (fs.lookup f) (mA f)
 | .rng lo hi=>∃ t u v,h.get? a=some { cls:=.type "range",data:=.fields #[.int lo t,.int hi u,.int 1 v] }
 | .frz o u=>h.get? a=some o∧ObjOk H h a u
 | .tbl ps=>h.get? a=some { cls:=.none,data:=.fields ps }
 | .met f x=>h.get? a=some (HZ (.ref f) (.ref x))
 | .ext φ=>φ h∧(∃ o,h.get? a=some o)∧∀ h1 h2:Heap,φ h1→(∀ o,h1.get? a=some o→h2.get? a=some o)→φ h2
def HOk (H:Hp) (h:Heap):Prop:=∀ a o,H a=some o→ObjOk P w H h a o
end
section
variable {P:Dz} {w:World} {H H':Hp} {h h':Heap} {a:Addr} {o:HO}
def ObjOk.lt (x:ObjOk P w H h a o):a<h.objs.size:=by
 cases o with
 | lst xs=>obtain⟨_,_,_,_,e⟩:=x; exact Dy e
 | tup xs=>obtain⟨_,_,_,p,_⟩:=x; exact p.lt
 | dK kvs=>obtain⟨_,_,_,_,o,_,_,e,_⟩:=x; exact Dy e
 | dT kvs=>obtain⟨_,_,_,_,o,_,_,e,_⟩:=x; exact Dy e
 | set S n=>obtain⟨o,_,_,_,e,_⟩:=x; exact Dy e
 | ins C dx fs=>obtain⟨_,_,_,e,_⟩:=x; exact Dy e
 | own y=>obtain⟨_,e⟩:=x; exact Dy e
 | xd fs=>obtain⟨_,⟨_,_,_,e,_⟩,_⟩:=x; exact Dy e
 | rng lo hi=>obtain⟨_,_,_,e⟩:=x; exact Dy e
 | frz ob u=>obtain⟨e,_⟩:=x; exact Dy e
 | tbl ps=>exact Dy (show h.get? a=some _ from x)
 | met f y=>exact Dy (show h.get? a=some _ from x)
 | ext φ=>obtain⟨_,⟨_,e⟩,_⟩:=x; exact Dy e
def Paired.mapP {α β:Type} {F G:α→β→Prop}:∀ {l₁:List α} {l₂:List β},Paired F l₁ l₂→(∀ a b,F a b→G a b)→Paired G l₁ l₂
 | _,_,.nil,_=>.nil
 | _,_,.cons r t,f=>.cons (f _ _ r) (Paired.mapP t f)
def ObjOk.stay (x:ObjOk P w H h a o) (k:∀ b u,(b=a∨H b=some (.own a))→h.get? b=some u→h'.get? b=some u)
  (ho:∀ b,H b=some (.own a)→H' b=some (.own a)) (ht:∀ b xs,H b=some (.tup xs)→H' b=some (.tup xs)):ObjOk P w H' h' a o:=by
 induction o with
 | lst xs=>obtain⟨z,its,n,r,e⟩:=x; exact⟨z,its,n,r,k _ _ (.inl rfl) e⟩
 | tup xs=>obtain⟨z,its,r,⟨ob,e,c⟩,o2,e2,d2⟩:=x; exact⟨z,its,r,⟨ob,k _ _ (.inl rfl) e,c⟩,o2,k _ _ (.inl rfl) e2,d2⟩
 | dK kvs=>obtain⟨z,y,vs,r,ob,es,ep,e,c⟩:=x; exact⟨z,y,vs,r,ob,es,ep,k _ _ (.inl rfl) e,c⟩
 | dT kvs =>
  obtain⟨z,y,xs,r,ob,es,ep,e,c⟩:=x
  exact⟨z,y,xs,Paired.mapP r fun p q z=>⟨z.1,ht _ _ z.2.1,z.2.2⟩,ob,es,ep,k _ _ (.inl rfl) e,c⟩
 | set S n=>obtain⟨ob,es,ep,t,e,c⟩:=x; exact⟨ob,es,ep,t,k _ _ (.inl rfl) e,c⟩
 | ins C dx fs =>
  obtain⟨d,z,ne,e,mA,⟨od,es,ep,e2,c⟩,r⟩:=x
  exact⟨ho _ d,z,ne,k _ _ (.inl rfl) e,mA,⟨od,es,ep,k _ _ (.inr d) e2,c⟩,r⟩
 | own y=>obtain⟨ob,e⟩:=x; exact⟨ob,k _ _ (.inl rfl) e⟩
 | xd fs=>obtain⟨mA,⟨od,es,ep,e,c⟩,r⟩:=x; exact⟨mA,⟨od,es,ep,k _ _ (.inl rfl) e,c⟩,r⟩
 | rng lo hi=>obtain⟨t,u,v,e⟩:=x; exact⟨t,u,v,k _ _ (.inl rfl) e⟩
 | frz ob u ih=>obtain⟨e,q⟩:=x; exact⟨k _ _ (.inl rfl) e,ih q⟩
 | tbl ps =>
  have e:h.get? a=some { cls:=.none,data:=.fields ps }:=x
  show h'.get? a=some { cls:=.none,data:=.fields ps }
  exact k a _ (.inl rfl) e
 | met f y =>
  have e:h.get? a=some (HZ (.ref f) (.ref y)):=x
  show h'.get? a=some (HZ (.ref f) (.ref y))
  exact k a _ (.inl rfl) e
 | ext φ=>obtain⟨p,⟨o,e⟩,st⟩:=x; exact⟨st _ _ p fun o q=>k _ _ (.inl rfl) q,⟨o,k _ _ (.inl rfl) e⟩,st⟩
def HOk.lt (x:HOk P w H h) (e:H a=some o):a<h.objs.size:=(x a o e).lt
def HOk.fresh (x:HOk P w H h) (e:h.objs.size≤a):H a=none:=by
 cases q:H a with
 | none=>rfl
 | some u=>exact absurd (Nat.lt_of_lt_of_le (x.lt q) e) (Nat.lt_irrefl _)
def HOk.kept (x:HOk P w H h) (k:∀ b u,h.get? b=some u→h'.get? b=some u):HOk P w H h':=fun a o e =>
 (x a o e).stay (fun b u _ q=>k b u q) (fun _ q=>q) fun _ _ q=>q
def HOk.laid (x:HOk P w H h) (k:∀ b u,h.get? b=some u→h'.get? b=some u) (hp:h.objs.size≤a) (new:ObjOk P w (upd H a o) h' a o):HOk P w (upd H a o) h':=fun b u e=>by
 have hn:=x.fresh hp
 by_cases hb:b=a
 ·subst hb; rw[aT] at e; cases e; exact new
 ·rw[aZ hb] at e
  exact (x b u e).stay (fun c v _ q=>k c v q) (fun c q=>by rw[aZ (bZ q hn)]; exact q) fun c xs q=>by rw[aZ (bZ q hn)]; exact q
end
def Rd (H:Hp) (a:Addr) (u:HO):Prop:=H a=some u∨∃ o,H a=some (.frz o u)
def Rd.ok {P:Dz} {H:Hp} {a:Addr} {u:HO} (r:Rd H a u) (x:HOk P w H h):ObjOk P w H h a u:=by
 rcases r with r | ⟨o,r⟩
 ·exact x a u r
 ·obtain⟨_,q⟩:=x a _ r
  exact q
def Mut:Option HO→Prop
 | some (.lst _)=>True
 | some (.dK _)=>True
 | some (.dT _)=>True
 | some (.set _ _)=>True
 | some (.ins _ _ _)=>True
 | some (.ext _)=>True
 | _=>False
section
variable {P:Dz} {w:World} {H:Hp} {h h':Heap} {x e:Addr} {o':HO}
def HOk.write (ok:HOk P w H h) (mu:Mut (H x)) (he:e=x∨H e=some (.own x)) (k:∀ b u,b≠e→h.get? b=some u→h'.get? b=some u) (heo:∃ u,h'.get? e=some u)
  (new:ObjOk P w (upd H x o') h' x o'):HOk P w (upd H x o') h':=fun b u q=>by
 have nown:∀ c y,H c=some (.own y)→c≠x:=fun c y r z=>by subst z; rw[r] at mu; exact mu
 have ntup:∀ c xs,H c=some (.tup xs)→c≠x:=fun c xs r z=>by subst z; rw[r] at mu; exact mu
 by_cases hb:b=x
 ·subst hb; rw[aT] at q; cases q; exact new
 ·rw[aZ hb] at q
  by_cases hbe:b=e
  ·have q':H b=some (.own x):=by
    rcases he with z | z
    ·exact absurd (hbe.trans z) hb
    ·rw[hbe]; exact z
   rw[q] at q'; cases q'
   obtain⟨v,hv⟩:=heo
   exact⟨v,by rw[hbe]; exact hv⟩
  ·refine (ok b u q).stay (fun c v hc r=>k c v ?_ r) (fun c r=>by rw[aZ (nown c b r)]; exact r) fun c xs r=>by rw[aZ (ntup c xs r)]; exact r
   rcases hc with rfl | hc
   ·exact hbe
   ·rintro rfl
    rcases he with z | z
    ·exact nown c b hc z
    ·rw[hc] at z; cases z; exact hb rfl
end
structure Un (fs ex:List Addr) (H H':Hp) (h h':Heap):Prop where
 keep:∀ b o,h.get? b=some o→H b=none→b ∉ fs→b ∉ ex→h'.get? b=some o
 slot:∀ b o,h.get? b=some o→H b=none→b∈fs→b ∉ ex→∃ sl,h'.get? b=some { o with slots:=sl }
 free:∀ b o,h.get? b=some o→H b=none→b ∉ ex→H' b=none
 there:∀ b o,h.get? b=some o→b ∉ ex→∃ o',h'.get? b=some o'
 tups:∀ b xs,H b=some (.tup xs)→H' b=some (.tup xs)
 frzs:∀ b o u,H b=some (.frz o u)→H' b=some (.frz o u)
 tbls:∀ b ps,H b=some (.tbl ps)→∃ more,H' b=some (.tbl (ps++more))
section
variable {fs fs' ex ex':List Addr} {H H1 H2:Hp} {h h1 h2 h':Heap} {a x e:Addr} {o:HO}
def Un.any (u:Un fs ex H H1 h h1) {b:Addr} {ob:Obj} (q:h.get? b=some ob) (n:H b=none) (hx:b ∉ ex):∃ sl,h1.get? b=some { ob with slots:=sl }:=by
 by_cases hb:b∈fs
 ·exact u.slot b ob q n hb hx
 ·exact⟨ob.slots,u.keep b ob q n hb hx⟩
def Un.kept (k:∀ b u,h.get? b=some u→h'.get? b=some u):Un fs ex H H h h' :=
 ⟨fun b ob q _ _ _=>k b ob q,fun b ob q _ _ _=>⟨ob.slots,k b ob q⟩,fun _ _ _ n _=>n,fun b ob q _=>⟨ob,k b ob q⟩,fun _ _ q=>q,fun _ _ _ q=>q,fun _ ps q=>⟨#[],by rw[q]; simp⟩⟩
def Un.refl:Un fs ex H H h h:=Un.kept fun _ _ q=>q
def Un.laid (k:∀ b u,h.get? b=some u→h'.get? b=some u) (hp:h.objs.size≤a) (hn:H a=none):Un fs ex H (upd H a o) h h' where
 keep:=fun b u q _ _ _=>k b u q
 slot:=fun b u q _ _ _=>⟨u.slots,k b u q⟩
 free:=fun b u q n _=>by rw[aZ (Nat.ne_of_lt (Nat.lt_of_lt_of_le (Dy q) hp))]; exact n
 there:=fun b u q _=>⟨u,k b u q⟩
 tups:=fun b xs q=>by rw[aZ (bZ q hn)]; exact q
 frzs:=fun b u xs q=>by rw[aZ (bZ q hn)]; exact q
 tbls:=fun b ps q=>⟨#[],by rw[aZ (bZ q hn),q]; simp⟩
def Un.write (mu:Mut (H x)) (he:e=x∨H e=some (.own x)) (k:∀ b u,b≠e→h.get? b=some u→h'.get? b=some u) (heo:∃ u,h'.get? e=some u):Un fs ex H (upd H x o) h h':=by
 have hx:∀ b,H b=none→b≠x:=fun b n z=>by subst z; rw[n] at mu; exact mu
 have hb:∀ b,H b=none→b≠e:=fun b n z=>by
  subst z
  rcases he with r | r
  ·exact hx b n r
  ·rw[n] at r; cases r
 have hm:∀ b u,H b=some u→¬ Mut (some u)→b≠x:=fun b u q nm z=>by subst z; rw[q] at mu; exact nm mu
 refine⟨fun b u q n _ _=>k b u (hb b n) q,fun b u q n _ _=>⟨u.slots,k b u (hb b n) q⟩,fun b u q n _=>by rw[aZ (hx b n)]; exact n,fun b u q _=>?_,
  fun b xs q=>by rw[aZ (hm b _ q fun z=>z)]; exact q,fun b u xs q=>by rw[aZ (hm b _ q fun z=>z)]; exact q,fun b ps q=>⟨#[],by rw[aZ (hm b _ q fun z=>z),q]; simp⟩⟩
 by_cases hbe:b=e
 ·subst hbe; exact heo
 ·exact⟨u,k b u hbe q⟩
end
noncomputable def trk (h:Heap) (H:Hp):List Addr:=(DJ h.objs.size).filter fun a=>(H a).isSome
noncomputable def lJ (h:Heap) (H:Hp):Heap:=GC h (trk h H)
def yw (h:Heap) (H:Hp):(lJ h H).objs.size=h.objs.size:=PySem.W.hideAll_size _ _
def zM {H:Hp} {b:Addr} {o:Obj} (e:h.get? b=some o) (n:H b=none):(lJ h H).get? b=some o :=
 Ju _ e fun hm=>by
  have q:(H b).isSome=true:=(FH.mp hm).2
  rw[n] at q; simp at q
def Bl {H:Hp} {b:Addr} {o:Obj} (e:(lJ h H).get? b=some o):h.get? b=some o∧H b=none:=by
 have e':h.get? b=some o:=JF (trk h H) e
 refine⟨e',?_⟩
 cases q:H b with
 | none=>rfl
 | some x =>
  have hm:b∈trk h H:=FH.mpr ⟨ES.mpr (Dy e'),by simp [q]⟩
  have z:(lJ h H).get? b=none:=PySem.W.hideAll_none (trk h H) hm
  rw[z] at e; cases e
noncomputable def Bk (g h:Heap) (L:Addr):List (Addr×Obj):=(DJ h.objs.size).filterMap fun a=>if a=L∨(g.get? a).isSome=true then none else (h.get? a).map fun o=>(a,o)
noncomputable def rest (g h:Heap) (L d:Addr):List (Addr×Obj):=(Bk g h L).filter fun p=>decide (p.1≠d)
structure Mod (K:cy) (mg:Str→Option Value) (base:Heap):Prop where
 kin:K.In base
 glob:base.Ns DR mg
 blt:∃ mb,base.Ns builtinsNs mb∧∀ x:Str,x≠"__name__"→mb x=Eg x
 nolimit:base.NoLimit
structure Cx where
 prog:Dz
 w:World
 K:cy
 mg:Str→Option Value
 base:Heap
 A:Around
 N:List Str
 s₀:Shared
 H₀:Hp
 env:Env
 outer:List Env
 stack:List Env
 ex:List Addr
 fn:Str→Bool
 calm:Bool
 pn:List (Addr×Obj)
 xe:Value→Shared→Prop
noncomputable def frs (l:List Env):List Addr:=l.filterMap (·.frame)
noncomputable abbrev Cx.fs (X:Cx):List Addr:=frs X.outer
def Vis (sc:Scope) (x:Str):Prop:=sc.names.lookup x=some .local∨sc.names.lookup x=some .cell∨sc.names.lookup x=some .free
def Loc (sc:Scope) (x:Str):Prop:=sc.names.lookup x=some .local∨sc.names.lookup x=some .cell
def Look (env:Env) (h:Heap) (m:Str→Option Value) (x:Str) (u:Value):Prop :=
 (env.kindOf x=some .local∧m x=some u)∨((env.kindOf x=some .cell∨env.kindOf x=some .free)∧∃ c,env.cells.lookup x=some c∧h.IsCell c (some u))
structure Cx.Ok (X:Cx):Prop where
 mod:Mod X.K X.mg X.base
 kind:X.env.scope.kind=.function
 glob:X.env.globals=DR
 blt:X.env.builtins=builtinsNs
 above:X.s₀.heap.objs.size≤X.env.locals
 inj:∀ x y c,X.env.cells.lookup x=some c→X.env.cells.lookup y=some c→x=y
 has:∀ x,(X.env.kindOf x=some .cell∨X.env.kindOf x=some .free)→∃ c,X.env.cells.lookup x=some c
 cab:∀ x c,X.fn x=true→X.env.cells.lookup x=some c→X.s₀.heap.objs.size≤c
 hd:X.calm=true→X.A.handled=none
 frames:X.A.frames=some X.stack
 stk:X.stack=X.outer∨(X.stack=X.env::X.outer∧X.env.frame=some X.env.locals)
 exf:∀ b∈X.ex,b≠X.env.locals∧∀ x c,X.env.cells.lookup x=some c→c≠b
 bs:∀ b o,X.base.get? b=some o→X.s₀.heap.get? b=some o∧X.H₀ b=none
 bsz:X.base.objs.size≤X.s₀.heap.objs.size
 noex:∀ b o,X.base.get? b=some o→b ∉ X.ex
 exfs:∀ b∈X.ex,b ∉ X.fs
 funs:X.s₀.heap.FunFrames X.base X.outer
 frf:∀ b∈X.fs,X.H₀ b=none
structure Inv (X:Cx) (pins:List (Addr×Obj)) (σ:List (Option V)) (H:Hp) (s:Shared):Prop where
 ok:X.Ok
 os:s.os=X.s₀.os
 bare:Im s.gens
 base:Un X.fs X.ex X.H₀ H X.s₀.heap s.heap
 loc:∃ m,s.heap.Ns X.env.locals m∧∀ (i:Nat) (x:Str) (v:V),X.N[i]?=some x→σ[i]?=some (some v)→Vis X.env.scope x→∃ u,RelV v u∧Look X.env s.heap m x u
 cell:∀ x c,X.env.cells.lookup x=some c→∃ v,s.heap.IsCell c v
 free:H X.env.locals=none
 freeC:∀ x c,X.env.cells.lookup x=some c→H c=none
 pin:∀ p∈X.pn++pins,s.heap.get? p.1=some p.2∧H p.1=none∧p.1≠X.env.locals∧p.1 ∉ X.fs∧∀ v,p.2.data≠.cell v
 hok:HOk X.prog X.w H s.heap
 len:σ.length=X.N.length
section
variable {X:Cx} {pins:List (Addr×Obj)} {σ:List (Option V)} {H H':Hp} {s:Shared} {h':Heap}
def Cx.Ok.nofr (ok:X.Ok) {b:Addr} {o:Obj} (e:X.base.get? b=some o):b ∉ X.fs:=fun hb=>by
 have:=(ok.funs.mem hb).1
 rw[e] at this; cases this
def Inv.bs (I:Inv X pins σ H s):∀ b o,X.base.get? b=some o→s.heap.get? b=some o∧H b=none:=fun b o e =>
 ⟨I.base.keep b o (I.ok.bs b o e).1 (I.ok.bs b o e).2 (I.ok.nofr e) (I.ok.noex b o e),I.base.free b o (I.ok.bs b o e).1 (I.ok.bs b o e).2 (I.ok.noex b o e)⟩
def Inv.bk (I:Inv X pins σ H s):∀ b o,X.base.get? b=some o→s.heap.get? b=some o:=fun b o e=>(I.bs b o e).1
def Inv.mod (I:Inv X pins σ H s):Mod X.K X.mg X.base:=I.ok.mod
def Inv.kIn (I:Inv X pins σ H s):X.K.In s.heap:=I.ok.mod.kin.keeps I.bk
def Inv.lt (I:Inv X pins σ H s):X.env.locals<s.heap.objs.size:=let ⟨_,hn,_⟩:=I.loc; hn.lt
def Inv.sz (I:Inv X pins σ H s):X.s₀.heap.objs.size≤s.heap.objs.size:=Nat.le_trans I.ok.above (Nat.le_of_lt I.lt)
def Inv.nofs (I:Inv X pins σ H s) {a:Addr} (h:s.heap.objs.size≤a):a ∉ X.fs:=fun hb=>by
 obtain⟨_,o,ho,_⟩:=I.ok.funs.mem hb
 exact absurd (Nat.lt_of_lt_of_le (Dy ho) (Nat.le_trans I.sz h)) (Nat.lt_irrefl _)
def Inv.cne (I:Inv X pins σ H s):∀ x c,X.env.cells.lookup x=some c→c≠X.env.locals:=fun x c e z=>by
 obtain⟨v,o,ho,hd⟩:=I.cell x c e
 obtain⟨m,⟨o',es,ep,ho',hd',_⟩,_⟩:=I.loc
 rw[z,ho'] at ho; cases ho; rw[hd'] at hd; cases hd
def Inv.funs (I:Inv X pins σ H s):s.heap.FunFrames X.base X.outer:=by
 have all:∀ (l:List Env),(∀ b∈frs l,b∈X.fs)→X.s₀.heap.FunFrames X.base l→s.heap.FunFrames X.base l:=by
  intro l
  induction l with
  | nil=>intro _ _; trivial
  | cons env r ih =>
   intro hs hl
   obtain⟨hk,⟨L,o,hf,hn,ho,hd⟩,hr⟩:=hl
   have hL:L∈X.fs:=hs L (by unfold frs; rw[Gv,hf]; exact DX)
   obtain⟨sl,e⟩:=I.base.slot L o ho (I.ok.frf L hL) hL fun z=>I.ok.exfs L z hL
   exact⟨hk,⟨L,_,hf,hn,e,hd⟩,ih (fun b hb=>hs b (by unfold frs; rw[Gv,hf]; exact DI _ hb)) hr⟩
 exact all X.outer (fun _ hb=>hb) I.ok.funs
def Inv.stack (I:Inv X pins σ H s):s.heap.FunFrames X.base X.stack:=by
 rcases I.ok.stk with e | ⟨e,hf⟩
 ·rw[e]; exact I.funs
 ·rw[e]
  obtain⟨m,hn,_⟩:=I.loc
  refine .cons (by rw[I.ok.kind]; decide) hf hn ?_ I.funs
  exact Hl (Nat.le_trans I.ok.bsz I.ok.above)
def Inv.stkSub (I:Inv X pins σ H s):∀ b∈frs X.stack,b∈X.env.locals::X.fs:=fun b hb=>by
 rcases I.ok.stk with e | ⟨e,hf⟩
 ·rw[e] at hb; exact DI _ hb
 ·rw[e] at hb
  unfold frs at hb
  rw[Gv,hf] at hb
  exact hb
def Inv.stkFree (I:Inv X pins σ H s):∀ b∈frs X.stack,H b=none:=fun b hb=>by
 rcases Du.mp (I.stkSub b hb) with e | hb
 ·rw[e]; exact I.free
 ·obtain⟨_,o,ho,_⟩:=I.ok.funs.mem hb
  exact I.base.free b o ho (I.ok.frf b hb) fun z=>I.ok.exfs b z hb
def Inv.step {g':Array GenState} {d':Drawn} (I:Inv X pins σ H s)
  (hch:∀ b∈ch,(b∈X.ex∨X.s₀.heap.objs.size≤b)∧b≠X.env.locals∧(∀ x c,X.env.cells.lookup x=some c→c≠b)∧∀ p∈X.pn++pins,p.1≠b)
  (keep:∀ b o,b≠X.env.locals→b ∉ X.fs→b ∉ ch→s.heap.get? b=some o→H b=none→h'.get? b=some o)
  (slot:∀ b o,b≠X.env.locals→b∈X.fs→b ∉ ch→s.heap.get? b=some o→H b=none→∃ sl,h'.get? b=some { o with slots:=sl }) (free:∀ b o,b ∉ ch→s.heap.get? b=some o→H b=none→H' b=none)
  (there:∀ b o,b ∉ ch→s.heap.get? b=some o→∃ o',h'.get? b=some o')
  (tups:∀ b xs,H b=some (.tup xs)→H' b=some (.tup xs)) (frzs:∀ b o u,H b=some (.frz o u)→H' b=some (.frz o u)) (tbls:∀ b ps,H b=some (.tbl ps)→∃ more,H' b=some (.tbl (ps++more)))
  (ns:∀ m,s.heap.Ns X.env.locals m→h'.Ns X.env.locals m) (hok:HOk X.prog X.w H' h') (hg:Im g') :
  Inv X pins σ H' { s with heap:=h',gens:=g',drawn:=d',toks:=t' }:=by
 have neL:∀ b o,X.s₀.heap.get? b=some o→b≠X.env.locals:=fun b o e=>Nat.ne_of_lt (Nat.lt_of_lt_of_le (Dy e) I.ok.above)
 have neC:∀ b o,X.s₀.heap.get? b=some o→b ∉ X.ex→b ∉ ch:=fun b o e hx hb=>by
  rcases (hch b hb).1 with z | z
  ·exact hx z
  ·exact absurd (Nat.lt_of_lt_of_le (Dy e) z) (Nat.lt_irrefl _)
 have cellK:∀ x c,X.env.cells.lookup x=some c→∀ v,s.heap.IsCell c v→h'.IsCell c v:=fun x c e v ⟨o,ho,hd⟩=>by
  have nch:c ∉ ch:=fun z=>(hch c z).2.2.1 x c e rfl
  by_cases hc:c∈X.fs
  ·obtain⟨sl,q⟩:=slot c o (I.cne x c e) hc nch ho (I.freeC x c e)
   exact⟨_,q,hd⟩
  ·exact⟨o,keep c o (I.cne x c e) hc nch ho (I.freeC x c e),hd⟩
 refine⟨I.ok,I.os,hg,⟨fun b o e n hb hx=>?_,fun b o e n hb hx=>?_,fun b o e n hx=>?_,fun b o e hx=>?_,fun b xs e=>tups b xs (I.base.tups b xs e),fun b o xs e=>frzs b o xs (I.base.frzs b o xs e),fun b ps e=>?_⟩,?_,fun x c e=>?_,?_,fun x c e=>?_,fun p hp=>?_,hok,I.len⟩
 ·exact keep b o (neL b o e) hb (neC b o e hx) (I.base.keep b o e n hb hx) (I.base.free b o e n hx)
 ·obtain⟨sl,e1⟩:=I.base.slot b o e n hb hx
  obtain⟨sl',e2⟩:=slot b _ (neL b o e) hb (neC b o e hx) e1 (I.base.free b o e n hx)
  exact⟨sl',e2⟩
 ·obtain⟨o',e1⟩:=I.base.there b o e hx
  exact free b o' (neC b o e hx) e1 (I.base.free b o e n hx)
 ·obtain⟨o',e1⟩:=I.base.there b o e hx
  exact there b o' (neC b o e hx) e1
 ·obtain⟨m1,e1⟩:=I.base.tbls b ps e
  obtain⟨m2,e2⟩:=tbls b _ e1
  exact⟨m1++m2,by rw[e2,JG]⟩
 ·obtain⟨m,hn,hl⟩:=I.loc
  refine⟨m,ns m hn,fun i x v e1 e2 e3=>?_⟩
  obtain⟨u,r,l⟩:=hl i x v e1 e2 e3
  refine⟨u,r,?_⟩
  rcases l with l | ⟨k,c,e,z⟩
  ·exact .inl l
  ·exact .inr ⟨k,c,e,cellK x c e _ z⟩
 ·obtain⟨v,z⟩:=I.cell x c e
  exact⟨v,cellK x c e v z⟩
 ·obtain⟨m,⟨o,_,_,ho,_⟩,_⟩:=I.loc
  exact free _ o (fun z=>(hch _ z).2.1 rfl) ho I.free
 ·obtain⟨v,o,ho,hd⟩:=I.cell x c e
  exact free c o (fun z=>(hch c z).2.2.1 x c e rfl) ho (I.freeC x c e)
 ·obtain⟨e,n,ne,nf,d⟩:=I.pin p hp
  have nch:p.1 ∉ ch:=fun z=>(hch p.1 z).2.2.2 p hp rfl
  exact⟨keep p.1 p.2 ne nf nch e n,free p.1 p.2 nch e n,ne,nf,d⟩
def Inv.un (I:Inv X pins σ H s) (u:Un X.fs [] H H' s.heap h') (hok:HOk X.prog X.w H' h'):Inv X pins σ H' { s with heap:=h',toks:=t' }:=by
 obtain⟨m,⟨o,es,ep,ho,r⟩,_⟩:=id I.loc
 obtain⟨sl,hL⟩:=u.any ho I.free (by simp)
 exact I.step (g':=s.gens) (d':=s.drawn) (ch:=[]) (fun _ z=>nomatch z) (fun b o _ hb _ e n=>u.keep b o e n hb (by simp)) (fun b o _ hb _ e n=>u.slot b o e n hb (by simp)) (fun b o _ e n=>u.free b o e n (by simp)) (fun b o _ e=>u.there b o e (by simp)) u.tups u.frzs u.tbls (fun m' hm=>by
  obtain⟨o',es',ep',ho',r'⟩:=hm
  rw[ho] at ho'; cases ho'
  exact⟨_,es',ep',hL,r'⟩) hok I.bare
def Inv.call {g':Array GenState} {d':Drawn} (I:Inv X pins σ H s) (u:Un (frs X.stack) ch H H' s.heap h') (hok:HOk X.prog X.w H' h') (hg:Im g')
  (hch:∀ b∈ch,(b∈X.ex∨X.s₀.heap.objs.size≤b)∧b≠X.env.locals∧(∀ x c,X.env.cells.lookup x=some c→c≠b)∧∀ p∈X.pn++pins,p.1≠b) :
  Inv X pins σ H' { s with heap:=h',gens:=g',drawn:=d',toks:=t' }:=by
 obtain⟨m,⟨o,es,ep,ho,r⟩,_⟩:=id I.loc
 obtain⟨sl,hL⟩:=u.any ho I.free fun z=>(hch _ z).2.1 rfl
 exact I.step (ch:=ch) hch (fun b o hL hb hc e n=>u.keep b o e n (fun z=>(Du.mp (I.stkSub b z)).elim hL hb) hc) (fun b o _ _ hc e n=>u.any e n hc) (fun b o hc e n=>u.free b o e n hc) (fun b o hc e=>u.there b o e hc) u.tups u.frzs u.tbls (fun m' hm=>by
  obtain⟨o',es',ep',ho',r'⟩:=hm
  rw[ho] at ho'; cases ho'
  exact⟨_,es',ep',hL,r'⟩) hok hg
def Inv.turned (I:Inv X pins σ H s) (k:∀ b o,b≠it→s.heap.get? b=some o→h'.get? b=some o) (hn:H it=none) (hL:it≠X.env.locals)
  (h1:it∈X.ex∨X.s₀.heap.objs.size≤it) (h2:∀ x c,X.env.cells.lookup x=some c→c≠it) (h3:∀ p∈X.pn++pins,p.1≠it):Inv X pins σ H { s with heap:=h',toks:=t' }:=by
 have nit:∀ b u,H b=some u→b≠it:=fun b u e z=>by rw[z,hn] at e; cases e
 refine I.step (g':=s.gens) (d':=s.drawn) (ch:=[it]) (fun b hb=>?_) (fun b o _ _ hc e _=>k b o (fun z=>hc (by simp [z])) e) (fun b o _ _ hc e _=>⟨o.slots,k b o (fun z=>hc (by simp [z])) e⟩) (fun _ _ _ _ n=>n)
  (fun b o hc e=>⟨o,k b o (fun z=>hc (by simp [z])) e⟩) (fun _ _ e=>e) (fun _ _ _ e=>e) (fun b ps e=>⟨#[],by rw[e]; simp⟩) (fun m hm=>?_) (fun b u e=>?_) I.bare
 ·have e:b=it:=by simpa using hb
  subst e
  exact⟨h1,hL,h2,h3⟩
 ·obtain⟨o,es,ep,ho,r⟩:=hm
  exact⟨o,es,ep,k _ o (E6 hL) ho,r⟩
 ·refine (I.hok b u e).stay (fun c v hc q=>k c v ?_ q) (fun _ q=>q) fun _ _ q=>q
  rcases hc with z | z
  ·rw[z]; exact nit b u e
  ·exact nit c _ z
def Inv.tok (I:Inv X pins σ H s) (t:Nat):Inv X pins σ H { s with toks:=t }:=I.un (h':=s.heap) (t':=t) Un.refl I.hok
def Inv.kept (I:Inv X pins σ H s) (k:∀ b u,s.heap.get? b=some u→h'.get? b=some u):Inv X pins σ H { s with heap:=h',toks:=t' }:=I.un (Un.kept k) (I.hok.kept k)
def Inv.laid {a:Addr} {o:HO} (I:Inv X pins σ H s) (k:∀ b u,s.heap.get? b=some u→h'.get? b=some u) (hp:s.heap.objs.size≤a) (new:ObjOk X.prog X.w (upd H a o) h' a o) :
  Inv X pins σ (upd H a o) { s with heap:=h',toks:=t' }:=I.un (Un.laid k hp (I.hok.fresh hp)) (I.hok.laid k hp new)
def Inv.write {x e:Addr} {o:HO} (I:Inv X pins σ H s) (mu:Mut (H x)) (he:e=x∨H e=some (.own x)) (k:∀ b u,b≠e→s.heap.get? b=some u→h'.get? b=some u) (heo:∃ u,h'.get? e=some u)
  (new:ObjOk X.prog X.w (upd H x o) h' x o):Inv X pins σ (upd H x o) { s with heap:=h',toks:=t' }:=I.un (Un.write mu he k heo) (I.hok.write mu he k heo new)
def Inv.pins_of {pins':List (Addr×Obj)} (I:Inv X pins σ H s) (h:∀ p∈pins',s.heap.get? p.1=some p.2∧H p.1=none∧p.1≠X.env.locals∧p.1 ∉ X.fs∧∀ v,p.2.data≠.cell v):Inv X pins' σ H s :=
 ⟨I.ok,I.os,I.bare,I.base,I.loc,I.cell,I.free,I.freeC,fun p hp=>(DV.mp hp).elim (fun z=>I.pin p (Fd _ z)) (h p),I.hok,I.len⟩
def sW (hN:N.Nodup) {i j:Nat} {x:Str} (a:N[i]?=some x) (b:N[j]?=some x):i=j:=by
 obtain⟨h1,e1⟩:=yp.mp a
 obtain⟨h2,e2⟩:=yp.mp b
 exact (List.getElem_inj hN).mp (e1.trans e2.symm)
def qz {i:Nat} {x:Str} {v:V} {Q:Unit→Shared→Prop} (I:Inv X pins σ H s) (hN:X.N.Nodup) (hi:X.N[i]?=some x) (hx:Loc X.env.scope x) (r:RelV v u)
  (h:∀ s',Inv X pins (σ.set i (some v)) H s'→(∃ a,Gy a s.heap s'.heap∧(a=X.env.locals∨X.env.cells.lookup x=some a))→Q () s') (hf:X.fn x=true∨X.env.scope.names.lookup x=some .local:=by first | exact .inl rfl | exact .inr rfl | assumption):wpAny M A (storeName X.env x u) Q E s:=by
 obtain⟨m,hn,hl⟩:=id I.loc
 have hcls:(X.env.scope.kind == .class || (X.env.scope.kind == .module && X.env.locals != X.env.globals))=false:=by rw[I.ok.kind]; rfl
 have hiσ:i<σ.length:=by rw[I.len]; exact (yp.mp hi).1
 have cne:=I.cne
 have tracked:∀ {a:Addr} {h':Heap},(∃ o,s.heap.get? a=some o∧H a=none)→Gy a s.heap h'→HOk X.prog X.w H h':=fun {a h'} ha hs b ob e=>by
  obtain⟨_,_,hfree⟩:=ha
  refine (I.hok b ob e).stay (fun c w' hc q=>(hs.2 c ?_).trans q) (fun _ q=>q) fun _ _ q=>q
  rintro rfl
  rcases hc with rfl | hc
  ·rw[hfree] at e; cases e
  ·rw[hfree] at hc; cases hc
 rcases hx with hk | hk
 ·refine wpAny_storeName_local hk hn (fun h' hn' hs=>?_) hcls
  obtain⟨oL,_,_,hoL,_⟩:=id hn
  refine h _ ⟨I.ok,I.os,I.bare,⟨fun b o e n hb hx=>?_,fun b o e n hb hx=>?_,I.base.free,fun b o e hx=>?_,I.base.tups,I.base.frzs,I.base.tbls⟩,⟨_,hn',fun j y v' e1 e2 e3=>?_⟩,fun y c e=>?_,I.free,I.freeC,fun p hp=>?_,tracked ⟨oL,hoL,I.free⟩ hs,by simpa using I.len⟩ ⟨_,hs,.inl rfl⟩
  ·exact (hs.2 b (Nat.ne_of_lt (Nat.lt_of_lt_of_le (Dy e) I.ok.above))).trans (I.base.keep b o e n hb hx)
  ·obtain⟨sl,e1⟩:=I.base.slot b o e n hb hx
   exact⟨sl,(hs.2 b (Nat.ne_of_lt (Nat.lt_of_lt_of_le (Dy e) I.ok.above))).trans e1⟩
  ·obtain⟨o',e1⟩:=I.base.there b o e hx
   exact⟨o',(hs.2 b (Nat.ne_of_lt (Nat.lt_of_lt_of_le (Dy e) I.ok.above))).trans e1⟩
  ·by_cases hj:j=i
   ·subst hj
    rw[hi] at e1; cases e1
    rw[Fq hiσ] at e2
    cases e2
    exact⟨u,r,.inl ⟨hk,by simp⟩⟩
   ·rw[Ji (E6 hj)] at e2
    obtain⟨u',r',q⟩:=hl j y v' e1 e2 e3
    refine⟨u',r',?_⟩
    rcases q with ⟨k,e⟩ | ⟨k,c,e,z⟩
    ·refine .inl ⟨k,?_⟩
     have:y≠x:=fun e=>hj (sW hN e1 (e ▸ hi))
     simp [this,e]
    ·exact .inr ⟨k,c,e,z.sameBut hs (cne y c e)⟩
  ·obtain⟨w',z⟩:=I.cell y c e
   exact⟨w',z.sameBut hs (cne y c e)⟩
  ·obtain⟨e,n,ne,nf,d⟩:=I.pin p hp
   exact⟨(hs.2 p.1 ne).trans e,n,ne,nf,d⟩
 ·have hfn:X.fn x=true:=by
   rcases hf with z | z
   ·exact z
   ·rw[z] at hk; cases hk
  obtain⟨c,hc⟩:=I.ok.has x (.inl hk)
  obtain⟨w',z⟩:=I.cell x c hc
  refine wpAny_storeName_cell I.ok.kind hk hc z (fun h' hc' hs=>?_)
  obtain⟨oc,hoc,hocd⟩:=id z
  refine h { s with heap:=h' } ⟨I.ok,I.os,I.bare,⟨fun b o e n hb hx=>?_,fun b o e n hb hx=>?_,I.base.free,fun b o e hx=>?_,I.base.tups,I.base.frzs,I.base.tbls⟩,⟨m,hn.sameBut hs (E6 (cne x c hc)),fun j y v' e1 e2 e3=>?_⟩,fun y c' e=>?_,I.free,I.freeC,fun p hp=>?_,tracked ⟨oc,hoc,I.freeC x c hc⟩ hs,by simpa using I.len⟩ ⟨c,hs,.inr hc⟩
  ·exact (hs.2 b (Nat.ne_of_lt (Nat.lt_of_lt_of_le (Dy e) (I.ok.cab x c hfn hc)))).trans (I.base.keep b o e n hb hx)
  ·obtain⟨sl,e1⟩:=I.base.slot b o e n hb hx
   exact⟨sl,(hs.2 b (Nat.ne_of_lt (Nat.lt_of_lt_of_le (Dy e) (I.ok.cab x c hfn hc)))).trans e1⟩
  ·obtain⟨o',e1⟩:=I.base.there b o e hx
   exact⟨o',(hs.2 b (Nat.ne_of_lt (Nat.lt_of_lt_of_le (Dy e) (I.ok.cab x c hfn hc)))).trans e1⟩
  ·by_cases hj:j=i
   ·subst hj
    rw[hi] at e1; cases e1
    rw[Fq hiσ] at e2
    cases e2
    exact⟨u,r,.inr ⟨.inl hk,c,hc,hc'⟩⟩
   ·rw[Ji (E6 hj)] at e2
    obtain⟨u',r',q⟩:=hl j y v' e1 e2 e3
    refine⟨u',r',?_⟩
    rcases q with q | ⟨k,c',e,z'⟩
    ·exact .inl q
    ·refine .inr ⟨k,c',e,z'.sameBut hs ?_⟩
     rintro rfl
     exact hj (sW hN e1 (I.ok.inj _ _ _ e hc ▸ hi))
  ·by_cases hcc:c'=c
   ·subst hcc; exact⟨_,hc'⟩
   ·obtain⟨w2,z2⟩:=I.cell y c' e
    exact⟨w2,z2.sameBut hs hcc⟩
  ·obtain⟨e,n,ne,nf,d⟩:=I.pin p hp
   refine⟨(hs.2 p.1 ?_).trans e,n,ne,nf,d⟩
   intro q
   rw[q,hoc] at e
   have q':oc=p.2:=DP e
   exact d w' (by rw[← q']; exact hocd)
def nE {i:Nat} {x:Str} {v:V} {Q:Unit→Shared→Prop} (I:Inv X pins σ H s) (hN:X.N.Nodup) (hi:X.N[i]?=some x) (hx:Loc X.env.scope x) (r:RelV v u)
  (h:∀ s',Inv X pins (σ.set i (some v)) H s'→Q () s') (hf:X.fn x=true∨X.env.scope.names.lookup x=some .local:=by first | exact .inl rfl | exact .inr rfl | assumption):wpAny M A (storeName X.env x u) Q E s :=
 qz I hN hi hx r (fun s' I' _=>h s' I') hf
def Inv.call' (I:Inv X pins σ H s) (ho:s'.os=s.os) (u:Un (frs X.stack) ch H H' s.heap s'.heap) (hok:HOk X.prog X.w H' s'.heap) (hg:Im s'.gens)
  (hch:∀ b∈ch,(b∈X.ex∨X.s₀.heap.objs.size≤b)∧b≠X.env.locals∧(∀ x c,X.env.cells.lookup x=some c→c≠b)∧∀ p∈X.pn++pins,p.1≠b):Inv X pins σ H' s':=by
 obtain⟨h',g',d',t',o'⟩:=s'
 have e:o'=s.os:=ho
 subst e
 exact I.call (g':=g') (t':=t') (d':=d') u hok hg hch
end
abbrev XK:=Value→Option Addr→Hp→Prop
abbrev St:=List (Option V)
abbrev VK:=V→Hp→Prop
abbrev TE:=St→Hp→VK→Prop
abbrev TT:=St→Hp→(Bool→Hp→Prop)→Prop
abbrev TA:=St→Hp→(List V→Hp→Prop)→Prop
structure Ends where
 nx:St→Hp→Prop
 rt:VK
 bk:St→Hp→Prop:=fun _ _=>False
 ct:St→Hp→Prop:=fun _ _=>False
abbrev TS:=Ends→St→Hp→Prop
def EP (X:Cx) (pins:List (Addr×Obj)) (σ:St) (Q:VK) (u:Value) (s':Shared):Prop:=∃ v H',Inv X pins σ H' s'∧RelV v u∧Q v H'
def TP (X:Cx) (pins:List (Addr×Obj)) (σ:St) (Q:Bool→Hp→Prop) (b:Bool) (s':Shared):Prop:=∃ H',Inv X pins σ H' s'∧Q b H'
def AP (X:Cx) (pins:List (Addr×Obj)) (σ:St) (Q:List V→Hp→Prop) (us:List Value) (s':Shared):Prop:=∃ vs H',Inv X pins σ H' s'∧Vals vs us∧Q vs H'
def SP (X:Cx) (pins:List (Addr×Obj)) (D:Ends) (f:Flow) (s':Shared):Prop :=
 match f with
 | .next=>∃ σ' H',Inv X pins σ' H' s'∧D.nx σ' H'
 | .brk=>∃ σ' H',Inv X pins σ' H' s'∧D.bk σ' H'
 | .cont=>∃ σ' H',Inv X pins σ' H' s'∧D.ct σ' H'
 | .ret u=>∃ v σ' H',Inv X pins σ' H' s'∧RelV v u∧D.rt v H'
def PE (X:Cx) (e:Expr) (t:TE):Prop :=
 ∀ (pins:List (Addr×Obj)) (s:Shared) (σ:St) (H:Hp) (Q:VK),Inv X pins σ H s→t σ H Q→wpAny (model X.prog X.w) X.A (eval e X.env) (EP X pins σ Q) X.xe s
def PT (X:Cx) (e:Expr) (t:TT):Prop :=
 ∀ (pins:List (Addr×Obj)) (s:Shared) (σ:St) (H:Hp) (Q:Bool→Hp→Prop),Inv X pins σ H s→t σ H Q→wpAny (model X.prog X.w) X.A (isTrue e X.env (eval e X.env)) (TP X pins σ Q) X.xe s
def PW (X:Cx) (e:Expr) (t:TT):Prop :=
 ∀ (whole:Sem Value) (pins:List (Addr×Obj)) (s:Shared) (σ:St) (H:Hp) (Q:Bool→Hp→Prop),Inv X pins σ H s→t σ H Q→wpAny (model X.prog X.w) X.A (isTrue e X.env whole) (TP X pins σ Q) X.xe s
def PW.pt {X:Cx} {e:Expr} {t:TT} (h:PW X e t):PT X e t:=h _
def PA (X:Cx) (es:List Expr) (t:TA):Prop :=
 ∀ (pos:Pos) (pins:List (Addr×Obj)) (s:Shared) (σ:St) (H:Hp) (Q:List V→Hp→Prop),Inv X pins σ H s→t σ H Q→wpAny (model X.prog X.w) X.A (spliced (backTo pos (DK es X.env))) (AP X pins σ Q) X.xe s
def PS (X:Cx) (st:Stmt) (t:TS):Prop :=
 ∀ (pins:List (Addr×Obj)) (s:Shared) (σ:St) (H:Hp) (D:Ends),Inv X pins σ H s→t D σ H→wpAny (model X.prog X.w) X.A (exec st X.env) (SP X pins D) X.xe s
def PSs (X:Cx) (st:List Stmt) (t:TS):Prop :=
 ∀ (pins:List (Addr×Obj)) (s:Shared) (σ:St) (H:Hp) (D:Ends),Inv X pins σ H s→t D σ H→wpAny (model X.prog X.w) X.A (execs st X.env) (SP X pins D) X.xe s
def thn {α:Type} {t:Sem α} {Q Q':α→Shared→Prop} (h:wpAny M A t Q E s) (hQ:∀ a s,Q a s→Q' a s):wpAny M A t Q' E s:=Eo h hQ fun _ _ x=>x
section
variable {X:Cx}
def bin {a b:Expr} {ta tb:TE} (ha:PE X a ta) (hb:PE X b tb) {σ:St} {H:Hp} {R:V→V→Hp→Prop} (I:Inv X pins σ H s) (h:ta σ H fun x H1=>tb σ H1 fun y H2=>R x y H2)
  {α:Type} {Q:α→Shared→Prop} {f:Value→Value→Sem α}
  (hf:∀ v u s2 x y H2,Inv X pins σ H2 s2→RelV x v→RelV y u→R x y H2→wpAny (model X.prog X.w) X.A (f v u) Q X.xe s2) :
  wpAny (model X.prog X.w) X.A (eval a X.env) (fun v s₁=>wpAny (model X.prog X.w) X.A (eval b X.env) (fun u s₂=>wpAny (model X.prog X.w) X.A (f v u) Q X.xe s₂) X.xe s₁) X.xe s:=by
 refine thn (ha pins s σ H _ I h) fun v s1 ⟨x,H1,I1,r1,q1⟩=>?_
 refine thn (hb pins s1 σ H1 _ I1 q1) fun u s2 ⟨y,H2,I2,r2,q2⟩=>?_
 exact hf v u s2 x y H2 I2 r1 r2 q2
def nM (i:Nat):TE:=fun σ H Q=>∃ v,σ[i]?=some (some v)∧Q v H
def tC (v:V):TE:=fun _ H Q=>Q v H
def xZ {i:Nat} {x:Str} (hN:X.N[i]?=some x) (hv:Vis X.env.scope x) (hd:(x == ("__debug__":Str))=false:=by decide) (hcd:(x == ("__classdict__":Str))=false:=by decide):PE X (.Name x pos) (nM i):=by
 intro pins s σ H Q I h
 obtain⟨v,e,h⟩:=h
 obtain⟨m,hn,hl⟩:=I.loc
 obtain⟨u,r,l⟩:=hl i x v hN e hv
 have fin:EP X pins σ Q u s:=⟨v,H,I,r,h⟩
 rcases l with ⟨hk,hm⟩ | ⟨hk,c,hc,hcell⟩
 ·exact wpAny_Name (wpAny_loadName_local I.ok.kind hk hn hm fin) hd
 ·rcases hk with hk | hk
  ·exact wpAny_Name (wpAny_loadName_cell I.ok.kind hk hc hcell fin) hd
  ·exact wpAny_Name (wpAny_loadName_free I.ok.kind hk hc hcell fin hcd) hd
def aS {i j pos}:PE X (.Constant (.int i) j pos) (tC (.int i)):=fun _ _ _ H _ I h=>wpAny_Constant_int ⟨.int i,H,I.tok _,⟨_,rfl⟩,h⟩
def fY {b j pos}:PE X (.Constant (.bool b) j pos) (tC (.bl b)):=fun _ _ _ H _ I h=>Constant_bool ⟨.bl b,H,I,rfl,h⟩
def iV {j pos}:PE X (.Constant .none j pos) (tC .non):=fun _ _ _ H _ I h=>Constant_none ⟨.non,H,I,rfl,h⟩
def cz {x j pos}:PE X (.Constant (.str x) j pos) (tC (.str x)):=fun _ _ _ H _ I h=>Calls.Constant_str ⟨.str x,H,I.tok _,⟨_,rfl⟩,h⟩
def Gl (X:Cx) (x:Str):Prop:=X.env.kindOf x=some .globalImplicit
def jl {σ:St} {H:Hp} {x:Str} {Q:Value→Shared→Prop} (I:Inv X pins σ H s) (hg:Gl X x) (hm:X.mg x=some u) (h:Q u s)
  (hd:(x == ("__debug__":Str))=false:=by decide):wpAny (model X.prog X.w) X.A (eval (.Name x pos) X.env) Q E s :=
 HE I.ok.kind hg (Calls.loadGlobal_global (by rw[I.ok.glob]; exact I.mod.glob.keeps I.bk) hm h) hd
def jM {σ:St} {H:Hp} {x:Str} {Q:Value→Shared→Prop} (I:Inv X pins σ H s) (hg:Gl X x) (hm:X.mg x=none) (hv:Eg x=some u) (h:Q u s)
  (hn:x≠"__name__":=by decide) (hd:(x == ("__debug__":Str))=false:=by decide):wpAny (model X.prog X.w) X.A (eval (.Name x pos) X.env) Q E s:=by
 obtain⟨mb,h1,h2⟩:=I.mod.blt
 exact HE I.ok.kind hg (Calls.loadGlobal_builtin (by rw[I.ok.glob]; exact I.mod.glob.keeps I.bk) hm (by rw[I.ok.blt]; exact h1.keeps I.bk) ((h2 x hn).trans hv) h) hd
def pA {x:Str} {v:V} {u:Value} {pos:Pos} (hg:Gl X x) (hm:X.mg x=some u) (r:RelV v u) (hd:(x == ("__debug__":Str))=false:=by decide):PE X (.Name x pos) (tC v) :=
 fun _ _ _ H _ I h=>jl I hg hm ⟨v,H,I,r,h⟩ hd
def gH {x:Str} {v:V} {u:Value} {pos:Pos} (hg:Gl X x) (hm:X.mg x=none) (hv:Eg x=some u) (r:RelV v u) (hn:x≠"__name__":=by decide) (hd:(x == ("__debug__":Str))=false:=by decide):PE X (.Name x pos) (tC v) :=
 fun _ _ _ H _ I h=>jM I hg hm hv ⟨v,H,I,r,h⟩ hn hd
variable {a b:Expr} {ta tb:TE} {pos:Pos}
def tB (t:TE):TT:=fun σ H Q=>t σ H fun x H1=>∃ c,x=.bl c∧Q c H1
def fP {e:Expr} {t:TE} (h:PE X e t) (he:∀ whole,isTrue e X.env whole=(do let v ← whole; standAt e.pos; JK [v] (truthy v)):=by intro _; rfl):PT X e (tB t):=by
 intro pins s σ H Q I hw
 refine isTrue_plain (thn (h pins s σ H _ I hw) fun v s1 ⟨x,H1,I1,r1,q1⟩=>?_) (he _)
 obtain⟨d,rfl,q⟩:=q1
 cases r1
 exact EE ⟨H1,I1,q⟩
variable {tA tB':TT} {rest:List Expr}
def Cz (t u:TT):TT:=fun σ H Q=>t σ H fun c H1=>if c=true then u σ H1 Q else Q false H1
def tOr (t u:TT):TT:=fun σ H Q=>t σ H fun c H1=>if c=true then Q true H1 else u σ H1 Q
def CC (t:TT):TT:=fun σ H Q=>t σ H fun c H1=>Q (!c) H1
def gZ (ha:PT X a tA):PW X (.BoolOp .And [a] pos) tA:=by
 intro wh pins s σ H Q I h
 refine isTrue_and (thn (ha pins s σ H Q I h) fun c s1 e=>?_)
 cases c with
 | true=>exact isTrue_and_nil e
 | false=>exact e
def jt (ha:PT X a tA):PW X (.BoolOp .Or [a] pos) tA:=by
 intro wh pins s σ H Q I h
 refine isTrue_or (thn (ha pins s σ H Q I h) fun c s1 e=>?_)
 cases c with
 | false=>exact isTrue_or_nil e
 | true=>exact e
def iu (ha:PT X a tA) (hb:PW X (.BoolOp .And (b::rest) pos) tB'):PW X (.BoolOp .And (a::b::rest) pos) (Cz tA tB'):=by
 intro wh pins s σ H Q I h
 refine isTrue_and (thn (ha pins s σ H _ I h) fun c s1 ⟨H1,I1,q1⟩=>?_)
 cases c with
 | true=>exact hb wh pins s1 σ H1 Q I1 q1
 | false=>exact⟨H1,I1,q1⟩
def jr (ha:PT X a tA) (hb:PW X (.BoolOp .Or (b::rest) pos) tB'):PW X (.BoolOp .Or (a::b::rest) pos) (tOr tA tB'):=by
 intro wh pins s σ H Q I h
 refine isTrue_or (thn (ha pins s σ H _ I h) fun c s1 ⟨H1,I1,q1⟩=>?_)
 cases c with
 | true=>exact⟨H1,I1,q1⟩
 | false=>exact hb wh pins s1 σ H1 Q I1 q1
def gc (ha:PT X a tA):PT X (.UnaryOp .Not a pos) (CC tA):=by
 intro pins s σ H Q I h
 exact isTrue_not (ha pins s σ H (fun c H1=>Q (!c) H1) I h)
def Ai (ta tb:TE):TE:=fun σ H Q=>ta σ H fun x H1=>∃ c,x=.bl c∧if c=true then tb σ H1 Q else Q (.bl false) H1
def Cy (ta tb:TE):TE:=fun σ H Q=>ta σ H fun x H1=>∃ c,x=.bl c∧if c=true then Q (.bl true) H1 else tb σ H1 Q
def An (ta:TE):TE:=fun σ H Q=>ta σ H fun x H1=>∃ c,x=.bl c∧Q (.bl (!c)) H1
def jo {op} {t:TE} (h:PE X a t):PE X (.BoolOp op [a] pos) t:=fun pins s σ H Q I hw=>BoolOp_one (h pins s σ H Q I hw)
def jL (ha:PE X a ta) (hb:PE X (.BoolOp .And (b::rest) pos) tb):PE X (.BoolOp .And (a::b::rest) pos) (Ai ta tb):=by
 intro pins s σ H Q I h
 refine BoolOp_and (thn (ha pins s σ H _ I h) fun v s1 ⟨x,H1,I1,r1,q1⟩=>?_)
 obtain⟨c,rfl,q1⟩:=q1
 cases r1
 refine EE ?_
 cases c with
 | true=>exact hb pins s1 σ H1 Q I1 q1
 | false=>exact⟨.bl false,H1,I1,rfl,q1⟩
def C0 (ha:PE X a ta) (hb:PE X (.BoolOp .Or (b::rest) pos) tb):PE X (.BoolOp .Or (a::b::rest) pos) (Cy ta tb):=by
 intro pins s σ H Q I h
 refine BoolOp_or (thn (ha pins s σ H _ I h) fun v s1 ⟨x,H1,I1,r1,q1⟩=>?_)
 obtain⟨c,rfl,q1⟩:=q1
 cases r1
 refine EE ?_
 cases c with
 | false=>exact hb pins s1 σ H1 Q I1 q1
 | true=>exact⟨.bl true,H1,I1,rfl,q1⟩
def Cm (ha:PE X a ta):PE X (.UnaryOp .Not a pos) (An ta):=by
 intro pins s σ H Q I h
 refine UnaryOp_ (thn (ha pins s σ H _ I h) fun v s1 ⟨x,H1,I1,r1,q1⟩=>?_)
 obtain⟨c,rfl,q1⟩:=q1
 cases r1
 exact not_of (EE ⟨.bl (!c),H1,I1,rfl,q1⟩)
end
def SqL (K:cy) (H:Hp) (a:Addr) (xs:List V):Prop :=
 Rd H a (.lst xs) ∨
  ∃ (o:Obj) (its:Array Value) (n:Nat),K.lookup a=some o∧o.cls=.type "list"∧o.dict=none∧o.data=.seq its n∧its.size≤sizeLine∧Vals xs its.toList
def SqT (K:cy) (H:Hp) (a:Addr) (xs:List V):Prop :=
 Rd H a (.tup xs) ∨
  ∃ (o:Obj) (its:Array Value) (n:Nat),K.lookup a=some o∧o.cls=.type "tuple"∧o.data=.seq its n∧its.size≤sizeLine∧Vals xs its.toList
noncomputable def De:Value→Option V
 | .none=>some .non
 | .bool b=>some (.bl b)
 | .int i _=>some (.int i)
 | .str x _=>some (.str x)
 | .bytes b _=>some (.byt b)
 | .float b _=>some (.flt b)
 | .ref a=>some (.ref a)
 | .type n=>some (.ty n)
 | _=>none
def RelV.abs {x:V} (r:RelV x u):De u=some x:=by
 cases x with
 | non=>cases r; rfl
 | bl _=>cases r; rfl
 | int _=>obtain⟨t,rfl⟩:=r; rfl
 | str _=>obtain⟨t,rfl⟩:=r; rfl
 | byt _=>obtain⟨t,rfl⟩:=r; rfl
 | flt _=>obtain⟨t,rfl⟩:=r; rfl
 | ref _=>cases r; rfl
 | ty _=>cases r; rfl
def RelV.inj {x y:V} (r:RelV x u) (q:RelV y u):x=y:=DP (r.abs.symm.trans q.abs)
def Vals.inj:∀ {xs ys:List V} {us:List Value},Vals xs us→Vals ys us→xs=ys
 | _,_,_,.nil,.nil=>rfl
 | _,_,_,.cons r t,.cons r' t'=>by rw[r.inj r',Vals.inj t t']
section
variable {X:Cx} {pins:List (Addr×Obj)} {σ:St} {H:Hp} {s:Shared} {a:Addr} {xs ys:List V}
def SqL.of (h:H a=some (.lst xs)):SqL K H a xs:=.inl (.inl h)
def SqT.of (h:H a=some (.tup xs)):SqT K H a xs:=.inl (.inl h)
def Inv.list (I:Inv X pins σ H s) (h:SqL X.K H a xs):∃ its:List Value,Vals xs its∧PlainL s.heap a its.toArray∧xs.length≤sizeLine:=by
 rcases h with h | ⟨o,its,n,hk,hc,hd,hs,hz,r⟩
 ·obtain⟨z,its,n,r,e⟩:=h.ok I.hok
  exact⟨its,r,⟨_,n,e,rfl,rfl,rfl⟩,z⟩
 ·refine⟨its.toList,r,⟨o,n,I.kIn a o hk,hc,hd,by simpa using hs⟩,?_⟩
  have e:=r.length
  simp only [Hs] at e
  exact Oz110 hz e
def Inv.tuple (I:Inv X pins σ H s) (h:SqT X.K H a xs):∃ its:List Value,Vals xs its∧IsTup s.heap a its.toArray∧xs.length≤sizeLine:=by
 rcases h with h | ⟨o,its,n,hk,hc,hs,hz,r⟩
 ·obtain⟨z,its,r,p,_⟩:=h.ok I.hok
  exact⟨its,r,p,z⟩
 ·refine⟨its.toList,r,⟨o,I.kIn a o hk,hc,n,by simpa using hs⟩,?_⟩
  have e:=r.length
  simp only [Hs] at e
  exact Oz110 hz e
def Inv.list_inj (I:Inv X pins σ H s) (h:SqL X.K H a xs) (h':SqL X.K H a ys):xs=ys:=by
 obtain⟨its,r,⟨o,n,e,_,_,d⟩,_⟩:=I.list h
 obtain⟨its',r',⟨o',n',e',_,_,d'⟩,_⟩:=I.list h'
 rw[e] at e'; cases e'
 rw[d] at d'
 injection d' with d1 _
 have:its=its':=by simpa using congrArg Array.toList d1
 subst this
 exact r.inj r'
def Inv.tuple_inj (I:Inv X pins σ H s) (h:SqT X.K H a xs) (h':SqT X.K H a ys):xs=ys:=by
 obtain⟨its,r,⟨o,e,_,n,d⟩,_⟩:=I.tuple h
 obtain⟨its',r',⟨o',e',_,n',d'⟩,_⟩:=I.tuple h'
 rw[e] at e'; cases e'
 rw[d] at d'
 injection d' with d1 _
 have:its=its':=by simpa using congrArg Array.toList d1
 subst this
 exact r.inj r'
end
noncomputable abbrev Cx.wish (X:Cx) (E:Value→Shared→Prop):Cx:={ X with xe:=E }
noncomputable abbrev Cx.nox (X:Cx):Cx:=X.wish fun _ _=>False
def Cx.Ok.wish {X:Cx} (ok:X.Ok) (E:Value→Shared→Prop):(X.wish E).Ok :=
 ⟨ok.mod,ok.kind,ok.glob,ok.blt,ok.above,ok.inj,ok.has,ok.cab,ok.hd,ok.frames,ok.stk,ok.exf,ok.bs,ok.bsz,ok.noex,ok.exfs,ok.funs,ok.frf⟩
def Cx.Ok.unwish {X:Cx} (ok:(X.wish E).Ok):X.Ok :=
 ⟨ok.mod,ok.kind,ok.glob,ok.blt,ok.above,ok.inj,ok.has,ok.cab,ok.hd,ok.frames,ok.stk,ok.exf,ok.bs,ok.bsz,ok.noex,ok.exfs,ok.funs,ok.frf⟩
section
variable {X:Cx} {pins:List (Addr×Obj)} {σ:St} {H:Hp} {s:Shared} {E:Value→Shared→Prop}
def Inv.wish (I:Inv X pins σ H s) (E:Value→Shared→Prop):Inv (X.wish E) pins σ H s:=⟨I.ok.wish E,I.os,I.bare,I.base,I.loc,I.cell,I.free,I.freeC,I.pin,I.hok,I.len⟩
def Inv.unwish (I:Inv (X.wish E) pins σ H s):Inv X pins σ H s:=⟨I.ok.unwish,I.os,I.bare,I.base,I.loc,I.cell,I.free,I.freeC,I.pin,I.hok,I.len⟩
def SP.unwish {D:Ends} {f:Flow} (h:SP (X.wish E) pins D f s'):SP X pins D f s':=by
 cases f with
 | next=>obtain⟨σ',H',I,q⟩:=h; exact⟨σ',H',I.unwish,q⟩
 | brk=>obtain⟨σ',H',I,q⟩:=h; exact⟨σ',H',I.unwish,q⟩
 | cont=>obtain⟨σ',H',I,q⟩:=h; exact⟨σ',H',I.unwish,q⟩
 | ret u=>obtain⟨v,σ',H',I,r,q⟩:=h; exact⟨v,σ',H',I.unwish,r,q⟩
def PSs.nox {st:List Stmt} {t:TS} (h:PSs X.nox st t):PSs X st t:=fun pins s σ H D I hw =>
 Eo (h pins s σ H D (I.wish _) hw) (fun _ _ q=>q.unwish) fun _ _ z=>EF z
end
section
variable {X:Cx} {st:Stmt} {rest:List Stmt} {t u:TS} {e:Expr} {te:TE} {pos:Pos}
def AE:TS:=fun D σ H=>D.nx σ H
def mq (t u:TS):TS:=fun D σ H=>t { D with nx:=u D } σ H
def dw:PSs X [] AE:=fun _ _ σ H _ I h=>GE ⟨σ,H,I,h⟩
def aU (h1:PS X st t) (h2:PSs X rest u):PSs X (st::rest) (mq t u):=by
 intro pins s σ H D I h
 refine IF (thn (h1 pins s σ H { D with nx:=u D } I h) fun f s1 q=>?_)
 cases f with
 | next =>
  obtain⟨σ',H',I',q⟩:=q
  exact h2 pins s1 σ' H' D I' q
 | ret v=>exact q
 | brk=>exact q
 | cont=>exact q
def aV (h1:PS X st t):PSs X [st] t:=by
 intro pins s σ H D I h
 refine IF (thn (h1 pins s σ H D I h) fun f s1 q=>?_)
 cases f with
 | next=>exact GE q
 | ret v=>exact q
 | brk=>exact q
 | cont=>exact q
def Inv.quiet {σ:St} {H:Hp} (I:Inv X pins σ H s):interactive X.env=false:=by simp [interactive,I.ok.kind]
def Ao (te:TE):TS:=fun D σ H=>te σ H fun _ H1=>D.nx σ H1
def gY (he:PE X e te) (hs:Ia e none pos.line X.env=pure false:=by rfl):PS X (.Expr e pos) (Ao te):=by
 intro pins s σ H D I h
 exact wpAny_Expr_any (thn (he pins s σ H _ I h) fun v s1 ⟨x,H1,I1,r1,q1⟩=>⟨σ,H1,I1,q1⟩) I.quiet hs
def zC (te:TE):TS:=fun D σ H=>te σ H D.rt
def cA (he:PE X e te):PS X (.Return (some e) pos) (zC te):=by
 intro pins s σ H D I h
 exact wpAny_Return_some (thn (he pins s σ H _ I h) fun v s1 ⟨x,H1,I1,r1,q1⟩=>⟨x,σ,H1,I1,r1,q1⟩)
def Bw (c:TT) (t u:TS):TS:=fun D σ H=>c σ H fun b H1=>if b=true then t D σ H1 else u D σ H1
def eT {c:Expr} {a b:List Stmt} {tc:TT} (hc:PT X c tc) (ha:PSs X a t) (hb:PSs X b u):PS X (.If c a b pos) (Bw tc t u):=by
 intro pins s σ H D I h
 refine wpAny_If (thn (hc pins s σ H _ I h) fun d s1 ⟨H1,I1,q1⟩=>?_)
 cases d with
 | true=>exact ha pins s1 σ H1 D I1 q1
 | false=>exact hb pins s1 σ H1 D I1 q1
end
abbrev TG:=V→St→Hp→(St→Hp→Prop)→Prop
abbrev TGs:=List V→St→Hp→(St→Hp→Prop)→Prop
def PG (X:Cx) (target:Expr) (t:TG):Prop :=
 ∀ (pins:List (Addr×Obj)) (s:Shared) (σ:St) (H:Hp) (v:V) (u:Value) (Q:St→Hp→Prop),Inv X pins σ H s→RelV v u→t v σ H Q →
  wpAny (model X.prog X.w) X.A (assign target X.env u) (fun _ s'=>∃ σ' H',Inv X pins σ' H' s'∧Q σ' H') X.xe s
def PGs (X:Cx) (ts:List Expr) (t:TGs):Prop :=
 ∀ (pins:List (Addr×Obj)) (s:Shared) (σ:St) (H:Hp) (vs:List V) (us:List Value) (Q:St→Hp→Prop),Inv X pins σ H s→Vals vs us→t vs σ H Q →
  wpAny (model X.prog X.w) X.A (assignInOrder ((GU ts X.env).map (·.2)) us) (fun _ s'=>∃ σ' H',Inv X pins σ' H' s'∧Q σ' H') X.xe s
abbrev zI:=V→V→V→Hp→(Hp→Prop)→Prop
def Ci (X:Cx) (t:zI):Prop :=
 ∀ (pins:List (Addr×Obj)) (s:Shared) (σ:St) (H:Hp) (o i v:V) (ov iv u:Value) (Q:Hp→Prop),Inv X pins σ H s→RelV o ov→RelV i iv→RelV v u→t o i v H Q →
  wpAny (model X.prog X.w) X.A (setItem ov iv u) (fun _ s'=>∃ H',Inv X pins σ H' s'∧Q H') X.xe s
section
variable {X:Cx} {pos:Pos}
def lB (i:Nat):TG:=fun v σ H Q=>Q (σ.set i (some v)) H
def dH {i:Nat} {x:Str} (hN:X.N.Nodup) (hi:X.N[i]?=some x) (hx:Loc X.env.scope x) (hf:X.fn x=true∨X.env.scope.names.lookup x=some .local:=by first | exact .inl rfl | exact .inr rfl | assumption):PG X (.Name x pos) (lB i):=by
 intro pins s σ H v u Q I r h
 exact wpAny_assign_Name (nE I hN hi hx r (fun s' I'=>⟨_,H,I',h⟩) hf)
def Cp:TGs:=fun vs σ H Q=>vs=[]∧Q σ H
def Ay (t:TG) (u:TGs):TGs:=fun vs σ H Q=>∃ v r,vs=v::r∧t v σ H fun σ' H'=>u r σ' H' Q
def j9:PGs X [] Cp:=by
 intro pins s σ H vs us Q I r h
 obtain⟨e,h⟩:=h
 subst e
 cases r
 exact assignInOrder_nil ⟨σ,H,I,h⟩
def gD {e:Expr} {es:List Expr} {t:TG} {u:TGs} (h1:PG X e t) (h2:PGs X es u)
  (hs:(GU (e::es) X.env).map (·.2)=assign e X.env::(GU es X.env).map (·.2):=by rfl):PGs X (e::es) (Ay t u):=by
 intro pins s σ H vs us Q I r h
 obtain⟨v,vr,e1,h⟩:=h
 subst e1
 cases r with
 | cons r rr =>
  rw[hs]
  refine assignInOrder_cons (thn (h1 pins s σ H _ _ _ I r h) fun _ s1 ⟨σ1,H1,I1,q1⟩=>?_)
  exact h2 pins s1 σ1 H1 _ _ Q I1 rr q1
def Ac (K:cy) (n:Nat) (t:TGs):TG:=fun v σ H Q=>∃ a xs,v=.ref a∧SqT K H a xs∧xs.length=n∧t xs σ H Q
def rY {es:List Expr} {k:Nat} {t:TGs} {n:Nat} (hc:X.calm=true) (h:PGs X es t)
  (hn:(GU es X.env).length=n:=by rfl) (hst:(GU es X.env).findIdx? (·.1)=none:=by rfl):PG X (.Tuple es k pos) (Ac X.K n t):=by
 intro pins s σ H v u Q I r hw
 obtain⟨a,xs,e1,hq,hl,hw⟩:=hw
 subst e1
 cases r
 obtain⟨its,rv,ht,hz⟩:=I.tuple hq
 refine assign_Tuple_tuple (I.ok.hd hc) ht (by simp [hn,← hl,rv.length]) hst fun h' hx=>?_
 have I1:Inv X pins σ H { s with heap:=h' }:=I.kept (t':=s.toks) fun b o e=>hx b o (Nat.ne_of_lt (Dy e)) e
 exact h pins _ σ H xs _ Q I1 (by simpa using rv) hw
def Bu (to ti:TE) (t:zI):TG:=fun v σ H Q=>to σ H fun o H1=>ti σ H1 fun i H2=>t o i v H2 fun H3=>Q σ H3
def kY {o i:Expr} {to ti:TE} {t:zI} (ho:PE X o to) (hi:PE X i ti) (hs:Ci X t)
  (ha:∀ v,assign (.Subscript o i pos) X.env v=(do
   let ov ← JK [v] (eval o X.env)
   let iv ← JK [v,ov] (eval i X.env)
   standAt pos
   JK [v,ov,iv] (setItem ov iv v)
   release [v,ov,iv] []):=by intro _; rfl):PG X (.Subscript o i pos) (Bu to ti t):=by
 intro pins s σ H v u Q I r h
 rw[ha]
 refine wo (EK (thn (ho pins s σ H _ I h) fun ov s1 ⟨x,H1,I1,r1,q1⟩=>?_))
 refine wo (EK (thn (hi pins s1 σ H1 _ I1 q1) fun iv s2 ⟨y,H2,I2,r2,q2⟩=>?_))
 refine wo (wpAny_standAt (wo (EK (thn (hs pins s2 σ H2 x y v ov iv u _ I2 r1 r2 r q2) fun _ s3 ⟨H3,I3,q3⟩=>?_))))
 exact wpAny_release ⟨σ,H3,I3,q3⟩
def sS (te:TE) (g:TG):TS:=fun D σ H=>te σ H fun x H1=>g x σ H1 D.nx
def jP {tg e:Expr} {te:TE} {g:TG} (he:PE X e te) (hg:PG X tg g) (hs:swapsWithSole [tg] e pos.line X.env=pure false:=by rfl) (hw:swappedStores [tg] e X.env=pure none:=by rfl)
  (h1:(GU [tg] X.env).map (·.2)=[assign tg X.env]:=by rfl):PS X (.Assign [tg] e pos) (sS te g):=by
 intro pins s σ H D I h
 refine wpAny_Assign_stores (thn (he pins s σ H _ I h) fun v s1 ⟨x,H1,I1,r1,q1⟩=>?_) hs hw
 rw[h1]
 exact thn (hg pins s1 σ H1 x v _ I1 r1 q1) fun _ s2 q=>q
def zk {i:Nat} {x:Str} {e:Expr} {te:TE} {pos':Pos} (hN:X.N.Nodup) (hi:X.N[i]?=some x) (hx:Loc X.env.scope x) (he:PE X e te) (hs:Ia e (some (.Name x pos')) pos.line X.env=pure false:=by rfl) (hf:X.fn x=true∨X.env.scope.names.lookup x=some .local:=by first | exact .inl rfl | exact .inr rfl | assumption) :
  PS X (.Assign [.Name x pos'] e pos) (sS te (lB i)):=by
 intro pins s σ H D I h
 refine wpAny_Assign_Name (thn (he pins s σ H _ I h) fun v s1 ⟨y,H1,I1,r1,q1⟩=>?_) hs
 exact nE I1 hN hi hx r1 (fun s2 I2=>⟨_,H1,I2,q1⟩) hf
end
structure It where
 go:Nat→Hp→Prop
 yld:Nat→Hp→V→Hp→Prop
 stop:Nat→Hp→Prop
def FpOk (X:Cx) (pins:List (Addr×Obj)) (H:Hp) (b:Addr):Prop :=
 H b=none∧b≠X.env.locals∧b ∉ X.fs∧(b∈X.ex∨X.s₀.heap.objs.size≤b)∧(∀ x c,X.env.cells.lookup x=some c→c≠b)∧∀ p∈X.pn++pins,p.1≠b
def Inv.fpOk {X:Cx} {σ:St} {H H':Hp} {b:Addr} (I:Inv X pins σ H s) (hb:s.heap.objs.size≤b) (hn:H' b=none):FpOk X pins H' b:=by
 refine⟨hn,Nat.ne_of_gt (Nat.lt_of_lt_of_le I.lt hb),I.nofs hb,.inr (Nat.le_trans I.sz hb),fun x c e z=>?_,fun p hp z=>?_⟩
 ·obtain⟨v,q⟩:=I.cell x c e
  exact absurd (Nat.lt_of_lt_of_le q.lt (by rw[z]; exact hb)) (Nat.lt_irrefl _)
 ·exact absurd (Nat.lt_of_lt_of_le (Dy (I.pin p hp).1) (by rw[z]; exact hb)) (Nat.lt_irrefl _)
structure Turn (P:Dz) (w:World) (K:cy) (tg:Expr) (J:It) (fp:List Addr) (it:Addr) (tn:Nat→Heap→Prop):Prop where
 mem:it∈fp
 obj:∀ i h,tn i h→∀ b∈fp,∃ o,h.get? b=some o∧∀ v,o.data≠.cell v
 keep:∀ i h h',tn i h→(∀ b∈fp,∀ o,h.get? b=some o→h'.get? b=some o)→tn i h'
 item:∀ (X:Cx),X.prog=P→X.w=w→X.K=K→X.calm=true→∀ (i:Nat) (pins:List (Addr×Obj)) (s:Shared) (σ:St) (H:Hp) (E:Value→Shared→Prop),Inv X pins σ H s→(∀ b∈fp,FpOk X pins H b)→tn i s.heap→J.go i H →
  wpAny (model P w) X.A (pyNext (.ref it)) (fun r s1=>∃ u,r=some u ∧
   wpAny (model P w) X.A (Ht tg (.ref it) u) (fun _ s2=>∃ x H',Inv X pins σ H' s2∧RelV x u∧J.yld i H x H'∧tn (i+1) s2.heap∧∀ b∈fp,H' b=none) E s1) E s
 done:∀ (X:Cx),X.prog=P→X.w=w→X.K=K→X.calm=true→∀ (i:Nat) (pins:List (Addr×Obj)) (s:Shared) (σ:St) (H:Hp) (E:Value→Shared→Prop),Inv X pins σ H s→(∀ b∈fp,FpOk X pins H b)→tn i s.heap→J.stop i H →
  wpAny (model P w) X.A (pyNext (.ref it)) (fun r s1=>r=none∧Inv X pins σ H s1) E s
 self:∀ (A:Around) (i:Nat) (s:Shared) (Q:Value→Shared→Prop) (E:Value→Shared→Prop),tn i s.heap→Q (.ref it) s→wpAny (model P w) A (pyIter (.ref it)) Q E s
abbrev TI:=St→Hp→(It→Hp→Prop)→Prop
def PIE (X:Cx) (pins:List (Addr×Obj)) (σ:St) (tg:Expr) (R:It→Hp→Prop) (itv:Value) (s2:Shared):Prop :=
 ∃ (it:Addr) (fp:List Addr) (tn:Nat→Heap→Prop) (J:It) (H':Hp),itv=.ref it∧Inv X pins σ H' s2∧Turn X.prog X.w X.K tg J fp it tn∧tn 0 s2.heap∧(∀ b∈fp,FpOk X pins H' b)∧R J H'
def PI (X:Cx) (tg iter:Expr) (wi:TI):Prop :=
 ∀ (pins:List (Addr×Obj)) (s:Shared) (σ:St) (H:Hp) (R:It→Hp→Prop),Inv X pins σ H s→wi σ H R →
  wpAny (model X.prog X.w) X.A (eval iter X.env) (fun v s1=>wpAny (model X.prog X.w) X.A (pyIter v) (PIE X pins σ tg R) X.xe s1) X.xe s
def qU {o:Obj} {n:String} {vs:Array Value} {Q:Unit→Shared→Prop} (ho:s.heap.get? it=some o) (hc:o.cls=.type n) (hd:o.data=.fields vs)
    (hn:["enumerate","zip","dict_itemiterator","dict_reverseitemiterator","odict_iterator","itertools.zip_longest","itertools.pairwise"].contains n=false) (hQ:Q () s):wpAny M A (Ht tg (.ref it) u) Q E s:=by
  unfold Ht
  cases tg <;> first
    | exact Do hQ
    | (cases u <;> first
        | exact Do hQ
        | (refine wo (wpAny_load ho ?_)
           rw[hc,hd]
           show wpAny M A (if (["enumerate","zip","dict_itemiterator","dict_reverseitemiterator","odict_iterator","itertools.zip_longest","itertools.pairwise"].contains n && vs[0]? == some (rawInt _))=true then _ else _) Q E s
           rw[if_neg (by intro h; rw[hn,FA] at h; cases h)]
           exact Do hQ))
noncomputable def Itl (K:cy) (a:Addr):It :=
 ⟨fun i H=>∃ xs x,SqL K H a xs∧xs[i]?=some x,fun i H x H'=>H'=H∧∀ xs,SqL K H a xs→xs[i]?=some x,fun i H=>∃ xs,SqL K H a xs∧xs.length≤i⟩
noncomputable def Itt (K:cy) (a:Addr):It :=
 ⟨fun i H=>∃ xs x,SqT K H a xs∧xs[i]?=some x,fun i H x H'=>H'=H∧∀ xs,SqT K H a xs→xs[i]?=some x,fun i H=>∃ xs,SqT K H a xs∧xs.length≤i⟩
def Itr (lo:Int) (n:Nat):It:=⟨fun i _=>i<n,fun i H x H'=>H'=H∧x=.int (lo+i),fun i _=>n≤i⟩
def qF {P:Dz} (a it:Addr):Turn P w K tg (Itl K a) [it] it (fun i h=>h.IsListIter it a i) where
 mem:=by simp
 obj:=fun i h st b hb=>by
  have e:b=it:=by simpa using hb
  subst e
  obtain⟨o,e,c,d⟩:=st
  exact⟨o,e,fun v z=>by rw[d] at z; cases z⟩
 keep:=fun i h h' st k=>st.at fun o e=>k it (by simp) o e
 item:=by
  intro X hP hw hK hc i pins s σ H E I hf st hg
  subst hP hw hK
  obtain⟨xs,x,hq,hx⟩:=hg
  obtain⟨its,rv,p,hz⟩:=I.list hq
  obtain⟨u,hu,ru⟩:=rv.get hx
  obtain⟨f0,f1,f2,f3,f4,f5⟩:=hf it (by simp)
  refine wpAny_pyNext_list_item st p.isList (x:=u) (by simpa using hu) fun h' st' sb=>?_
  have I1:Inv X pins σ H { s with heap:=h' }:=I.turned (t':=s.toks) (fun b o hb e=>(sb.2 b hb).trans e) f0 f1 f3 f4 f5
  obtain⟨o,e,c,d⟩:=id st'
  exact⟨u,rfl,qU (s:={ s with heap:=h' }) e c d (by decide) ⟨x,H,I1,ru,⟨rfl,fun ys hy=>by rw[I.list_inj hy hq]; exact hx⟩,st',fun b hb=>(hf b hb).1⟩⟩
 done:=by
  intro X hP hw hK hc i pins s σ H E I hf st hg
  subst hP hw hK
  obtain⟨xs,hq,hx⟩:=hg
  obtain⟨its,rv,p,hz⟩:=I.list hq
  obtain⟨f0,f1,f2,f3,f4,f5⟩:=hf it (by simp)
  have hl:=rv.length
  exact wpAny_pyNext_list_end (I.ok.hd hc) st p.isList (by simp; exact Oz14 hx hl) fun h' eb=>⟨rfl,I.turned (t':=s.toks) (fun b o hb e=>eb b o hb e) f0 f1 f3 f4 f5⟩
 self:=fun _ _ _ _ _ st h=>wpAny_pyIter_listiter st h
def oQ {P:Dz} (a it:Addr):Turn P w K tg (Itt K a) [it] it (fun i h=>h.IsTupleIter it a i) where
 mem:=by simp
 obj:=fun i h st b hb=>by
  have e:b=it:=by simpa using hb
  subst e
  obtain⟨o,e,c,d⟩:=st
  exact⟨o,e,fun v z=>by rw[d] at z; cases z⟩
 keep:=fun i h h' st k=>st.at fun o e=>k it (by simp) o e
 item:=by
  intro X hP hw hK hc i pins s σ H E I hf st hg
  subst hP hw hK
  obtain⟨xs,x,hq,hx⟩:=hg
  obtain⟨its,rv,p,hz⟩:=I.tuple hq
  obtain⟨u,hu,ru⟩:=rv.get hx
  obtain⟨f0,f1,f2,f3,f4,f5⟩:=hf it (by simp)
  refine wpAny_pyNext_tuple_item st (show s.heap.IsTuple a its.toArray from p) (x:=u) (by simpa using hu) fun h' st' sb=>?_
  have I1:Inv X pins σ H { s with heap:=h' }:=I.turned (t':=s.toks) (fun b o hb e=>(sb.2 b hb).trans e) f0 f1 f3 f4 f5
  obtain⟨o,e,c,d⟩:=id st'
  exact⟨u,rfl,qU (s:={ s with heap:=h' }) e c d (by decide) ⟨x,H,I1,ru,⟨rfl,fun ys hy=>by rw[I.tuple_inj hy hq]; exact hx⟩,st',fun b hb=>(hf b hb).1⟩⟩
 done:=by
  intro X hP hw hK hc i pins s σ H E I hf st hg
  subst hP hw hK
  obtain⟨xs,hq,hx⟩:=hg
  obtain⟨its,rv,p,hz⟩:=I.tuple hq
  obtain⟨f0,f1,f2,f3,f4,f5⟩:=hf it (by simp)
  have hl:=rv.length
  exact wpAny_pyNext_tuple_end (I.ok.hd hc) st (show s.heap.IsTuple a its.toArray from p) (by simp; exact Oz14 hx hl) fun h' eb=>⟨rfl,I.turned (t':=s.toks) (fun b o hb e=>eb b o hb e) f0 f1 f3 f4 f5⟩
 self:=fun _ _ _ _ _ st h=>wpAny_pyIter_tupleiter st h
def wk {P:Dz} (it:Addr) (lo:Int) (n:Nat):Turn P w K tg (Itr lo n) [it] it (fun i h=>IsRangeIter h it (lo+(i:Nat) * 1) ((n:Int)-(i:Nat)) 1) where
 mem:=by simp
 obj:=fun i h st b hb=>by
  have e:b=it:=by simpa using hb
  subst e
  exact⟨_,st,fun v z=>by
   have z':Data.fields _=Data.cell v:=z
   cases z'⟩
 keep:=fun i h h' st k=>k it (by simp) _ st
 item:=by
  intro X hP hw hK hc i pins s σ H E I hf st hg
  subst hP hw hK
  obtain⟨f0,f1,f2,f3,f4,f5⟩:=hf it (by simp)
  have W:=Walks.range (prog:=X.prog) (w:=X.w) (I.ok.hd hc) it lo 1 n
  refine W.item i s _ _ hg st fun v h' tk hv st' kk=>?_
  obtain⟨t,rfl⟩:=hv
  have I1:Inv X pins σ H { s with heap:=h',toks:=tk }:=I.turned (fun b o hb e=>kk b o (by simpa using hb) e) f0 f1 f3 f4 f5
  refine⟨_,rfl,qU (s:={ s with heap:=h',toks:=tk }) (n:="range_iterator") st' rfl rfl (by decide) ⟨.int (lo+i),H,I1,⟨t,?_⟩,⟨rfl,rfl⟩,st',fun b hb=>(hf b hb).1⟩⟩
  rw[Int.mul_one]
 done:=by
  intro X hP hw hK hc i pins s σ H E I hf st hg
  subst hP hw hK
  obtain⟨f0,f1,f2,f3,f4,f5⟩:=hf it (by simp)
  exact wpAny_pyNext_range_end (I.ok.hd hc) st (by have:n≤i:=hg; omega) fun h' eb=>⟨rfl,I.turned (t':=s.toks) (fun b o hb e=>eb b o hb e) f0 f1 f3 f4 f5⟩
 self:=fun _ _ _ _ _ st h=>wpAny_pyIter_rangeiter st h
section
variable {X:Cx} {tg:Expr}
def wH (K:cy) (tl:TE):TI:=fun σ H R=>tl σ H fun x H1=>∃ a,x=.ref a∧(∃ xs,SqL K H1 a xs)∧R (Itl K a) H1
def Cj (K:cy) (tl:TE):TI:=fun σ H R=>tl σ H fun x H1=>∃ a,x=.ref a∧(∃ xs,SqT K H1 a xs)∧R (Itt K a) H1
def gw {l:Expr} {tl:TE} (hl:PE X l tl):PI X tg l (wH X.K tl):=by
 intro pins s σ H R I h
 refine thn (hl pins s σ H _ I h) fun v s1 ⟨x,H1,I1,r1,q1⟩=>?_
 obtain⟨a,e,⟨xs,hq⟩,q⟩:=q1
 subst e
 cases r1
 obtain⟨its,rv,p,hz⟩:=I1.list hq
 refine Ge p.isList ?_
 refine⟨s1.heap.objs.size,[s1.heap.objs.size],_,_,H1,rfl,I1.kept (t':=s1.toks) fun b o e=>Dl _ e,qF a _,⟨_,Dr _ rfl,rfl,rfl⟩,fun b hb=>?_,q⟩
 have e:b=s1.heap.objs.size:=by simpa using hb
 subst e
 exact I1.fpOk (Nat.le_refl _) (I1.hok.fresh (Nat.le_refl _))
def yl {l:Expr} {tl:TE} (hl:PE X l tl):PI X tg l (Cj X.K tl):=by
 intro pins s σ H R I h
 refine thn (hl pins s σ H _ I h) fun v s1 ⟨x,H1,I1,r1,q1⟩=>?_
 obtain⟨a,e,⟨xs,hq⟩,q⟩:=q1
 subst e
 cases r1
 obtain⟨its,rv,p,hz⟩:=I1.tuple hq
 refine E3 (show s1.heap.IsTuple a its.toArray from p) ?_
 refine⟨s1.heap.objs.size,[s1.heap.objs.size],_,_,H1,rfl,I1.kept (t':=s1.toks) fun b o e=>Dl _ e,oQ a _,⟨_,Dr _ rfl,rfl,rfl⟩,fun b hb=>?_,q⟩
 have e:b=s1.heap.objs.size:=by simpa using hb
 subst e
 exact I1.fpOk (Nat.le_refl _) (I1.hok.fresh (Nat.le_refl _))
def tF {σ:St} {H:Hp} {R:It→Hp→Prop} {hi:Int} {t u v:Tok} (I:Inv X pins σ H s) (h1:-(2 ^ 62)≤lo) (h2:lo<2 ^ 62) (h3:-(2 ^ 62)≤hi) (h4:hi<2 ^ 62)
  (q:R (Itr lo (hi-lo).toNat) H):wpAny (model X.prog X.w) X.A (pyIter (.ref s.heap.objs.size)) (PIE X pins σ tg R) E { s with heap:=s.heap.push { cls:=.type "range",data:=.fields #[.int lo t,.int hi u,.int 1 v] },toks:=tk }:=by
 refine wpAny_pyIter_range (IsRange.new ..) (small_one h1 h2 h3 h4) ?_
 have I1:Inv X pins σ H { s with heap:=s.heap.push { cls:=.type "range",data:=.fields #[.int lo t,.int hi u,.int 1 v] },toks:=tk }:=I.kept fun b o e=>Dl _ e
 refine⟨(s.heap.push { cls:=.type "range",data:=.fields #[.int lo t,.int hi u,.int 1 v] }).objs.size,[(s.heap.push { cls:=.type "range",data:=.fields #[.int lo t,.int hi u,.int 1 v] }).objs.size],_,_,H,rfl,
  I1.kept (t':=tk) fun b o e=>Dl _ e,wk _ lo (hi-lo).toNat,?_,fun b hb=>?_,q⟩
 ·have e1:lo+((0:Nat):Int) * 1=lo:=by simp
  have e2:(((hi-lo).toNat:Nat):Int)-((0:Nat):Int)=Builtin.Range.rangeSize lo hi 1:=by rw[rangeSize_one]; split <;> omega
  show IsRangeIter _ _ (lo+((0:Nat):Int) * 1) ((((hi-lo).toNat:Nat):Int)-((0:Nat):Int)) 1
  rw[e1,e2]
  exact Dr _ rfl
 ·have e:b=(s.heap.push { cls:=.type "range",data:=.fields #[.int lo t,.int hi u,.int 1 v] }).objs.size:=by simpa using hb
  subst e
  exact I1.fpOk (Nat.le_refl _) (I1.hok.fresh (Nat.le_refl _))
def Al (ta:TA):TI:=fun σ H R=>ta σ H fun vs H1=>∃ j:Int,vs=[.int j]∧-(2 ^ 62)≤j∧j<2 ^ 62∧R (Itr 0 j.toNat) H1
def Ak (ta:TA):TI:=fun σ H R=>ta σ H fun vs H1=>∃ i j:Int,vs=[.int i,.int j]∧(-(2 ^ 62)≤i∧i<2 ^ 62∧-(2 ^ 62)≤j∧j<2 ^ 62)∧R (Itr i (j-i).toNat) H1
def iT {a:Expr} {ta:TA} {p pos:Pos} (hg:Gl X "range") (hm:X.mg "range"=none) (ha:PA X [a] ta) (hs:DK [a] X.env=[(false,eval a X.env)]:=by rfl):PI X tg (.Call (.Name "range" p) [a] [] pos) (Al ta):=by
 intro pins s σ H R I h
 refine Call_ (jM I hg hm boot_range (ET (thn (ha pos pins s σ H _ I h) fun us s1 ⟨vs,H1,I1,r1,q1⟩=>?_) hs rfl))
 obtain⟨j,e,q1,q2,q⟩:=q1
 subst e
 cases r1 with
 | cons r rr =>
  cases rr
  obtain⟨t,rfl⟩:=r
  exact call_range_1 (tF I1 (by omega) (by omega) q1 q2 (by simpa using q))
def mF {a b:Expr} {ta:TA} {p pos:Pos} (hg:Gl X "range") (hm:X.mg "range"=none) (ha:PA X [a,b] ta) (hs:DK [a,b] X.env=[(false,eval a X.env),(false,eval b X.env)]:=by rfl) (hs2:DK [b] X.env=[(false,eval b X.env)]:=by rfl) :
  PI X tg (.Call (.Name "range" p) [a,b] [] pos) (Ak ta):=by
 intro pins s σ H R I h
 refine Call_ (jM I hg hm boot_range (ET (thn (ha pos pins s σ H _ I h) fun us s1 ⟨vs,H1,I1,r1,q1⟩=>?_) (by rw[hs,hs2]) (by rw[hs2]; rfl)))
 obtain⟨i,j,e,⟨q1,q2,q3,q4⟩,q⟩:=q1
 subst e
 cases r1 with
 | cons r rr =>
  cases rr with
  | cons r' rr =>
   cases rr
   obtain⟨t,rfl⟩:=r
   obtain⟨t',rfl⟩:=r'
   exact call_range_2 (tF I1 q1 q2 q3 q4 q)
def BK (wi:TI) (g:TG) (tb:TS):TS:=fun D σ H=>wi σ H fun J H1=>∃ W:Nat→Nat→St→Hp→Prop,(∃ m,W 0 m σ H1)∧∀ i m σ H,W i m σ H →
 (J.stop i H∧D.nx σ H)∨(J.go i H∧∃ N:St→Hp→Prop,(∀ σ' H',N σ' H'→∃ m',m'<m∧W (i+1) m' σ' H')∧∀ x H',J.yld i H x H'→g x σ H' fun σ2 H2=>tb { D with nx:=N,ct:=N,bk:=D.nx } σ2 H2)
noncomputable def l6 (fp:List Addr) (h:Heap):List (Addr×Obj):=fp.filterMap fun b=>(h.get? b).map fun o=>(b,o)
def j5 {b:Addr} {o:Obj} (hb:b∈fp) (e:h.get? b=some o):(b,o)∈l6 fp h:=HN.mpr ⟨b,hb,by rw[e]; rfl⟩
def yg {p:Addr×Obj} (hp:p∈l6 fp h):p.1∈fp∧h.get? p.1=some p.2:=by
 obtain⟨b,hb,e⟩:=HN.mp hp
 cases q:h.get? b with
 | none=>rw[q] at e; cases e
 | some o =>
  rw[q] at e
  have e':(b,o)=p:=DP e
  subst e'
  exact⟨hb,q⟩
def Inv.pinned {σ:St} {H:Hp} (I:Inv X pins σ H s) (hf:∀ b∈fp,FpOk X pins H b) (ho:∀ b∈fp,∃ o,s.heap.get? b=some o∧∀ v,o.data≠.cell v):Inv X (pins++l6 fp s.heap) σ H s :=
 I.pins_of fun p hp=>(DV.mp hp).elim (fun z=>I.pin p (DM _ z)) fun z=>by
  obtain⟨hb,e⟩:=yg z
  obtain⟨f0,f1,f2,_⟩:=hf p.1 hb
  obtain⟨o,e',d⟩:=ho p.1 hb
  rw[e] at e'; cases e'
  exact⟨e,f0,f1,f2,d⟩
def Inv.unpinned {pl:List (Addr×Obj)} {σ:St} {H:Hp} (I:Inv X (pins++pl) σ H s):Inv X pins σ H s:=I.pins_of fun p hp=>I.pin p (DM _ (Fd _ hp))
def jx {iter:Expr} {body:List Stmt} {wi:TI} {g:TG} {tb:TS} {pos:Pos} (hp:PassesOwn (model X.prog X.w) X.A X.env X.xe) (hc:X.calm=true) (hi:PI X tg iter wi) (hg:PG X tg g) (hb:PSs X body tb)
  (hs:∀ x,Ib iter X.env x=pure x:=by intro _; rfl):PS X (.For tg iter body [] pos) (BK wi g tb):=by
 intro pins s σ H D I h
 refine wpAny_For (thn (hi pins s σ H _ I h) fun v s1 h1=>thn h1 fun itv s2 h2=>?_) hs
 obtain⟨it,fp,tn,J,H2,e,I2,T,st2,f2,W,⟨m0,w0⟩,turn⟩:=h2
 subst e
 -- what stays true of the iterator's objects through the loop
 have stat:∀ {H':Hp},(∀ b∈fp,H' b=none)→∀ b∈fp,FpOk X pins H' b:=fun hn b hb=>⟨hn b hb,(f2 b hb).2⟩
 refine codeAny_forLoop_any (fun n s'=>∃ i σ' H',Inv X pins σ' H' s'∧tn i s'.heap∧(∀ b∈fp,H' b=none)∧W i n σ' H') ?_ m0 ⟨0,σ,H2,I2,st2,fun b hb=>(f2 b hb).1,w0⟩
 rintro n s3 ⟨i,σ3,H3,I3,st3,fr3,w3⟩
 rcases turn i n σ3 H3 w3 with ⟨stop,qn⟩ | ⟨go,N,hN,step⟩
 ·refine GF hp (thn (T.done X rfl rfl rfl hc i pins s3 σ3 H3 X.xe I3 (stat fr3) st3 stop) fun r s4 ⟨hr,I4⟩=>?_)
  subst hr
  exact GE ⟨σ3,H3,I4,qn⟩
 ·refine GF hp (thn (T.item X rfl rfl rfl hc i pins s3 σ3 H3 X.xe I3 (stat fr3) st3 go) fun r s4 ⟨u,hr,h4⟩=>?_)
  subst hr
  refine GF hp (thn h4 fun _ s5 ⟨x,H5,I5,r5,y5,st5,fr5⟩=>?_)
  have I5':=I5.pinned (stat fr5) (T.obj _ _ st5)
  refine GF hp (thn (hg _ s5 σ3 H5 x u _ I5' r5 (step x H5 y5)) fun _ s6 ⟨σ6,H6,I6,q6⟩=>?_)
  refine GF hp (thn (hb _ s6 σ6 H6 _ I6 q6) fun f s7 q7=>?_)
  have again:∀ {σ7:St} {H7:Hp},Inv X (pins++l6 fp s5.heap) σ7 H7 s7→N σ7 H7→∃ m,m<n∧∃ i σ' H',Inv X pins σ' H' s7∧tn i s7.heap∧(∀ b∈fp,H' b=none)∧W i m σ' H':=fun {σ7 H7} I7 n7=>by
   obtain⟨m',hm,w7⟩:=hN σ7 H7 n7
   refine⟨m',hm,i+1,σ7,H7,I7.unpinned,T.keep _ _ _ st5 fun b hb o e=>(I7.pin (b,o) (DM _ (DM _ (j5 hb e)))).1,fun b hb=>?_,w7⟩
   obtain⟨o,e,d⟩:=T.obj _ _ st5 b hb
   exact (I7.pin (b,o) (DM _ (DM _ (j5 hb e)))).2.1
  cases f with
  | next=>obtain⟨σ7,H7,I7,n7⟩:=q7; exact again I7 n7
  | cont=>obtain⟨σ7,H7,I7,n7⟩:=q7; exact again I7 n7
  | brk=>obtain⟨σ7,H7,I7,q7⟩:=q7; exact⟨σ7,H7,I7.unpinned,q7⟩
  | ret v=>obtain⟨x7,σ7,H7,I7,r7,q7⟩:=q7; exact⟨x7,σ7,H7,I7.unpinned,r7,q7⟩
end
def zS {a:Addr} {xs:List V} {g:TG} {tb:TS} {D:Ends} {σ:St} {H:Hp} (Pv:Nat→St→Hp→Prop) (h0:Pv 0 σ H) (hl:∀ i σ H,i≤xs.length→Pv i σ H→SqL K H a xs)
  (hs:∀ i x σ H,xs[i]?=some x→Pv i σ H→g x σ H fun σ2 H2=>tb { D with nx:=Pv (i+1),ct:=Pv (i+1),bk:=D.nx } σ2 H2) (hd:∀ σ H,Pv xs.length σ H→D.nx σ H) :
  ∃ W:Nat→Nat→St→Hp→Prop,(∃ m,W 0 m σ H)∧∀ i m σ H,W i m σ H →
   ((Itl K a).stop i H∧D.nx σ H)∨((Itl K a).go i H∧∃ N:St→Hp→Prop,(∀ σ' H',N σ' H'→∃ m',m'<m∧W (i+1) m' σ' H')∧∀ x H',(Itl K a).yld i H x H'→g x σ H' fun σ2 H2=>tb { D with nx:=N,ct:=N,bk:=D.nx } σ2 H2):=by
 refine⟨fun i m σ H=>m=xs.length-i∧i≤xs.length∧Pv i σ H,⟨xs.length,by simp,Nat.zero_le _,h0⟩,?_⟩
 rintro i m σ H ⟨rfl,hi,p⟩
 have q:=hl i σ H hi p
 by_cases hlt:i<xs.length
 ·refine .inr ⟨⟨xs,xs[i],q,by simp [hlt]⟩,Pv (i+1),fun σ' H' p'=>⟨xs.length-(i+1),by exact Oz1 hlt,rfl,hlt,p'⟩,fun x H' y=>?_⟩
  obtain⟨e,y⟩:=y
  subst e
  exact hs i x σ _ (y xs q) p
 ·have e:i=xs.length:=by exact Oz10 hi hlt
  subst e
  exact .inl ⟨⟨xs,q,Nat.le_refl _⟩,hd σ H p⟩
def yU {n:Nat} {g:TG} {tb:TS} {D:Ends} {σ:St} {H:Hp} (Pv:Nat→St→Hp→Prop) (h0:Pv 0 σ H)
  (hs:∀ i σ H,i<n→Pv i σ H→g (.int (lo+i)) σ H fun σ2 H2=>tb { D with nx:=Pv (i+1),ct:=Pv (i+1),bk:=D.nx } σ2 H2) (hd:∀ σ H,Pv n σ H→D.nx σ H) :
  ∃ W:Nat→Nat→St→Hp→Prop,(∃ m,W 0 m σ H)∧∀ i m σ H,W i m σ H →
   ((Itr lo n).stop i H∧D.nx σ H)∨((Itr lo n).go i H∧∃ N:St→Hp→Prop,(∀ σ' H',N σ' H'→∃ m',m'<m∧W (i+1) m' σ' H')∧∀ x H',(Itr lo n).yld i H x H'→g x σ H' fun σ2 H2=>tb { D with nx:=N,ct:=N,bk:=D.nx } σ2 H2):=by
 refine⟨fun i m σ H=>m=n-i∧i≤n∧Pv i σ H,⟨n,by simp,Nat.zero_le _,h0⟩,?_⟩
 rintro i m σ H ⟨rfl,hi,p⟩
 by_cases hlt:i<n
 ·refine .inr ⟨hlt,Pv (i+1),fun σ' H' p'=>⟨n-(i+1),by exact Oz1 hlt,rfl,hlt,p'⟩,fun x H' y=>?_⟩
  obtain⟨e,y⟩:=y
  subst e y
  exact hs i σ _ hlt p
 ·have e:i=n:=by exact Oz10 hi hlt
  subst e
  exact .inl ⟨Nat.le_refl _,hd σ H p⟩
abbrev R2:=V→V→Hp→VK→Prop
def OpR (X:Cx) (f:Value→Value→Sem Value) (r:R2):Prop :=
 ∀ (pins:List (Addr×Obj)) (s:Shared) (σ:St) (H:Hp) (x y:V) (v u:Value) (Q:VK),Inv X pins σ H s→RelV x v→RelV y u→r x y H Q →
  wpAny (model X.prog X.w) X.A (f v u) (EP X pins σ Q) X.xe s
def UnR (X:Cx) (f:Value→Sem Value) (r:V→Hp→VK→Prop):Prop :=
 ∀ (pins:List (Addr×Obj)) (s:Shared) (σ:St) (H:Hp) (x:V) (v:Value) (Q:VK),Inv X pins σ H s→RelV x v→r x H Q →
  wpAny (model X.prog X.w) X.A (f v) (EP X pins σ Q) X.xe s
def gU (X:Cx) (f:Value) (r:List V→Hp→VK→Prop):Prop :=
 ∀ (pins:List (Addr×Obj)) (s:Shared) (σ:St) (H:Hp) (xs:List V) (us:List Value) (Q:VK),Inv X pins σ H s→Vals xs us→r xs H Q →
  wpAny (model X.prog X.w) X.A (call f us) (EP X pins σ Q) X.xe s
def tOp (r:R2) (ta tb:TE):TE:=fun σ H Q=>ta σ H fun x H1=>tb σ H1 fun y H2=>r x y H2 Q
def tUn (r:V→Hp→VK→Prop) (ta:TE):TE:=fun σ H Q=>ta σ H fun x H1=>r x H1 Q
def rI (C:Int→Int→Prop) (g:Int→Int→V):R2:=fun x y H Q=>∃ i j,x=.int i∧y=.int j∧C i j∧Q (g i j) H
def rI0 (g:Int→Int→V):R2:=fun x y H Q=>∃ i j,x=.int i∧y=.int j∧Q (g i j) H
def rU (g:Int→V):V→Hp→VK→Prop:=fun x H Q=>∃ i,x=.int i∧Q (g i) H
section
variable {X:Cx} {a b c:Expr} {ta tb tc:TE} {pos:Pos}
def zw (ha:PE X a ta) (hb:PE X b tb) {σ:St} {H:Hp} {R:V→V→Hp→Prop} (I:Inv X pins σ H s)
  (h:ta σ H fun x H1=>tb σ H1 fun y H2=>R x y H2) {Q:Value→Shared→Prop} {f:Value→Value→Sem Value}
  (hf:∀ v u s2 x y H2,Inv X pins σ H2 s2→RelV x v→RelV y u→R x y H2→wpAny (model X.prog X.w) X.A (f v u) Q X.xe s2) :
  wpAny (model X.prog X.w) X.A (eval a X.env) (fun v s₁=>wpAny (model X.prog X.w) X.A (eval b X.env) (fun u s₂=>wpAny (model X.prog X.w) X.A (f v u) Q X.xe s₂) X.xe s₁) X.xe s:=by
 refine thn (ha pins s σ H _ I h) fun v s1 ⟨x,H1,I1,r1,q1⟩=>?_
 refine thn (hb pins s1 σ H1 _ I1 q1) fun u s2 ⟨y,H2,I2,r2,q2⟩=>?_
 exact hf v u s2 x y H2 I2 r1 r2 q2
def bP {op:Operator} {r:R2} (ho:OpR X (FG op) r) (ha:PE X a ta) (hb:PE X b tb):PE X (.BinOp a op b pos) (tOp r ta tb):=by
 intro pins s σ H Q I h
 exact wpAny_BinOp (zw ha hb I h fun v u s2 x y H2 I2 rx ry q=>ho pins s2 σ H2 x y v u Q I2 rx ry q)
def kI {op:UnaryOp} {r:V→Hp→VK→Prop} (ho:UnR X (unaryOp op) r) (ha:PE X a ta):PE X (.UnaryOp op a pos) (tUn r ta):=by
 intro pins s σ H Q I h
 exact UnaryOp_ (thn (ha pins s σ H _ I h) fun v s1 ⟨x,H1,I1,r1,q1⟩=>ho pins s1 σ H1 x v Q I1 r1 q1)
def opI {f:Value→Value→Sem Value} {C:Int→Int→Prop} {g:Int→Int→Int}
  (rule:∀ (i j:Int) (t u:Tok) (s:Shared) (Q:Value→Shared→Prop) (E:Value→Shared→Prop),C i j→Q (.int (g i j) s.toks) { s with toks:=s.toks+1 }→wpAny (model X.prog X.w) X.A (f (.int i t) (.int j u)) Q E s) :
  OpR X f (rI C fun i j=>.int (g i j)):=by
 intro pins s σ H x y v u Q I rx ry h
 obtain⟨i,j,rfl,rfl,hc,q⟩:=h
 obtain⟨t,rfl⟩:=rx
 obtain⟨t',rfl⟩:=ry
 exact rule i j t t' s _ _ hc ⟨.int (g i j),H,I.tok _,⟨_,rfl⟩,q⟩
def CH {f:Value→Value→Sem Value} {g:Int→Int→Int}
  (rule:∀ (i j:Int) (t u:Tok) (s:Shared) (Q:Value→Shared→Prop) (E:Value→Shared→Prop),Q (.int (g i j) s.toks) { s with toks:=s.toks+1 }→wpAny (model X.prog X.w) X.A (f (.int i t) (.int j u)) Q E s) :
  OpR X f (rI0 fun i j=>.int (g i j)):=by
 intro pins s σ H x y v u Q I rx ry h
 obtain⟨i,j,rfl,rfl,q⟩:=h
 obtain⟨t,rfl⟩:=rx
 obtain⟨t',rfl⟩:=ry
 exact rule i j t t' s _ _ ⟨.int (g i j),H,I.tok _,⟨_,rfl⟩,q⟩
def xN {f:Value→Value→Sem Value} {g:Int→Int→Bool}
  (rule:∀ (i j:Int) (t u:Tok) (s:Shared) (Q:Value→Shared→Prop) (E:Value→Shared→Prop),Q (.bool (g i j)) s→wpAny (model X.prog X.w) X.A (f (.int i t) (.int j u)) Q E s) :
  OpR X f (rI0 fun i j=>.bl (g i j)):=by
 intro pins s σ H x y v u Q I rx ry h
 obtain⟨i,j,rfl,rfl,q⟩:=h
 obtain⟨t,rfl⟩:=rx
 obtain⟨t',rfl⟩:=ry
 exact rule i j t t' s _ _ ⟨.bl (g i j),H,I,rfl,q⟩
def CMul (i j:Int):Prop:=(-(2 ^ 64)<i∧i<2 ^ 64)∨(-(2 ^ 64)<j∧j<2 ^ 64)
def CMul.ok {i j:Int} (h:CMul i j):IntMulOk i j:=by
 rcases h with ⟨h1,h2⟩ | ⟨h1,h2⟩
 ·exact .of_left (intBits_le_64 h1 h2)
 ·exact .of_right (intBits_le_64 h1 h2)
def gQ:OpR X (FG .Add) (rI0 fun i j=>.int (i+j)):=CH fun _ _ _ _ _ _ _ q=>add_int q
def jz:OpR X (FG .Sub) (rI0 fun i j=>.int (i-j)):=CH fun _ _ _ _ _ _ _ q=>sub_int q
def ye:OpR X (FG .Mult) (rI CMul fun i j=>.int (i * j)):=opI fun _ _ _ _ _ _ _ hc q=>mul_int q hc.ok
def dF:OpR X (FG .Mod) (rI (fun _ j=>0<j) fun i j=>.int (i % j)):=opI fun i j _ _ _ _ _ hc q=>by
 have h1:(0:Int)<j:=hc
 exact mod_int' (by omega) (by rw[Int.fmod_eq_emod_of_nonneg i (by exact Oz115 hc)]; exact q)
def unI {f:Value→Sem Value} {g:Int→Int}
  (rule:∀ (i:Int) (t:Tok) (s:Shared) (Q:Value→Shared→Prop) (E:Value→Shared→Prop),Q (.int (g i) s.toks) { s with toks:=s.toks+1 }→wpAny (model X.prog X.w) X.A (f (.int i t)) Q E s) :
  UnR X f (rU fun i=>.int (g i)):=by
 intro pins s σ H x v Q I rx h
 obtain⟨i,rfl,q⟩:=h
 obtain⟨t,rfl⟩:=rx
 exact rule i t s _ _ ⟨.int (g i),H,I.tok _,⟨_,rfl⟩,q⟩
def jO:UnR X (unaryOp .USub) (rU fun i=>.int (-i)):=unI fun _ _ _ _ _ q=>neg_int q
end
noncomputable def i9:V→V→Bool
 | .non,.non=>true | .non,.int _=>true | .int _,.non=>true | .non,.bl _=>true | .bl _,.non=>true | .non,.str _=>true | .str _,.non=>true
 | .int _,.int _=>true | .bl _,.bl _=>true | .str _,.str _=>true | .byt _,.byt _=>true
 | .int _,.str _=>true | .str _,.int _=>true | .bl _,.str _=>true | .str _,.bl _=>true
 | _,_=>false
def rEq:R2:=fun x y H Q=>i9 x y=true∧Q (.bl (decide (x=y))) H
def rNe:R2:=fun x y H Q=>i9 x y=true∧Q (.bl (!decide (x=y))) H
def vK {i j:Int}:decide (V.int i=V.int j)=(i == j):=by
 rw[FI]
 simp
def ym {i j:Bool}:decide (V.bl i=V.bl j)=(i == j):=by
 rw[FI]
 simp
def uQ {i j:Str}:decide (V.str i=V.str j)=(i == j):=by
 rw[FI]
 simp
def uV {i j:Array UInt8}:decide (V.byt i=V.byt j)=(i.toList == j.toList):=by
 rw[FI]
 cases i
 cases j
 simp
section
variable {X:Cx} {a b c:Expr} {ta tb tc:TE} {pos:Pos}
def fz {σ:St} {H:Hp} {Q:VK} {k k':Bool} (I:Inv X pins σ H s) (q:Q (.bl k) H) (e:k=k'):EP X pins σ Q (.bool k') s:=by
 subst e
 exact⟨.bl k,H,I,rfl,q⟩
def fk:OpR X (EJ .Eq) rEq:=by
 intro pins s σ H x y v u Q I rx ry h
 obtain⟨hs,q⟩:=h
 cases x with
 | non =>
  cases rx
  cases y with
  | non=>cases ry; exact PySem.EqNone.eq_none_none (fz I q (by simp))
  | bl j=>cases ry; exact PySem.EqNone.eq_none_bool (fz I q (by simp))
  | int j=>obtain⟨t',rfl⟩:=ry; exact PySem.EqNone.eq_none_int (fz I q (by simp))
  | str j=>obtain⟨t',rfl⟩:=ry; exact PySem.EqNone.eq_none_str (fz I q (by simp))
  | _=>exact absurd (show false=true from hs) DC
 | bl i =>
  cases rx
  cases y with
  | non=>cases ry; exact PySem.EqNone.eq_bool_none (fz I q (by simp))
  | bl j=>cases ry; exact eq_bool (fz I q ym)
  | str j=>obtain⟨t',rfl⟩:=ry; exact PySem.EqMixed.eq_bool_str (fz I q (by simp))
  | _=>exact absurd (show false=true from hs) DC
 | int i =>
  obtain⟨t,rfl⟩:=rx
  cases y with
  | non=>cases ry; exact PySem.EqNone.eq_int_none (fz I q (by simp))
  | int j=>obtain⟨t',rfl⟩:=ry; exact eq_int (fz I q vK)
  | str j=>obtain⟨t',rfl⟩:=ry; exact PySem.EqMixed.eq_int_str (fz I q (by simp))
  | _=>exact absurd (show false=true from hs) DC
 | str i =>
  obtain⟨t,rfl⟩:=rx
  cases y with
  | non=>cases ry; exact PySem.EqNone.eq_str_none (fz I q (by simp))
  | bl j=>cases ry; exact PySem.EqMixed.eq_str_bool (fz I q (by simp))
  | int j=>obtain⟨t',rfl⟩:=ry; exact PySem.EqMixed.eq_str_int (fz I q (by simp))
  | str j=>obtain⟨t',rfl⟩:=ry; exact eq_str (fz I q uQ)
  | _=>exact absurd (show false=true from hs) DC
 | byt i =>
  obtain⟨t,rfl⟩:=rx
  cases y with
  | byt j=>obtain⟨t',rfl⟩:=ry; exact PySem.W.eq_bytes (fz I q uV)
  | _=>exact absurd (show false=true from hs) DC
 | _=>cases y <;> exact absurd (show false=true from hs) DC
def nT:OpR X (EJ .NotEq) rNe:=by
 intro pins s σ H x y v u Q I rx ry h
 obtain⟨hs,q⟩:=h
 cases x with
 | non =>
  cases rx
  cases y with
  | non=>cases ry; exact PySem.EqNone.ne_none_none (fz I q (by simp))
  | bl j=>cases ry; exact PySem.EqNone.ne_none_bool (fz I q (by simp))
  | int j=>obtain⟨t',rfl⟩:=ry; exact PySem.EqNone.ne_none_int (fz I q (by simp))
  | str j=>obtain⟨t',rfl⟩:=ry; exact PySem.EqNone.ne_none_str (fz I q (by simp))
  | _=>exact absurd (show false=true from hs) DC
 | bl i =>
  cases rx
  cases y with
  | non=>cases ry; exact PySem.EqNone.ne_bool_none (fz I q (by simp))
  | bl j=>cases ry; exact ne_bool (fz I q (congrArg not ym))
  | str j=>obtain⟨t',rfl⟩:=ry; exact PySem.EqMixed.ne_bool_str (fz I q (by simp))
  | _=>exact absurd (show false=true from hs) DC
 | int i =>
  obtain⟨t,rfl⟩:=rx
  cases y with
  | non=>cases ry; exact PySem.EqNone.ne_int_none (fz I q (by simp))
  | int j=>obtain⟨t',rfl⟩:=ry; exact ne_int (fz I q (congrArg not vK))
  | str j=>obtain⟨t',rfl⟩:=ry; exact PySem.EqMixed.ne_int_str (fz I q (by simp))
  | _=>exact absurd (show false=true from hs) DC
 | str i =>
  obtain⟨t,rfl⟩:=rx
  cases y with
  | non=>cases ry; exact PySem.EqNone.ne_str_none (fz I q (by simp))
  | bl j=>cases ry; exact PySem.EqMixed.ne_str_bool (fz I q (by simp))
  | int j=>obtain⟨t',rfl⟩:=ry; exact PySem.EqMixed.ne_str_int (fz I q (by simp))
  | str j=>obtain⟨t',rfl⟩:=ry; exact ne_str (fz I q (congrArg not uQ))
  | _=>exact absurd (show false=true from hs) DC
 | byt i =>
  obtain⟨t,rfl⟩:=rx
  cases y with
  | byt j=>obtain⟨t',rfl⟩:=ry; exact PySem.W.ne_bytes (fz I q (congrArg not uV))
  | _=>exact absurd (show false=true from hs) DC
 | _=>cases y <;> exact absurd (show false=true from hs) DC
def qX:OpR X (EJ .Lt) (rI0 fun i j=>.bl (decide (i<j))):=xN fun _ _ _ _ _ _ _ q=>lt_int q
def j6:OpR X (EJ .LtE) (rI0 fun i j=>.bl (decide (i≤j))):=xN fun _ _ _ _ _ _ _ q=>le_int q
def wA:OpR X (EJ .Gt) (rI0 fun i j=>.bl (decide (j<i))):=xN fun _ _ _ _ _ _ _ q=>gt_int q
def CL:OpR X (EJ .GtE) (rI0 fun i j=>.bl (decide (j≤i))):=xN fun _ _ _ _ _ _ _ q=>ge_int q
def dm (b:Expr) (h:op≠.In:=by decide) (h2:op≠.NotIn:=by decide):Gd op b=false:=by
 have e1:(op == CmpOp.In)=false:=by cases op <;> first | rfl | exact absurd rfl h
 have e2:(op == CmpOp.NotIn)=false:=by cases op <;> first | rfl | exact absurd rfl h2
 cases b <;> simp [Gd,e1,e2]
def ig {op:CmpOp} {r:R2} (ho:OpR X (EJ op) r) (ha:PE X a ta) (hb:PE X b tb) (hm:Gd op b=false):PE X (.Compare a [op] [b] pos) (tOp r ta tb):=by
 intro pins s σ H Q I h
 exact wpAny_Compare1 (zw ha hb I h fun v u s2 x y H2 I2 rx ry q=>ho pins s2 σ H2 x y v u Q I2 rx ry q) hm
def v5 (t:TE):TT:=fun σ H Q=>t σ H fun x H'=>∃ k,x=.bl k∧Q k H'
def cR {op:CmpOp} {r:R2} (ho:OpR X (EJ op) r) (ha:PE X a ta) (hb:PE X b tb) (hm:Gd op b=false):PT X (.Compare a [op] [b] pos) (v5 (tOp r ta tb)):=by
 intro pins s σ H Q I h
 refine wpAny_isTrue_Compare1 (thn (ha pins s σ H _ I h) fun v s1 ⟨x,H1,I1,r1,q1⟩=>thn (hb pins s1 σ H1 _ I1 q1) fun u s2 ⟨y,H2,I2,r2,q2⟩ =>
  thn (ho pins s2 σ H2 x y v u _ I2 r1 r2 q2) fun c s3 ⟨z,H3,I3,r3,k,e,q3⟩=>?_) hm
 subst e
 cases r3
 exact EE ⟨H3,I3,q3⟩
def sF (r r':R2) (ta tb tc:TE):TE:=fun σ H Q=>ta σ H fun x H1=>tb σ H1 fun y H2=>r x y H2 fun z H3=>∃ k,z=.bl k ∧
 (if k=true then tc σ H3 fun w' H4=>r' y w' H4 Q else Q (.bl false) H3)
def sC {op op':CmpOp} {r r':R2} (ho:OpR X (EJ op) r) (ho':OpR X (EJ op') r') (ha:PE X a ta) (hb:PE X b tb) (hc:PE X c tc)
  (hm:lastMarks [op,op'] [b,c]=false:=by with_unfolding_all rfl):PE X (.Compare a [op,op'] [b,c] pos) (sF r r' ta tb tc):=by
 intro pins s σ H Q I h
 refine Compare_chain (thn (ha pins s σ H _ I h) fun v s1 ⟨x,H1,I1,r1,q1⟩=>chain_link (thn (hb pins s1 σ H1 _ I1 q1) fun u s2 ⟨y,H2,I2,r2,q2⟩ =>
  thn (ho pins s2 σ H2 x y v u _ I2 r1 r2 q2) fun d s3 ⟨z,H3,I3,r3,k,e,q3⟩=>?_)) hm
 subst e
 cases r3
 refine EE ?_
 cases k with
 | false=>exact ite_ff ⟨.bl false,H3,I3,rfl,q3⟩
 | true=>exact ite_tt (chain_last (thn (hc pins s3 σ H3 _ I3 q3) fun w' s4 ⟨z',H4,I4,r4,q4⟩=>ho' pins s4 σ H4 y z' u w' Q I4 r2 r4 q4))
def lM {op op':CmpOp} {r r':R2} (ho:OpR X (EJ op) r) (ho':OpR X (EJ op') r') (ha:PE X a ta) (hb:PE X b tb) (hc:PE X c tc)
  (hm:lastMarks [op,op'] [b,c]=false:=by with_unfolding_all rfl):PT X (.Compare a [op,op'] [b,c] pos) (v5 (sF r r' ta tb tc)):=by
 intro pins s σ H Q I h
 refine isTrue_chain (thn (ha pins s σ H _ I h) fun v s1 ⟨x,H1,I1,r1,q1⟩=>test_link (thn (hb pins s1 σ H1 _ I1 q1) fun u s2 ⟨y,H2,I2,r2,q2⟩ =>
  thn (ho pins s2 σ H2 x y v u _ I2 r1 r2 q2) fun d s3 ⟨z,H3,I3,r3,k,e,q3⟩=>?_)) hm
 subst e
 cases r3
 refine EE ?_
 cases k with
 | false =>
  obtain⟨k',e',q'⟩:=q3
  cases e'
  exact ite_ff ⟨H3,I3,q'⟩
 | true =>
  refine ite_tt (test_last (thn (hc pins s3 σ H3 _ I3 q3) fun w' s4 ⟨z',H4,I4,r4,q4⟩=>thn (ho' pins s4 σ H4 y z' u w' _ I4 r2 r4 q4) fun d' s5 ⟨z2,H5,I5,r5,k2,e2,q5⟩=>?_))
  subst e2
  cases r5
  exact EE ⟨H5,I5,q5⟩
def jQ:(sizeLine:Nat)<2 ^ 63:=by rw[EL]; decide
def wm:OpR X (FG .Add) (fun x y H Q=>∃ i j,x=.str i∧y=.str j∧i.length+j.length≤sizeLine∧Q (.str (i++j)) H):=by
 intro pins s σ H x y v u Q I rx ry h
 obtain⟨i,j,rfl,rfl,hz,q⟩:=h
 obtain⟨t,rfl⟩:=rx
 obtain⟨t',rfl⟩:=ry
 exact add_str (fun t' tk=>⟨.str (i++j),H,I.tok _,⟨_,rfl⟩,q⟩) hz
def vals1 {x:V} (r:Vals [x] us):∃ u,us=[u]∧RelV x u:=by
 cases r with
 | cons r1 r2=>cases r2; exact⟨_,rfl,r1⟩
def vals2 {x y:V} (r:Vals [x,y] us):∃ u w',us=[u,w']∧RelV x u∧RelV y w':=by
 cases r with
 | cons r1 r2 =>
  cases r2 with
  | cons r3 r4=>cases r4; exact⟨_,_,rfl,r1,r3⟩
def xU (hc:X.calm=true):gU X (.builtin "min") (fun xs H Q=>∃ i j,xs=[.int i,.int j]∧Q (.int (if j<i then j else i)) H):=by
 intro pins s σ H xs us Q I r h
 obtain⟨i,j,rfl,q⟩:=h
 obtain⟨u,w',rfl,⟨t,rfl⟩,⟨t',rfl⟩⟩:=vals2 r
 refine min_two_ints (I.ok.hd hc) fun h' tk k=>⟨_,H,I.kept k,?_,q⟩
 by_cases hj:j<i
 ·rw[if_pos hj,if_pos hj]; exact⟨_,rfl⟩
 ·rw[if_neg hj,if_neg hj]; exact⟨_,rfl⟩
end
structure ObjM (h:Heap) (x dx C:Addr) (mA:Str→Option Value):Prop where
 obj:h.get? x=some (Ey C dx)
 ns:h.Ns1 dx mA
 ne:dx≠x
def yz {mA:Str→Option Value} (n:h.Ns1 dx mA):∃ od,h.get? dx=some od∧∀ name,HV name od=some (mA name):=by
 obtain⟨o,es,ep,ho,hd,hk,_,hm⟩:=n
 refine⟨o,ho,fun name=>?_⟩
 have e:=hm name
 unfold nsFind findBy at e
 rw[← Array.find?_toList] at e
 unfold HV
 rw[hd]
 dsimp only
 split
 ·rename_i y q
  rw[q] at e
  exact congrArg some e
 ·rename_i q
  rw[q] at e
  have a:es.toList.any (·.refKey)=false:=by
   rw[List.any_eq_false]
   intro y hy
   obtain⟨z,t,hkey⟩:=hk y (Array.mem_toList_iff.mp hy)
   simp [DictEntry.refKey,hkey]
  have a':¬ es.toList.any (·.refKey)=true:=by rw[a]; exact DC
  rw[if_neg a']
  exact congrArg some e
def ObjM.look {x:Addr} {mA:Str→Option Value} (I:ObjM h x dx C mA):∃ od,PySem.W.InstAt h x (Ey C dx) C (some od)∧∀ name,HV name od=some (mA name) :=
 let ⟨od,ho,hl⟩:=yz I.ns
 ⟨od,⟨I.obj,rfl,rfl,ho⟩,hl⟩
section
variable {prog:Dz} {w:World} {A:Around} {E:Value→Shared→Prop} {s:Shared} {K:cy} {x dx C f:Addr} {mA:Str→Option Value} {name:Str} {v:Value}
def get_map {expr:Bool} {Q:Value→Shared→Prop} (X:K.In s.heap) (I:ObjM s.heap x dx C mA) (hg:Gr K C name=true) (hh:GV K C=true)
  (ha:DG K (.ref C) name=some none) (hv:mA name=some v) (hv':J0 v=true) (h:Q v { s with toks:=s.toks+1 }) :
  wpAny (model prog w) A (getAttr (.ref x) name expr) Q E s:=by
 obtain⟨od,J,hl⟩:=I.look
 exact PySem.W.get_value X J (Hu hg).1 (PySem.W.findObj_own hh ha rfl (by rw[hl,hv])) hv' h
def zH {pl:Sem Bool} {Q:Value×List Value→Shared→Prop} (X:K.In s.heap) (I:ObjM s.heap x dx C mA) (hg:Gr K C name=true)
  (hf:DG K (.ref C) name=some (some (.ref f))) (ht:HP K (.ref f)=true) (hv:mA name=none) (h:Q (.ref f,[.ref x]) s) :
  wpAny (model prog w) A (getMethod (.ref x) name pl) Q E s:=by
 obtain⟨od,J,hl⟩:=I.look
 exact PySem.W.method_fn X J (Hu hg).1 (Hu hg).2 hf (beq_iff_eq.mp ht) (by show (HV name od).map (·.isSome)=some false; rw[hl,hv]; rfl) h
def AM {ns:List Str} {Q:Unit→Shared→Prop} (X:K.In s.heap) (I:ObjM s.heap x dx C mA)
  (hs:DG K (.ref C) "__setattr__"=some (some (.builtin "object.__setattr__"))) (hp:Ic K C=true) (ht:IR K C name=some none) (hh:GV K C=true)
  (hw:JS mA ns) (hsz:ns.length≤sizeLine)
  (h:∀ h',ObjM h' x dx C (fun y=>if y=name then some v else mA y)→Gy dx s.heap h'→Q () { s with heap:=h',toks:=s.toks+2 }) :
  wpAny (model prog w) A (setAttr (.ref x) name v) Q E s:=by
 obtain⟨od,J,hl⟩:=I.look
 refine PySem.W.set_plain X J hs (PySem.W.osa_open (s:={ s with toks:=s.toks+1 }) (r:=none) X J hp ht fun b=>?_)
 obtain⟨cd,hc,hd'⟩:=PySem.W.any_some hh
 have hx:s.heap.get? x=some ⟨.ref C,some dx,.plain,#[]⟩:=I.obj
 refine wo (Do (wo (wo (Jo hx (wo (PySem.W.Looks.here (s:={ s with toks:=s.toks+1 }) (PySem.W.looks_clsIn X hc) ?_))))))
 rw[hd']
 refine Do (a:=some dx) (wo (Do (wo ?_)))
 refine wpAny_nsSet1 (s:={ s with toks:=s.toks+1 }) I.ns fun h' hn2 hs2=>?_
 obtain⟨oD,esD,epD,hoD,hdD,hcD⟩:=hn2.count (PySem.Within.cons name v hw)
 refine wo (wpAny_lookBehind hoD (by rw[hdD]; exact pastItsLine_dict (Nat.le_trans hcD (by rw[DF]; omega))) ?_)
 exact Do (h _ ⟨(hs2.2 _ (E6 I.ne)).trans I.obj,hn2,I.ne⟩ hs2)
def sI {R:Result→Shared→Prop} {vs:List Value} {kw:List (Str×Value)} (X:K.In s.heap) (hm:GG K C=true)
  (hi:DG K (.ref C) "__init__"=some (some (.ref f))) (hf:HW K (.ref f)=some (.type "function"))
  (h:GH (model prog w) (A.under (.builtin "type.__call__" ⟨.ref C::vs,kw⟩)) (.call (.ref f) ⟨.ref (s.heap.objs.size+1)::vs,kw⟩) (J1 (s.heap.objs.size+1) R)
   { s with heap:=(s.heap.push Ej).push (Ey C s.heap.objs.size) }) :
  GH (model prog w) A (.call (.ref C) ⟨vs,kw⟩) R s:=by
 obtain⟨hh,g,d,t,os⟩:=s
 exact JL (IG X hm) (Jj X hi) (fun self=>PySem.W.bind_fn X self hf) (.inl rfl) h
def x8 {R:Result→Shared→Prop} (X:K.In s.heap) (hm:GG K C=true)
  (hi:DG K (.ref C) "__init__"=some (some (.builtin "object.__init__")))
  (hb:∀ self,PySem.W.Looks (model prog w) s.heap (bindSpecial (.builtin "object.__init__") self) (.builtin "object.__init__",[self]))
  (h:GH (model prog w) (A.under (.builtin "type.__call__" ⟨[.ref C],[]⟩)) (.call (.builtin "object.__init__") ⟨[.ref (s.heap.objs.size+1)],[]⟩) (J1 (s.heap.objs.size+1) R)
   { s with heap:=(s.heap.push Ej).push (Ey C s.heap.objs.size) }) :
  GH (model prog w) A (.call (.ref C) ⟨[],[]⟩) R s:=by
 obtain⟨hh,g,d,t,os⟩:=s
 exact JL (IG X hm) (Jj X hi) hb (.inr ⟨rfl,rfl⟩) h
end
noncomputable def gX (f:Str) (v:V):List (Str×V)→List (Str×V)
 | []=>[(f,v)]
 | (g,x)::r=>if g=f then (g,v)::r else (g,x)::gX f v r
theorem nj (f g:Str) (v:V):∀ fs:List (Str×V),(gX f v fs).lookup g=if g=f then some v else fs.lookup g
 | []=>by
  show GW g [(f,v)]=_
  by_cases h:g=f
  ·have hb:(g == f)=true:=beq_iff_eq.mpr h
   simp only [GW,hb,if_pos h]
  ·have hb:(g == f)=false:=beq_eq_false_iff_ne.mpr h
   simp only [GW,hb,if_neg h]
 | (k,x)::r=>by
  have ih:=nj f g v r
  rw[show gX f v ((k,x)::r)=(if k=f then (k,v)::r else (k,x)::gX f v r) from rfl]
  by_cases hk:k=f
  ·rw[if_pos hk]
   by_cases h:g=k
   ·have hb:(g == k)=true:=beq_iff_eq.mpr h
    simp only [GW,hb,if_pos (h.trans hk)]
   ·have hb:(g == k)=false:=beq_eq_false_iff_ne.mpr h
    simp only [GW,hb,if_neg (fun e:g=f=>h (e.trans hk.symm))]
  ·rw[if_neg hk]
   by_cases h:g=k
   ·have hb:(g == k)=true:=beq_iff_eq.mpr h
    simp only [GW,hb,if_neg (fun e:g=f=>hk (h.symm.trans e))]
   ·have hb:(g == k)=false:=beq_eq_false_iff_ne.mpr h
    simp only [GW,hb]
    exact ih
theorem mK (f:Str) (v:V):∀ fs:List (Str×V),f∈(gX f v fs).map (·.1)∧∀ g,g∈fs.map (·.1)→g∈(gX f v fs).map (·.1)
 | []=>⟨by simp [gX],fun g h=>by simp at h⟩
 | (k,x)::r=>by
  obtain⟨i1,i2⟩:=mK f v r
  rw[show gX f v ((k,x)::r)=(if k=f then (k,v)::r else (k,x)::gX f v r) from rfl]
  by_cases hk:k=f
  ·rw[if_pos hk]
   subst hk
   exact⟨by simp,fun g h=>by simpa using h⟩
  ·rw[if_neg hk]
   refine⟨?_,fun g h=>?_⟩
   ·rw[D8]
    exact DI _ i1
   ·rw[D8] at h ⊢
    rcases Du.mp h with e | e
    ·exact Du.mpr (.inl e)
    ·exact DI _ (i2 g e)
theorem nh (f:Str) (v:V):∀ fs:List (Str×V),(gX f v fs).length≤fs.length+1
 | []=>by simp [gX]
 | (k,x)::r=>by
  have ih:=nh f v r
  rw[show gX f v ((k,x)::r)=(if k=f then (k,v)::r else (k,x)::gX f v r) from rfl]
  by_cases hk:k=f
  ·rw[if_pos hk,DF,DF]; omega
  ·rw[if_neg hk,DF,DF]; omega
def RelO.some_of {v:V} {o:Option Value} (r:RelO (some v) o):∃ u,o=some u∧RelV v u:=by
 cases o with
 | none=>exact (show False from r).elim
 | some u=>exact⟨u,rfl,r⟩
def RelO.none_of {o:Option Value} (r:RelO none o):o=none:=by
 cases o with
 | none=>rfl
 | some u=>exact (show False from r).elim
def yQ {v:V} (r:RelV v u):J0 u=true:=by
 cases v with
 | non=>cases (show u=Value.none from r); rfl
 | bl b=>cases (show u=Value.bool b from r); rfl
 | int i=>obtain⟨t,e⟩:=(show ∃ t,u=Value.int i t from r); cases e; rfl
 | str x=>obtain⟨t,e⟩:=(show ∃ t,u=Value.str x t from r); cases e; rfl
 | byt b=>obtain⟨t,e⟩:=(show ∃ t,u=Value.bytes b t from r); cases e; rfl
 | flt b=>obtain⟨t,e⟩:=(show ∃ t,u=Value.float b t from r); cases e; rfl
 | ref a=>cases (show u=Value.ref a from r); rfl
 | ty n=>cases (show u=Value.type n from r); rfl
section
variable {P:Dz} {w:World} {H H':Hp} {h h':Heap} {a C dx:Addr} {fs fs':List (Str×V)}
def pW (hok:HOk P w H h) (e:H a=some (.ins C dx fs)):∃ mA,ObjM h a dx C mA∧(∀ f,RelO (fs.lookup f) (mA f))∧JS mA (fs.map (·.1))∧fs.length≤1000∧H dx=some (.own a):=by
 obtain⟨d,z,ne,ob,mA,n,r,q⟩:=(show ObjOk P w H h a (.ins C dx fs) from hok a _ e)
 exact⟨mA,⟨ob,n,ne⟩,r,q,z,d⟩
end
structure Cls (K:cy) (C:Addr):Prop where
 pg:Gr K C Str.empty=true
 hd:GV K C=true
 po:Ic K C=true
 sa:DG K (.ref C) "__setattr__"=some (some (.builtin "object.__setattr__"))
def Cls.get (c:Cls K C) (f:Str):Gr K C f=true:=c.pg
def NoAttr (K:cy) (C:Addr) (f:Str):Prop:=DG K (.ref C) f=some none
def NoAttr.taker {f:Str} (n:NoAttr K C f):IR K C f=some none:=by
 unfold IR
 rw[show DG K (.ref C) f=some none from n]
 rfl
structure Con (K:cy) (C:Addr) (f:Str) (v:V) (u:Value):Prop where
 at_:DG K (.ref C) f=some (some u)
 rel:RelV v u
 get:EY K u "__get__"=some none
 cp:PySem.W.copiedNames.contains f=false
structure Meth (K:cy) (C:Addr) (m:Str) (f:Addr):Prop where
 at_:DG K (.ref C) m=some (some (.ref f))
 fn:HP K (.ref f)=true
 kp:Es K (.ref f)=true
section
variable {X:Cx} {pins:List (Addr×Obj)} {σ:St} {H:Hp} {s:Shared} {a C dx:Addr} {fs:List (Str×V)} {f:Str} {v:V} {A:Around} {E:Value→Shared→Prop}
def xu {b:Bool} {Q:Value→Shared→Prop} (I:Inv X pins σ H s) (e:H a=some (.ins C dx fs)) (c:Cls X.K C) (n:NoAttr X.K C f) (l:fs.lookup f=some v)
  (h:∀ u s',Inv X pins σ H s'→RelV v u→Q u s'):wpAny (model X.prog X.w) A (getAttr (.ref a) f b) Q E s:=by
 obtain⟨mA,O,r,_,_,_⟩:=pW I.hok e
 obtain⟨u,hu,ru⟩:=RelO.some_of (v:=v) (o:=mA f) (by rw[← l]; exact r f)
 exact get_map I.kIn O (c.get f) c.hd n hu (yQ ru) (h u _ (I.tok _) ru)
def xB {m:Str} {g:Addr} {pl:Sem Bool} {Q:Value×List Value→Shared→Prop} (I:Inv X pins σ H s) (e:H a=some (.ins C dx fs)) (c:Cls X.K C) (k:Meth X.K C m g) (l:fs.lookup m=none)
  (h:Q (.ref g,[.ref a]) s):wpAny (model X.prog X.w) A (getMethod (.ref a) m pl) Q E s:=by
 obtain⟨mA,O,r,_,_,_⟩:=pW I.hok e
 have hn:mA m=none:=RelO.none_of (by rw[← l]; exact r m)
 exact zH I.kIn O (c.get m) k.at_ k.fn hn h
def we {y:V} {Q:Unit→Shared→Prop} (I:Inv X pins σ H s) (e:H a=some (.ins C dx fs)) (c:Cls X.K C) (n:NoAttr X.K C f) (hl:fs.length<1000) (ry:RelV y u)
  (h:∀ s',Inv X pins σ (upd H a (.ins C dx (gX f y fs))) s'→Q () s'):wpAny (model X.prog X.w) A (setAttr (.ref a) f u) Q E s:=by
 obtain⟨mA,O,r,wi,_,ho⟩:=pW I.hok e
 have hz:(fs.map (·.1)).length≤sizeLine:=by rw[iz,EL]; omega
 refine AM I.kIn O c.sa c.po n.taker c.hd wi hz fun h' O' sb=>h _ ?_
 have hd:∃ o,h'.get? dx=some o:=let ⟨o,_,_,e',_⟩:=O'.ns; ⟨o,e'⟩
 refine I.write (x:=a) (e:=dx) (by rw[e]; exact DY) (.inr ho) (fun b q hb z=>(sb.2 b hb).trans z) hd ?_
 refine⟨by rw[aZ O.ne]; exact ho,?_,O.ne,O'.obj,_,O'.ns,fun g=>?_,fun g hg=>?_⟩
 ·have:=nh f y fs; omega
 ·show RelO ((gX f y fs).lookup g) (if g=f then some u else mA g)
  rw[nj]
  by_cases q:g=f
  ·rw[if_pos q,if_pos q]; exact ry
  ·rw[if_neg q,if_neg q]; exact r g
 ·by_cases q:g=f
  ·rw[q]; exact (mK f y fs).1
  ·refine (mK f y fs).2 g (wi g fun z=>hg ?_)
   show (if g=f then some u else mA g)=none
   rw[if_neg q]; exact z
def Inv.made (I:Inv X pins σ H s):Inv X pins σ (upd (upd H s.heap.objs.size (.own (s.heap.objs.size+1))) (s.heap.objs.size+1) (.ins C s.heap.objs.size []))
  { s with heap:=(s.heap.push Ej).push (Ey C s.heap.objs.size) }:=by
 have e1:(s.heap.push Ej).get? s.heap.objs.size=some Ej:=Dr s.heap rfl
 have e2:((s.heap.push Ej).push (Ey C s.heap.objs.size)).get? (s.heap.objs.size+1)=some (Ey C s.heap.objs.size):=by
  have:=Dr (s.heap.push Ej) (o:=Ey C s.heap.objs.size) rfl
  rwa [Fi] at this
 have e3:(s.heap.push Ej).Ns s.heap.objs.size (fun _=>none):=⟨Ej,#[],_,e1,rfl,(fun e he=>absurd he (by simp)),fun _=>rfl⟩
 have I1:=I.laid (a:=s.heap.objs.size) (o:=.own (s.heap.objs.size+1)) (h':=s.heap.push Ej) (t':=s.toks) (fun b u q=>Dl _ q) (Nat.le_refl _) ⟨_,e1⟩
 refine I1.laid (a:=s.heap.objs.size+1) (o:=.ins C s.heap.objs.size []) (t':=s.toks) (fun b u q=>Dl _ q) (Nat.le_of_eq (Fi _ _)) ?_
 have ne:s.heap.objs.size≠s.heap.objs.size+1:=Nat.ne_of_lt (Nat.lt_succ_self _)
 refine⟨by rw[aZ ne,aT],Nat.zero_le _,ne,e2,fun _=>none,(Heap.Ns1.of_empty e3).at fun o q=>Dl _ q,fun _=>DY,fun y hy=>absurd rfl hy⟩
def AU {e:Expr} {Q:Value→Shared→Prop} (hb:Gf e f env (eval e env)=eval e env)
  (h:wpAny (model prog w) A (eval e env) (fun o s₁=>wpAny (model prog w) A (getAttr o f true) Q E s₁) E s):wpAny (model prog w) A (eval (.Attribute e f pos) env) Q E s :=
 Attribute_any_ h (by rw[arm_eval_Attribute,hb])
end
def BP (K:cy) (ta:TE) (f:Str):TE:=fun σ H Q=>ta σ H fun x H1=>∃ a C dx fs v,x=.ref a∧H1 a=some (.ins C dx fs)∧Cls K C∧NoAttr K C f∧fs.lookup f=some v∧Q v H1
def BR (K:cy) (ta tv:TE) (f:Str):TS:=fun D σ H=>tv σ H fun y H1=>ta σ H1 fun x H2=>∃ a C dx fs,x=.ref a∧H2 a=some (.ins C dx fs)∧Cls K C∧NoAttr K C f∧fs.length<1000 ∧
 D.nx σ (upd H2 a (.ins C dx (gX f y fs)))
section
variable {X:Cx} {o e value:Expr} {f:Str} {pos pos' tpos:Pos} {ta tv:TE}
def gz (he:PE X e ta) (hb:Gf e f X.env (eval e X.env)=eval e X.env):PE X (.Attribute e f pos) (BP X.K ta f):=by
 intro pins s σ H Q I h
 refine AU hb (thn (he pins s σ H _ I h) fun u s1 ⟨x,H1,I1,rx,a,C,dx,fs,v,ex,ea,c,n,l,q⟩=>?_)
 subst ex
 obtain rfl:u=Value.ref a:=rx
 exact xu I1 ea c n l fun u' s2 I2 ru=>⟨v,H1,I2,ru,q⟩
def iJ (ha:PE X o ta) (hv:PE X value tv) (hs:Ia value (some (.Attribute o f pos')) pos.line X.env=pure false):PS X (.Assign [.Attribute o f pos'] value pos) (BR X.K ta tv f):=by
 intro pins s σ H D I h
 refine plainObj_wpAny_Assign_Attribute (thn (hv pins s σ H _ I h) fun u s1 ⟨y,H1,I1,ry,q⟩=>thn (ha pins s1 σ H1 _ I1 q) fun ov s2 ⟨x,H2,I2,rx,a,C,dx,fs,ex,ea,c,n,l,q2⟩=>?_) hs
 subst ex
 obtain rfl:ov=Value.ref a:=rx
 exact we I2 ea c n l ry fun s3 I3=>⟨σ,_,I3,q2⟩
end
section
variable {X:Cx} {pins:List (Addr×Obj)} {σ:St} {H:Hp} {s:Shared} {A:Around} {E:Value→Shared→Prop} {Q:Value→Shared→Prop} {c:Value} {b:Bool}
inductive TyOf (K:cy) (H:Hp):V→Value→Prop where
 | non:TyOf K H .non (.type "NoneType")
 | bl (x:Bool):TyOf K H (.bl x) (.type "bool")
 | int (i:Int):TyOf K H (.int i) (.type "int")
 | str (x:Str):TyOf K H (.str x) (.type "str")
 | flt (x:UInt64):TyOf K H (.flt x) (.type "float")
 | lst {a:Addr} {xs:List V} (e:H a=some (.lst xs)):TyOf K H (.ref a) (.type "list")
 | frz {a:Addr} {o:Obj} {xs:List V} (e:H a=some (.frz o (.lst xs))):TyOf K H (.ref a) (.type "list")
 | tup {a:Addr} {xs:List V} (e:H a=some (.tup xs)):TyOf K H (.ref a) (.type "tuple")
 | dK {a:Addr} {kvs:List (Key×V)} (e:H a=some (.dK kvs)):TyOf K H (.ref a) (.type "dict")
 | dT {a:Addr} {kvs:List (List Key×V)} (e:H a=some (.dT kvs)):TyOf K H (.ref a) (.type "dict")
 | ins {a C dx:Addr} {fs:List (Str×V)} (e:H a=some (.ins C dx fs)) (cl:Cls K C) (ha:DG K (.ref C) "__class__"=some (some (.builtin "object.__class__")))
   (hn:EY K (.builtin "object.__class__") "__get__"=some (some (.builtin "getset_descriptor.__get__"))) (htk:FZ K (.builtin "object.__class__")=some true)
   (hm:EG K C (.type "object")=some true):TyOf K H (.ref a) (.ref C)
end
structure Room (k:Nat) (A:Around):Prop where
 hd:A.handled=none
 dp:A.depth+3 * k+5<Jp
 un:A.units+16 * k+200<cLine
def Room.mono {j k:Nat} (r:Room k A) (h:j≤k):Room j A:=⟨r.hd,by have:=r.dp; omega,by have:=r.un; omega⟩
def Room.deeper {k:Nat} (r:Room (k+1) A) (env:Env):Room k (A.deeper env) :=
 ⟨r.hd,by have:=r.dp; show A.depth+1+3 * k+5<_; exact Oz87 this,by have:=r.un; show A.units+3+16 * k+200<_; omega⟩
def Room.in1 {k:Nat} (r:Room (k+1) A):Room k A.in1 :=
 ⟨r.hd,by have:=r.dp; show A.depth+3 * k+5<_; omega,by have:=r.un; show A.units+1+16 * k+200<_; exact Oz91 this⟩
def vQ {kw:List (Str×Value)}:(A.under (.builtin "type.__call__" ⟨.ref C::us,kw⟩)).depth=A.depth+1:=by
 first | rfl | simp [JT,Code.weight,Code.isCreation,Code.isGuard,Code.isCaller,Code.frames,JU,guardIds]
def xM {kw:List (Str×Value)}:(A.under (.builtin "type.__call__" ⟨.ref C::us,kw⟩)).units=A.units+1:=by
 first | rfl | simp [JT,Code.cUnits,Code.frames,JU]
def Room.make {k:Nat} (r:Room (k+1) A) (C:Addr) (us:List Value) (kw:List (Str×Value)):Room k (A.under (.builtin "type.__call__" ⟨.ref C::us,kw⟩)) :=
 ⟨r.hd,by have:=r.dp; rw[vQ]; exact Oz87 this,by have:=r.un; rw[xM]; exact Oz91 this⟩
def Room.depth {k:Nat} (r:Room k A):A.depth<Jp:=by have:=r.dp; omega
def Room.units {k:Nat} (r:Room k A):A.units+64<cLine:=by have:=r.un; omega
def zY:TA:=fun _ H Q=>Q [] H
def xO (ta:TE) (tr:TA):TA:=fun σ H Q=>ta σ H fun x H1=>tr σ H1 fun xs H2=>Q (x::xs) H2
section
variable {X:Cx} {e:Expr} {es:List Expr} {te:TE} {t:TA} {pos:Pos}
def aO:PA X [] zY:=fun _ _ _ _ H Q I h=>Calls.spliced_nil ⟨[],H,I,.nil,h⟩
def aM (ha:PE X e te) (hr:PA X es t) (hs:DK (e::es) X.env=(false,eval e X.env)::DK es X.env:=by rfl):PA X (e::es) (xO te t):=by
 intro pos pins s σ H Q I h
 rw[hs]
 show wpAny _ _ (spliced ((false,eval e X.env)::backTo pos (DK es X.env))) _ _ s
 refine Calls.spliced_cons (thn (ha pins s σ H _ I h) fun u s1 ⟨x,H1,I1,r1,q1⟩=>?_)
 exact thn (hr pos pins s1 σ H1 _ I1 q1) fun us s2 ⟨xs,H2,I2,r2,q2⟩=>⟨x::xs,H2,I2,.cons r1 r2,q2⟩
def BF (t:TA):TE:=fun σ H Q=>t σ H fun xs H1=>xs.length≤sizeLine∧∀ p,H1 p=none→Q (.ref p) (upd H1 p (.tup xs))
def CF (t:TA):TE:=fun σ H Q=>t σ H fun xs H1=>xs.length≤sizeLine∧∀ p,H1 p=none→Q (.ref p) (upd H1 p (.lst xs))
def bX {x1} (h:PA X es t):PE X (.Tuple es x1 pos) (BF t):=by
 intro pins s σ H Q I hq
 refine wpAny_Tuple_spliced (thn (h pos pins s σ H _ I hq) fun us s1 ⟨xs,H1,I1,r,z,q⟩=>⟨by rw[← r.length]; exact z,?_⟩)
 have hf:H1 s1.heap.objs.size=none:=I1.hok.fresh (Nat.le_refl _)
 refine⟨.ref s1.heap.objs.size,upd H1 s1.heap.objs.size (.tup xs),I1.laid (t':=s1.toks) (fun b u e=>Dl _ e) (Nat.le_refl _) ?_,rfl,q _ hf⟩
 exact⟨z,us,r,⟨_,Dr _ rfl,rfl,_,rfl⟩,_,Dr _ rfl,rfl⟩
def fS (h:PA X es t):PE X (.List es pos) (CF t):=by
 intro pins s σ H Q I hq
 refine wpAny_List_spliced (thn (h pos pins s σ H _ I hq) fun us s1 ⟨xs,H1,I1,r,z,q⟩=>⟨by rw[← r.length]; exact z,?_⟩)
 have hf:H1 s1.heap.objs.size=none:=I1.hok.fresh (Nat.le_refl _)
 refine⟨.ref s1.heap.objs.size,upd H1 s1.heap.objs.size (.lst xs),I1.laid (t':=s1.toks) (fun b u e=>Dl _ e) (Nat.le_refl _) ?_,rfl,q _ hf⟩
 exact⟨z,us,0,r,Dr _ rfl⟩
end
abbrev Sp:=List V→Hp→VK→XK→Prop
abbrev CXT:=List Env→Hp→Shared→XK→Value→Shared→Prop
structure Env0 (P:Dz) (w:World) (K:cy) (mg:Str→Option Value) (base:Heap) (A:Around) (outer:List Env) (s:Shared) (H:Hp):Prop where
 frames:A.frames=some outer
 mod:Mod K mg base
 bs:∀ b o,base.get? b=some o→s.heap.get? b=some o∧H b=none
 bsz:base.objs.size≤s.heap.objs.size
 funs:s.heap.FunFrames base outer
 frf:∀ b∈frs outer,H b=none
 hok:HOk P w H s.heap
 bare:Im s.gens
def CE (outer:List Env) (P:Dz) (w:World) (H:Hp) (s:Shared) (Q:VK) (u:Value) (s':Shared):Prop :=
 ∃ v H',s'.os=s.os∧Im s'.gens∧Un (frs outer) [] H H' s.heap s'.heap∧HOk P w H' s'.heap∧RelV v u∧Q v H'
def CR (CX:CXT) (outer:List Env) (P:Dz) (w:World) (H:Hp) (s:Shared) (Q:VK) (E:XK) (r:Result) (s':Shared):Prop :=
 match r with
 | .ok (.ret u)=>CE outer P w H s Q u s'
 | .ok _=>False
 | .error e=>CX outer H s E e s'
structure FnOk (P:Dz) (w:World) (K:cy) (mg:Str→Option Value) (base:Heap) (CX:CXT) (k:Nat) (f:Addr) (fd:DU) (ps:List Str) (sp:Sp):Prop where
 len:∀ vs H Q E,sp vs H Q E→vs.length=ps.length
 run:∀ (A:Around) (outer:List Env) (s:Shared) (H:Hp) (args:Args) (us:List Value) (vs:List V) (Q:VK) (E:XK),Room k A→Env0 P w K mg base A outer s H→IS s fd args (ps.zip us)→Vals vs us→sp vs H Q E →
  GH (model P w) A (.call (.ref f) args) (CR CX outer P w H s Q E) s
def Env0.make {P:Dz} {outer:List Env} {H:Hp} (e:Env0 P w K mg base A outer s H) (C:Addr) (us:List Value) (kw:List (Str×Value)) :
  Env0 P w K mg base (A.under (.builtin "type.__call__" ⟨.ref C::us,kw⟩)) outer s H:=⟨by first | exact e.frames | (simpa [JT,Code.envs,JU,pushEnvs] using e.frames),e.mod,e.bs,e.bsz,e.funs,e.frf,e.hok,e.bare⟩
def Env0.in1 {P:Dz} {outer:List Env} {H:Hp} (e:Env0 P w K mg base A outer s H) :
  Env0 P w K mg base A.in1 outer s H:=⟨e.frames,e.mod,e.bs,e.bsz,e.funs,e.frf,e.hok,e.bare⟩
section
variable {X:Cx} {pins:List (Addr×Obj)} {σ:St} {H:Hp} {s s':Shared}
def Inv.env0 (I:Inv X pins σ H s):Env0 X.prog X.w X.K X.mg X.base X.A X.stack s H :=
 ⟨I.ok.frames,I.ok.mod,I.bs,Nat.le_trans I.ok.bsz I.sz,I.stack,I.stkFree,I.hok,I.bare⟩
def Inv.after {Q:VK} (I:Inv X pins σ H s) (h:CE X.stack X.prog X.w H s Q u s'):EP X pins σ Q u s':=by
 obtain⟨v,H',os,bare,un,hok,r,q⟩:=h
 obtain⟨hh,g,d,t,os'⟩:=s'
 obtain rfl:os'=s.os:=os
 exact⟨v,H',I.call (h':=hh) (g':=g) (d':=d) (t':=t) (ch:=[]) un hok bare (fun b z=>absurd z (by simp)),r,q⟩
end
def nV (sp:Sp) (dvs:List V) (E:XK) (t:TA):TE:=fun σ H Q=>t σ H fun vs H1=>sp (vs++dvs) H1 Q E
def xo (C:Addr) (sp:Sp) (dvs:List V) (E:XK) (t:TA):TE:=fun σ H Q=>t σ H fun vs H1=>∀ x dx,H1 x=none→H1 dx=none→dx≠x →
 sp (.ref x::(vs++dvs)) (upd (upd H1 dx (.own x)) x (.ins C dx [])) (fun v H2=>v=.non∧Q (.ref x) H2) E
def Binds (K:cy) (fd:DU) (ps:List Str) (ds:List Value):Prop :=
 ∀ (s:Shared) (us:List Value),K.In s.heap→(us++ds).length=ps.length→IS s fd ⟨us,[]⟩ (ps.zip (us++ds))
def Binds.all (h:∀ us:List Value,us.length=ps.length→bindArgs fd ⟨us,[]⟩=pure (ps.zip us)):Binds K fd ps []:=fun s us _ hl=>by
 rw[D9] at hl ⊢
 exact .of_eq (h us hl)
def kC (CX:CXT) (X:Cx) (E:XK):Prop:=∀ (pins:List (Addr×Obj)) (σ:St) (H:Hp) (s:Shared) (e:Value) (s':Shared),Inv X pins σ H s→CX X.stack H s E e s'→X.xe e s'
section
variable {X:Cx} {CX:CXT} {k:Nat} {f C:Addr} {fd:DU} {ps:List Str} {sp:Sp} {dvs:List V} {ds:List Value} {E:XK} {x m:Str} {p pos apos:Pos} {e o:Expr} {es:List Expr} {ta:TE} {t:TA}
def yx {σ:St} {H:Hp} {Q:VK} {vs:List V} (F:FnOk X.prog X.w X.K X.mg X.base CX k f fd ps sp) (hr:Room k X.A) (hb:Binds X.K fd ps ds) (hd:Vals dvs ds) (hx:kC CX X E)
  (I:Inv X pins σ H s) (r:Vals vs us) (h:sp (vs++dvs) H Q E):wpAny (model X.prog X.w) X.A (call (.ref f) us) (EP X pins σ Q) X.xe s:=by
 have r2:Vals (vs++dvs) (us++ds):=r.append hd
 have hl:(us++ds).length=ps.length:=by rw[← r2.length]; exact F.len _ _ _ _ h
 refine Gg (F0 (F.run X.A X.stack s H ⟨us,[]⟩ (us++ds) (vs++dvs) Q E hr I.env0 (hb s us I.kIn hl) r2 h) fun r s' hq=>?_)
 cases r with
 | error e=>exact hx pins σ H s e s' I hq
 | ok fl =>
  cases fl with
  | ret u=>exact I.after hq
  | next=>exact EF hq
  | brk=>exact EF hq
  | cont=>exact EF hq
def A4 (F:FnOk X.prog X.w X.K X.mg X.base CX k f fd ps sp) (hr:Room k X.A) (hg:Gl X x) (hm:X.mg x=some (.ref f)) (hk:Es X.K (.ref f)=true) (hb:Binds X.K fd ps ds) (hd:Vals dvs ds) (hx:kC CX X E)
  (ha:PA X (e::es) t) (hdb:(x == ("__debug__":Str))=false:=by decide) (he:DK (e::es) X.env=(false,eval e X.env)::DK es X.env:=by rfl) (hpl:(backTo pos (DK es X.env)).any (·.1)=false:=by rfl) :
  PE X (.Call (.Name x p) (e::es) [] pos) (nV sp dvs E t):=by
 intro pins s σ H Q I h
 refine E4 (jl I hg hm ?_ hdb)
 refine GI (h₀:=X.base) I.ok.mod.kin hk (thn (ha pos pins s σ H _ I h) fun us s1 ⟨vs,H1,I1,r,q⟩=>⟨I1.kIn,?_⟩) he hpl
 exact yx F hr hb hd hx I1 r q
structure Mk (K:cy) (C f:Addr):Prop where
 makes:GG K C=true
 init:DG K (.ref C) "__init__"=some (some (.ref f))
 fn:HP K (.ref f)=true
 kp:Es K (.ref C)=true
def zB {σ:St} {H:Hp} {Q:VK} {vs:List V} (M:Mk X.K C f) (F:FnOk X.prog X.w X.K X.mg X.base CX k f fd ps sp) (hr:Room (k+1) X.A) (hb:Binds X.K fd ps ds) (hd:Vals dvs ds)
  (hx:kC CX X E) (I:Inv X pins σ H s) (r:Vals vs us)
  (h:∀ x dx,H x=none→H dx=none→dx≠x→sp (.ref x::(vs++dvs)) (upd (upd H dx (.own x)) x (.ins C dx [])) (fun v H2=>v=.non∧Q (.ref x) H2) E) :
  wpAny (model X.prog X.w) X.A (call (.ref C) us) (EP X pins σ Q) X.xe s:=by
 have hq:=h (s.heap.objs.size+1) s.heap.objs.size (I.hok.fresh (Nat.le_succ _)) (I.hok.fresh (Nat.le_refl _)) (Nat.ne_of_lt (Nat.lt_succ_self _))
 have I2:=Inv.made (C:=C) I
 have r2:Vals (V.ref (s.heap.objs.size+1)::(vs++dvs)) (Value.ref (s.heap.objs.size+1)::(us++ds)):=.cons rfl (r.append hd)
 have hl:(Value.ref (s.heap.objs.size+1)::us++ds).length=ps.length:=by
  have e:=r2.length
  rw[F.len _ _ _ _ hq] at e
  exact e.symm
 refine Gg (sI (f:=f) I.kIn M.makes M.init (beq_iff_eq.mp M.fn) (F0 (F.run _ X.stack _ _ ⟨Value.ref (s.heap.objs.size+1)::us,[]⟩ (Value.ref (s.heap.objs.size+1)::(us++ds)) _ _ E (hr.make C us [])
  (I2.env0.make C us []) (hb _ (Value.ref (s.heap.objs.size+1)::us) I2.kIn hl) r2 hq) fun r s' hq'=>?_))
 cases r with
 | error e=>exact hx pins σ _ _ e s' I2 hq'
 | ok fl =>
  cases fl with
  | ret u =>
   obtain⟨v,H',I3,rv,ev,q3⟩:=I2.after hq'
   subst ev
   exact⟨rv,⟨V.ref (s.heap.objs.size+1),H',I3,rfl,q3⟩⟩
  | next=>exact EF hq'
  | brk=>exact EF hq'
  | cont=>exact EF hq'
def AV (M:Mk X.K C f) (F:FnOk X.prog X.w X.K X.mg X.base CX k f fd ps sp) (hr:Room (k+1) X.A) (hg:Gl X x) (hm:X.mg x=some (.ref C)) (hb:Binds X.K fd ps ds) (hd:Vals dvs ds) (hx:kC CX X E)
  (ha:PA X (e::es) t) (hdb:(x == ("__debug__":Str))=false:=by decide) (he:DK (e::es) X.env=(false,eval e X.env)::DK es X.env:=by rfl) (hpl:(backTo pos (DK es X.env)).any (·.1)=false:=by rfl) :
  PE X (.Call (.Name x p) (e::es) [] pos) (xo C sp dvs E t):=by
 intro pins s σ H Q I h
 refine E4 (jl I hg hm ?_ hdb)
 refine GI (h₀:=X.base) I.ok.mod.kin M.kp (thn (ha pos pins s σ H _ I h) fun us s1 ⟨vs,H1,I1,r,q⟩=>⟨I1.kIn,?_⟩) he hpl
 exact zB M F hr hb hd hx I1 r q
end
section
variable {X:Cx} {CX:CXT} {k:Nat} {f C:Addr} {fd:DU} {ps ks:List Str} {sp:Sp} {E:XK} {x m:Str} {p pos apos kpos:Pos} {e o:Expr} {es:List Expr} {kws:List IT} {te ta:TE} {t tk:TA} {nm:Option Str}
structure KBinds (K:cy) (fd:DU) (ps ks:List Str) (g:List Value→List Value→List Value) (gV:List V→List V→List V):Prop where
 to:∀ (s:Shared) (us ws:List Value),K.In s.heap→(g us ws).length=ps.length→IS s fd ⟨us,ks.zip ws⟩ (ps.zip (g us ws))
 rel:∀ {vs:List V} {us:List Value} {zs:List V} {ws:List Value},Vals vs us→Vals zs ws→Vals (gV vs zs) (g us ws)
variable {g:List Value→List Value→List Value} {gV:List V→List V→List V}
end
structure FnScope (N P:List Str) (sc:Scope):Prop where
 kind:sc.kind=.function
 co:sc.isCoroutine=false
 gen:sc.isGenerator=false
 nd:N.Nodup
 pre:N.take P.length=P
 par:∀ x∈P,sc.names.lookup x=some .local∨sc.names.lookup x=some .cell
 nofree:∀ y∈sc.names,y.2≠.free
theorem qb {kindOf:Str→Option NameKind} {x:Str}:∀ {binds:List (Str×Value)} {m:Str→Option Value},(∀ v,(x,v) ∉ binds)→bindL kindOf binds m x=m x
 | [],_,_=>rfl
 | (n,v)::r,m,h=>by
  unfold bindL
  rw[qb fun w hw=>h w (DI _ hw)]
  split
  ·have:x≠n:=by rintro rfl; exact h v DX
   simp [this]
  ·rfl
theorem qj {kindOf:Str→Option NameKind} {x:Str}:∀ {binds:List (Str×Value)} {m:Str→Option Value},(∀ v,(x,v) ∉ binds)→bindC kindOf binds m x=m x
 | [],_,_=>rfl
 | (n,v)::r,m,h=>by
  unfold bindC
  rw[qj fun w hw=>h w (DI _ hw)]
  split
  ·rfl
  ·have:x≠n:=by rintro rfl; exact h v DX
   simp [this]
theorem qu {kindOf:Str→Option NameKind} {x:Str} {v:Value}:∀ {P:List Str} {vs:List Value} {i:Nat} {m:Str→Option Value},P.Nodup→P[i]?=some x→vs[i]?=some v→kindOf x=some .local →
  bindL kindOf (P.zip vs) m x=some v
 | [],_,_,_,_,h,_,_=>by simp at h
 | _::_,[],_,_,_,_,h,_=>by simp at h
 | p::P,w::vs,0,m,nd,h1,h2,hk=>by
  simp at h1 h2; subst h1; subst h2
  show bindL kindOf ((p,w)::P.zip vs) m p=_
  unfold bindL
  rw[qb fun v hv=>(Fp.mp nd).1 (IU hv).1,if_pos hk]
  simp
 | p::P,w::vs,i+1,m,nd,h1,h2,hk=>by
  show bindL kindOf ((p,w)::P.zip vs) m x=_
  unfold bindL
  exact qu (i:=i) (Fp.mp nd).2 (by simpa using h1) (by simpa using h2) hk
theorem qq {kindOf:Str→Option NameKind} {x:Str} {v:Value}:∀ {P:List Str} {vs:List Value} {i:Nat} {m:Str→Option Value},P.Nodup→P[i]?=some x→vs[i]?=some v→kindOf x≠some .local →
  bindC kindOf (P.zip vs) m x=some v
 | [],_,_,_,_,h,_,_=>by simp at h
 | _::_,[],_,_,_,_,h,_=>by simp at h
 | p::P,w::vs,0,m,nd,h1,h2,hk=>by
  simp at h1 h2; subst h1; subst h2
  show bindC kindOf ((p,w)::P.zip vs) m p=_
  unfold bindC
  rw[qj fun v hv=>(Fp.mp nd).1 (IU hv).1,if_neg hk]
  simp
 | p::P,w::vs,i+1,m,nd,h1,h2,hk=>by
  show bindC kindOf ((p,w)::P.zip vs) m x=_
  unfold bindC
  exact qq (i:=i) (Fp.mp nd).2 (by simpa using h1) (by simpa using h2) hk
noncomputable def start (N:List Str) (vs:List V):St:=vs.map some++Ez (N.length-vs.length) none
noncomputable def kR (CX:CXT) (P:Dz) (w:World) (K:cy) (mg:Str→Option Value) (base:Heap) (N:List Str) (qual:Str) (scope:Scope) (f:Addr) (cd:Value) (A:Around) (outer:List Env) (s:Shared) (H:Hp) (E:XK):Cx where
 prog:=P
 w:=w
 K:=K
 mg:=mg
 base:=base
 A:=A.deeper (envOfC qual scope s.heap.objs.size f cd)
 N:=N
 s₀:=s
 H₀:=H
 env:=envOfC qual scope s.heap.objs.size f cd
 outer:=outer
 stack:=envOfC qual scope s.heap.objs.size f cd::outer
 ex:=[]
 calm:=true
 fn:=fun _=>true
 pn:=[]
 xe:=fun e s'=>wpAny (model P w) (A.deeper (envOfC qual scope s.heap.objs.size f cd)) (leaving (envOfC qual scope s.heap.objs.size f cd) e) (fun _ s''=>CX outer H s E e s'') (fun e' s''=>CX outer H s E e' s'') s'
def r6 {sc:Scope} {n:Nat} {x:Str} (h:sc.names.lookup x=some .cell):∃ c,(cellsFrom n sc.names []).lookup x=some c:=by
 have q:=IJ sc.names n [] (.inl h)
 exact EN.mp q
def xX {CX:CXT} {P:Dz} {cd:Value} {outer:List Env} {s1:Shared} {H:Hp} {E:XK} {vs:List V}
  (S:FnScope N ps scope) (hd:A.handled=none) (e0:Env0 P w K mg base A outer s H) (hl:vs.length=ps.length) (r:Vals vs us)
  (x:InCallC s s.heap.objs.size (bindL (envOfC qual scope s.heap.objs.size f cd).kindOf (ps.zip us) fun _=>none) (cellsFrom (s.heap.objs.size+1) scope.names []) (bindC (envOfC qual scope s.heap.objs.size f cd).kindOf (ps.zip us) fun _=>none) s1) :
  Inv (kR CX P w K mg base N qual scope f cd A outer s H E) [] (start N vs) H s1:=by
 have hpl:ps.length≤N.length:=by have:=congrArg Jv S.pre; rw[Dt] at this; omega
 obtain⟨h1,tk,rfl,hk⟩:=x.done
 have noA:∀ b:Addr,b ∉ (kR CX P w K mg base N qual scope f cd A outer s H E).ex:=fun b z=>absurd (show b∈([]:List Addr) from z) (by simp)
 refine⟨⟨e0.mod,S.kind,rfl,rfl,Nat.le_refl _,fun y z c h1 h2=>?_,fun y hy=>?_,fun y c _ h=>?_,fun _=>hd,Around.frames_deeper e0.frames,.inr ⟨rfl,rfl⟩,fun b z=>absurd z (noA b),e0.bs,e0.bsz,fun b _ _=>noA b,fun b z=>absurd z (noA b),e0.funs,e0.frf⟩,
  rfl,e0.bare,Un.kept hk,⟨_,x.toInCall.ns,fun i y v h1 h2 h3=>?_⟩,fun y c h=>⟨_,x.cell y c h⟩,e0.hok.fresh (Nat.le_refl _),fun y c h=>?_,fun p hp=>absurd (show p∈([]:List (Addr×Obj)) from hp) (by simp),e0.hok.kept hk,?_⟩
 ·exact name_of_addr x.apart (EM h1) (EM h2)
 ·have hy:scope.names.lookup y=some .cell∨scope.names.lookup y=some .free:=hy
  rcases hy with hy | hy
  ·exact r6 hy
  ·exact absurd rfl (S.nofree _ (EM hy))
 ·exact Nat.le_of_lt (x.above y c (EM h))
 ·have hi:i<vs.length:=by
   unfold start at h2
   by_cases hi:i<vs.length
   ·exact hi
   ·rw[HF (by simpa using hi)] at h2
    rw[GJ] at h2
    split at h2 <;> cases h2
  have ha:vs[i]?=some v:=by
   unfold start at h2
   rw[HX (by simpa using hi),Dq] at h2
   cases e:vs[i]? with
   | none=>rw[e] at h2; cases h2
   | some a=>rw[e] at h2; cases h2; rfl
  obtain⟨u,hu,rv⟩:=r.get ha
  have hp:ps[i]?=some y:=by
   rw[← S.pre,List.getElem?_take_of_lt (by exact Oz13 hl hi)]; exact h1
  have ndP:ps.Nodup:=by rw[← S.pre]; exact S.nd.sublist (List.take_sublist _ _)
  refine⟨u,rv,?_⟩
  rcases S.par y (Ds hp) with k | k
  ·exact .inl ⟨k,qu ndP hp hu k⟩
  ·obtain⟨c,e⟩:=r6 (n:=s.heap.objs.size+1) k
   refine .inr ⟨.inl k,c,e,?_⟩
   have q:=x.cell y c e
   rw[qq ndP hp hu (by show scope.names.lookup y≠_; rw[k]; decide)] at q
   exact q
 ·exact e0.hok.fresh (Nat.le_of_lt (x.above y c (EM h)))
 ·unfold start
  show _=N.length
  rw[Dp,iz,G2]
  omega
def Ax {CX:CXT} {P:Dz} {k:Nat} {name:Str} {params:Arguments} {body:List Stmt} {dV kV doc pm cdv ct oc:Value} {an od:Option Addr}
  {osl:Array (Option Value)} {N ps:List Str} {sp:Sp} (lk:K.lookup f=some ⟨oc,od,.func (Fv name qual params body scope dV kV doc pm an cdv ct),osl⟩) (hcd:G1 K cdv qual=true) (S:FnScope N ps scope)
  (len:∀ vs H Q E,sp vs H Q E→vs.length=ps.length)
  (hbody:∀ (A:Around) (outer:List Env) (s:Shared) (H:Hp) (vs:List V) (Q:VK) (E:XK),Room k (A.deeper (envOfC qual scope s.heap.objs.size f cdv))→sp vs H Q E →
   ∃ t,PSs (kR CX P w K mg base N qual scope f cdv A outer s H E) body t∧t { nx:=fun _ H'=>Q .non H',rt:=Q } (start N vs) H) :
  FnOk P w K mg base CX (k+1) f (Fv name qual params body scope dV kV doc pm an cdv ct) ps sp:=by
 refine⟨len,fun A outer s H args us vs Q E hr e0 hb r hsp=>?_⟩
 have hl:=len _ _ _ _ hsp
 have KX:K.In s.heap:=e0.mod.kin.keeps fun b o e=>(e0.bs b o e).1
 have lim:s.heap.NoLimit:=e0.mod.nolimit.keeps fun b o e=>(e0.bs b o e).1
 have hkind:∀ y∈ps.zip us,scope.names.lookup y.1=some .local∨(scope.names.lookup y.1=some .cell∧((cellsFrom (s.heap.objs.size+1) scope.names []).lookup y.1).isSome=true):=fun ⟨n,v⟩ hy=>by
  rcases S.par n (IU hy).1 with q | q
  ·exact .inl q
  ·exact .inr ⟨q,IJ _ _ _ (.inl q)⟩
 refine codeAny_call_function hr.depth (KX _ _ lk) rfl S.co S.gen rfl (PySem.W.codeRec_of KX hcd) (hb _ _ _ _ ?_)
 refine wpAny_newFunctionEnv_cells S.kind hkind fun env he s1 x=>?_
 subst he
 refine⟨lim.keeps x.toInCall.keep,codeAny_func ?_⟩
 obtain⟨t,ht,hq⟩:=hbody A outer s H vs Q E (hr.deeper _) hsp
 have I:Inv (kR CX P w K mg base N qual scope f cdv A outer s H E) [] (start N vs) H s1:=xX S hr.hd e0 hl r x
 refine Eo (ht [] s1 (start N vs) H _ I hq) (fun fl s' hs=>?_) fun e s' hs=>hs
 have fin:∀ {σ':St} {H':Hp} {v:V} {u:Value},Inv (kR CX P w K mg base N qual scope f cdv A outer s H E) [] σ' H' s'→RelV v u→Q v H'→CE outer P w H s Q u s' :=
  fun {σ' H' v u} J rv q=>⟨v,H',J.os,J.bare,J.base,J.hok,rv,q⟩
 cases fl with
 | ret u =>
  obtain⟨v,σ',H',J,rv,q⟩:=hs
  exact fin J rv q
 | next =>
  obtain⟨σ',H',J,q⟩:=hs
  exact fin (v:=V.non) (u:=Value.none) J rfl q
 | brk =>
  obtain⟨_,_,_,q⟩:=hs
  exact EF q
 | cont =>
  obtain⟨_,_,_,q⟩:=hs
  exact EF q
section
variable {X:Cx} {x:Str} {p pos:Pos} {e:Expr} {es:List Expr} {t:TA} {id T:String} {r:List V→Hp→VK→Prop}
def tCB (r:List V→Hp→VK→Prop) (t:TA):TE:=fun σ H Q=>t σ H fun vs H1=>r vs H1 Q
def cL (hc:gU X (.builtin id) r) (hg:Gl X x) (hm:X.mg x=none) (hv:Eg x=some (.builtin id)) (ha:PA X (e::es) t) (hn:x≠"__name__":=by decide) (hdb:(x == ("__debug__":Str))=false:=by decide)
  (he:DK (e::es) X.env=(false,eval e X.env)::DK es X.env:=by rfl) (hpl:(backTo pos (DK es X.env)).any (·.1)=false:=by rfl):PE X (.Call (.Name x p) (e::es) [] pos) (tCB r t):=by
 intro pins s σ H Q I h
 refine E4 (jM I hg hm hv ?_ hn hdb)
 exact PyProof.Rows.callWith_builtin1 (thn (ha pos pins s σ H _ I h) fun us s1 ⟨vs,H1,I1,r1,q1⟩=>hc pins s1 σ H1 vs us Q I1 r1 q1) he hpl
def gF (hc:gU X (.type T) r) (hg:Gl X x) (hm:X.mg x=none) (hv:Eg x=some (.type T)) (ha:PA X (e::es) t) (hn:x≠"__name__":=by decide) (hdb:(x == ("__debug__":Str))=false:=by decide)
  (he:DK (e::es) X.env=(false,eval e X.env)::DK es X.env:=by rfl) (hpl:(backTo pos (DK es X.env)).any (·.1)=false:=by rfl):PE X (.Call (.Name x p) (e::es) [] pos) (tCB r t):=by
 intro pins s σ H Q I h
 refine E4 (jM I hg hm hv ?_ hn hdb)
 exact ET (thn (ha pos pins s σ H _ I h) fun us s1 ⟨vs,H1,I1,r1,q1⟩=>hc pins s1 σ H1 vs us Q I1 r1 q1) he hpl
end
end _l
variable {H H' H2:_l.Hp} {xs ys vs kx:List _l.V} {v:_l.V} {σ:_l.St} {Q:_l.VK} {X:_l.Cx} {o:_l.HO} {CX:_l.CXT} {sp:_l.Sp} {tb:_l.TS}
namespace _ht
open PySem PyProof.Rows
section
variable {prog:Dz} {w:World} {A:Around} {E:Value→Shared→Prop} {s:Shared}
def cat_tup {t b:Addr} {vs ws:List Value} {Q:Value→Shared→Prop} (ht:IsTup s.heap t vs.toArray) (hb:IsTup s.heap b ws.toArray) (hv:vs≠[])
  (h1:ws=[]→Q (.ref t) s) (h2:ws≠[]→Q (.ref s.heap.objs.size) { s with heap:=s.heap.push { cls:=.type "tuple",data:=.seq (vs++ws).toArray } })
  (hsz:vs.length+ws.length≤sizeLine):wpAny (model prog w) A (FG .Add (.ref t) (.ref b)) Q E s:=by
 obtain⟨⟨cls,dd,data,sl⟩,ho,hc,n,hd⟩:=id ht
 obtain⟨⟨cls2,dd2,data2,sl2⟩,ho2,hc2,n2,hd2⟩:=id hb
 simp only at hc hd hc2 hd2
 subst hc hd hc2 hd2
 have e:vs.toArray++ws.toArray=(vs++ws).toArray:=by simp
 by_cases hw:ws=[]
 ·exact IV ⟨_,ho,rfl⟩ ⟨_,ho2,rfl⟩ Hh Io FY FS (FJ _ _)
   (tuple_addW1 t b vs.toArray ws.toArray n n2 dd dd2 sl sl2 (by simpa using hv) (by simp [hw])) ⟨ho,ho2,h1 hw⟩
 ·refine IV ⟨_,ho,rfl⟩ ⟨_,ho2,rfl⟩ Hh Io FY FS (FJ _ _)
   (tuple_addW2 t b vs.toArray ws.toArray n n2 dd dd2 sl sl2 (by simpa using hv) (by simpa using hw) (by rw[Dk,Dk]; exact hsz)) ⟨ho,ho2,?_⟩
  rw[e]
  exact h2 hw
noncomputable def sIx (n d:Nat):Option Int→Nat
 | none=>d
 | some v=>if v<0 then (v+(n:Int)).toNat else min v.toNat n
def sIx_none (n d:Nat):sIx n d none=d:=rfl
def sIx_nat (n d k:Nat):sIx n d (some (k:Int))=min k n:=by
 show (if (k:Int)<0 then ((k:Int)+(n:Int)).toNat else min (k:Int).toNat n)=min k n
 rw[if_neg (by exact Oz85),EA]
def BY (n d:Nat) (hd:d≤n) (o:Option Int):sIx n d o≤n:=by
 cases o with
 | none=>exact hd
 | some v =>
  show (if v<0 then (v+(n:Int)).toNat else min v.toNat n)≤n
  by_cases hv:v<0
  ·rw[if_pos hv]; omega
  ·rw[if_neg hv]; exact Nat.min_le_right _ _
def vh (v:Int) (n d:Nat):(if v<0 then max (v+(n:Int)) 0 else min v (n:Int))=((sIx n d (some v):Nat):Int):=by
 show (if v<0 then max (v+(n:Int)) 0 else min v (n:Int))=(((if v<0 then (v+(n:Int)).toNat else min v.toNat n):Nat):Int)
 by_cases hv:v<0
 ·simp only [if_pos hv]; omega
 ·simp only [if_neg hv]; omega
def xC (lo hi:Option Int) (n:Nat):Gn lo hi 1 (n:Int)=(((sIx n 0 lo:Nat):Int),((sIx n n hi:Nat):Int)):=by
 have h1:¬ ((1:Int)<0):=by omega
 unfold Gn
 simp only [h1,if_false]
 refine Prod.ext ?_ ?_
 ·cases lo with
  | none=>rfl
  | some v=>exact vh v n 0
 ·cases hi with
  | none=>rfl
  | some v=>exact vh v n n
def xx (i j:Nat):FD (i:Int) (j:Int) 1=j-i:=by
 unfold FD
 have h1:(1:Int) > 0:=by omega
 simp only [h1,if_true,Int.ediv_one]
 split <;> omega
def oG {v:Value} {o:Option Int} {Q:Option Int→Shared→Prop} (p:IsPart v o) (h:Q o s):wpAny (model prog w) A (Builtin.Slice.slicePartIndex v) Q E s:=by
 cases p with
 | none=>exact slicePart_none h
 | int i t=>exact slicePart_int h
def kB {lo hi:Option Int} {n:Nat} {Q:Int×Int×Nat→Shared→Prop} (hs:s.heap.IsSliceOf sl vl vu .none) (pl:IsPart vl lo) (pu:IsPart vu hi)
  (h:Q (((sIx n 0 lo:Nat):Int),1,sIx n n hi-sIx n 0 lo) s):wpAny (model prog w) A (HG (.ref sl) (pure (n:Int))) Q E s:=by
 obtain⟨os,hos,hcs,hds⟩:=id hs
 unfold HG Builtin.Slice.sliceFields
 refine wo (wo (Gw hos hds (x:=vl) rfl (wo (Gw hos hds (x:=vu) rfl (wo (Gw hos hds (x:=.none) rfl (Do ?_)))))))
 refine wo (slicePart_none ?_)
 show wpAny _ _ (if ((1:Int) == 0)=true then _ else _) _ _ s
 rw[if_neg (by decide)]
 refine wo (oG pl (wo (oG pu (wo (Do ?_)))))
 show wpAny _ _ (match Gn lo hi 1 (n:Int) with | (lo,hi)=>pure (lo,(1:Int),FD lo hi 1)) _ _ s
 rw[xC lo hi n]
 show wpAny _ _ (pure (((sIx n 0 lo:Nat):Int),(1:Int),FD ((sIx n 0 lo:Nat):Int) ((sIx n n hi:Nat):Int) 1)) _ _ s
 rw[xx]
 exact Do h
def zX (xs:Array Value) (i k:Nat):((DJ k).filterMap fun (m:Nat)=>xs[((i:Int)+(m:Int) * 1).toNat]?).toArray=((xs.toList.drop i).take k).toArray:=by
 have e:(fun (m:Nat)=>xs[((i:Int)+(m:Int) * 1).toNat]?)=fun m=>xs[i+m]?:=by
  funext m
  have:((i:Int)+(m:Int) * 1).toNat=i+m:=by omega
  rw[this]
 rw[e]
 have:=pick_run xs i k
 rw[List.filterMap_map] at this
 have e2:((fun x=>xs[x]?) ∘ fun x=>i+x)=fun m=>xs[i+m]?:=rfl
 rw[e2] at this
 rw[this]
def getItem_tuple_cut {t:Addr} {lo hi:Option Int} {Q:Value→Shared→Prop} (ht:IsTup s.heap t items) (hs:s.heap.IsSliceOf sl vl vu .none) (pl:IsPart vl lo) (pu:IsPart vu hi)
  (hw:¬ (sIx items.size 0 lo=0∧sIx items.size items.size hi=items.size))
  (h:Q (.ref s.heap.objs.size) { s with heap:=s.heap.push { cls:=.type "tuple",data:=.seq ((items.toList.drop (sIx items.size 0 lo)).take (sIx items.size items.size hi-sIx items.size 0 lo)).toArray } })
  (hsz:items.size≤sizeLine):wpAny (model prog w) A (Ip (.ref t) (.ref sl)) Q E s:=by
 have htake:sizeOk (.seq ((items.toList.drop (sIx items.size 0 lo)).take (sIx items.size items.size hi-sIx items.size 0 lo)).toArray):=by
  show ((items.toList.drop (sIx items.size 0 lo)).take (sIx items.size items.size hi-sIx items.size 0 lo)).toArray.size≤sizeLine
  rw[Dk,Dt,ED,Hs]
  omega
 have hj:sIx items.size items.size hi≤items.size:=BY _ _ (Nat.le_refl _) hi
 obtain⟨os,hos,hcs,hds⟩:=id hs
 have hTs:s.TypeIs (.ref sl) "slice":=⟨os,hos,hcs⟩
 unfold Ip
 try with_reducible refine EK ?_
 first | refine wo (Do ?_) | skip
 refine wo (wpAny_sequenceKey ht.typeIs (by decide) ?_)
 refine wo (Fg (name:=Dj "__getitem__") ht.typeIs Ep
  (Gs Ep ht.typeIs entry_tuple_getitem ?_ (args_tuple_getitem _ _)))
 show wpAny _ _ (HH (.ref t) >>= _) _ _ s
 refine wo (tupleItemsOf_ ht ?_)
 refine wo (wpAny_typeOf hTs ?_)
 rw[if_pos (by decide)]
 refine wo (kB hs pl pu ?_)
 have hno:¬ ((((sIx items.size 0 lo:Nat):Int) == 0 && (1:Int) == 1 && (sIx items.size items.size hi-sIx items.size 0 lo) == items.size)=true):=by
  intro q
  rw[E8,E8] at q
  have q1:((sIx items.size 0 lo:Nat):Int)=0:=eq_of_beq q.1.1
  have q2:sIx items.size items.size hi-sIx items.size 0 lo=items.size:=eq_of_beq q.2
  exact hw ⟨by omega,by omega⟩
 show wpAny _ _ (if (((sIx items.size 0 lo:Nat):Int) == 0 && (1:Int) == 1 && (sIx items.size items.size hi-sIx items.size 0 lo) == items.size)=true then _ else _) _ _ s
 rw[if_neg hno,zX]
 first
  | exact wo (m:=FL _) (Fo (Do ⟨_,rfl,Do h⟩) htake)
  | exact wo (m:=FL _) (Fo (wo (Do (Do ⟨_,rfl,Do h⟩))) htake)
  | exact wo (wo (m:=FL _) (Fo (Do (Do ⟨_,rfl,Do h⟩)) htake))
  | exact wo (wo (m:=FL _) (Fo (Do ⟨_,rfl,Do h⟩) htake))
end
end _ht
namespace _l
open PySem PySem.Spec PyProof.Rows
abbrev TO:=St→Hp→(Option Int→Hp→Prop)→Prop
def PO (X:Cx) (e:Option Expr) (t:TO):Prop :=
 ∀ (pins:List (Addr×Obj)) (s:Shared) (σ:St) (H:Hp) (Q:Option Int→Hp→Prop),Inv X pins σ H s→t σ H Q →
  wpAny (model X.prog X.w) X.A (evalPart e X.env) (fun u s'=>∃ o H',Inv X pins σ H' s'∧IsPart u o∧Q o H') X.xe s
def vd:TO:=fun _ H Q=>Q none H
def Au (t:TE):TO:=fun σ H Q=>t σ H fun x H1=>∃ i,x=.int i∧Q (some i) H1
section
variable {X:Cx} {e:Expr} {te:TE} {lo hi:Option Expr} {tl th:TO} {pos p2:Pos}
def iA:PO X none vd:=by
 intro pins s σ H Q I h
 rw[evalPart_none]
 exact Do ⟨none,H,I,.none,h⟩
def gP (h:PE X e te):PO X (some e) (Au te):=by
 intro pins s σ H Q I hw
 rw[evalPart_some]
 refine thn (h pins s σ H _ I hw) fun u s1 ⟨x,H1,I1,r1,q1⟩=>?_
 obtain⟨i,rfl,q⟩:=q1
 obtain⟨t,rfl⟩:=r1
 exact⟨some i,H1,I1,.int i t,q⟩
def SlR (X:Cx) (r:V→Option Int→Option Int→Hp→VK→Prop):Prop :=
 ∀ (pins:List (Addr×Obj)) (s:Shared) (σ:St) (H:Hp) (x:V) (v vl vu:Value) (lo hi:Option Int) (sl:Addr) (Q:VK),Inv X pins σ H s→RelV x v→s.heap.IsSliceOf sl vl vu .none→IsPart vl lo→IsPart vu hi→r x lo hi H Q →
  ∃ T id,typeLookup (.type T) "__getitem__"=pure (some (.builtin id))∧s.TypeIs v T∧wpAny (model X.prog X.w) X.A (Ip v (.ref sl)) (EP X pins σ Q) X.xe s
def tSl (r:V→Option Int→Option Int→Hp→VK→Prop) (te:TE) (tl th:TO):TE:=fun σ H Q=>te σ H fun x H1=>tl σ H1 fun l H2=>th σ H2 fun u H3=>r x l u H3 Q
def gK {r:V→Option Int→Option Int→Hp→VK→Prop} (hr:SlR X r) (he:PE X e te) (hl:PO X lo tl) (hu:PO X hi th):PE X (.Subscript e (.Slice lo hi none p2) pos) (tSl r te tl th):=by
 intro pins s σ H Q I h
 refine JM (thn (he pins s σ H _ I h) fun v s1 ⟨x,H1,I1,r1,q1⟩=>?_)
 refine wpAny_Slice (thn (hl pins s1 σ H1 _ I1 q1) fun vl s2 ⟨l,H2,I2,pl,q2⟩=>thn (hu pins s2 σ H2 _ I2 q2) fun vu s3 ⟨u,H3,I3,pu,q3⟩=>?_)
 rw[evalPart_none]
 refine Do ?_
 have I4:Inv X pins σ H3 { s3 with heap:=s3.heap.push { cls:=.type "slice",data:=.fields #[vl,vu,.none] } }:=I3.kept (t':=s3.toks) fun b ob q=>Dl _ q
 obtain⟨T,id,hT,ht,hg⟩:=hr pins { s3 with heap:=s3.heap.push { cls:=.type "slice",data:=.fields #[vl,vu,.none] } } σ H3 x v vl vu l u s3.heap.objs.size Q I4 r1 (Heap.IsSliceOf.new ..) pl pu q3
 show wpAny (model X.prog X.w) X.A (subscriptTail e (.Slice lo hi none p2) v (.ref s3.heap.objs.size)) (EP X pins σ Q) X.xe { s3 with heap:=s3.heap.push { cls:=.type "slice",data:=.fields #[vl,vu,.none] } }
 exact tail_any (ops:=[.ref s3.heap.objs.size,v]) ht hT hg (by with_unfolding_all rfl)
noncomputable def gC (xs:List V) (lo hi:Option Int):List V:=(xs.drop (_ht.sIx xs.length 0 lo)).take (_ht.sIx xs.length xs.length hi-_ht.sIx xs.length 0 lo)
def nq (xs:List V) (lo hi:Option Int):(gC xs lo hi).length≤xs.length:=by
 unfold gC
 rw[Dt,ED]
 omega
def Dg (K:cy):V→Option Int→Option Int→Hp→VK→Prop:=fun x lo hi H Q=>∃ a xs,x=.ref a∧SqT K H a xs ∧
 ¬ (_ht.sIx xs.length 0 lo=0∧_ht.sIx xs.length xs.length hi=xs.length)∧∀ p,H p=none→Q (.ref p) (upd H p (.tup (gC xs lo hi)))
def B0:SlR X (Dg X.K):=by
 intro pins s σ H x v vl vu lo hi sl Q I rx hs pl pu h
 obtain⟨a,xs,rfl,hx,hw,q⟩:=h
 cases rx
 obtain⟨its,r,ht,hz⟩:=I.tuple hx
 have hlen:its.toArray.size=xs.length:=by rw[Dk]; exact r.length.symm
 refine⟨"tuple",_,Ep.lookup,ht.typeIs,?_⟩
 refine _ht.getItem_tuple_cut ht hs pl pu (by rw[hlen]; exact hw) ?_ (by rw[hlen]; exact hz)
 rw[hlen]
 refine⟨.ref s.heap.objs.size,_,I.laid (t':=s.toks) (o:=.tup (gC xs lo hi)) (fun b ob q=>Dl _ q) (Nat.le_refl _) ?_,rfl,q _ (I.hok.fresh (Nat.le_refl _))⟩
 exact⟨Nat.le_trans (nq xs lo hi) hz,_,(r.drop (_ht.sIx xs.length 0 lo)).take (_ht.sIx xs.length xs.length hi-_ht.sIx xs.length 0 lo),J5 _ _,_,Dr _ rfl,rfl⟩
def CQ (K:cy):R2:=fun x y H Q=>∃ a b xs ys,x=.ref a∧y=.ref b∧SqT K H a xs∧SqT K H b ys∧xs≠[]∧xs.length+ys.length≤sizeLine ∧
 (ys=[]→Q (.ref a) H)∧(ys≠[]→∀ p,H p=none→Q (.ref p) (upd H p (.tup (xs++ys))))
def Vals.nil_iff (r:Vals xs us):us=[]↔xs=[]:=by
 cases r with
 | nil=>simp
 | cons _ _=>simp
def vo:OpR X (FG .Add) (CQ X.K):=by
 intro pins s σ H x y v u Q I rx ry h
 obtain⟨a,b,xs,ys,rfl,rfl,ha,hb,hx,hz,q1,q2⟩:=h
 cases rx
 cases ry
 obtain⟨its,r1,p1,_⟩:=I.tuple ha
 obtain⟨its2,r2,p2,_⟩:=I.tuple hb
 refine _ht.cat_tup p1 p2 (fun z=>hx (r1.nil_iff.mp z)) (fun z=>⟨.ref a,H,I,rfl,q1 (r2.nil_iff.mp z)⟩) (fun z=>?_) (by rw[← r1.length,← r2.length]; exact hz)
 refine⟨.ref s.heap.objs.size,_,I.laid (t':=s.toks) (o:=.tup (xs++ys)) (fun b ob q=>Dl _ q) (Nat.le_refl _) ?_,rfl,q2 (fun w=>z (r2.nil_iff.mpr w)) _ (I.hok.fresh (Nat.le_refl _))⟩
 exact⟨by rw[Dp]; exact hz,_,r1.append r2,J5 _ _,_,Dr _ rfl,rfl⟩
end
noncomputable def ixN (n:Nat) (i:Int):Option Nat:=if 0≤i then (if i<n then some i.toNat else none) else if -(n:Int)≤i then some (i+n).toNat else none
noncomputable def atI {α:Type} (xs:List α) (i:Int):Option α:=(ixN xs.length i).bind fun j=>xs[j]?
def vD {n:Nat} {i:Int} {j:Nat} (h:ixN n i=some j):seqIndex? i n=some j∧j<n∧-(n:Int)≤i∧i<n:=by
 unfold ixN at h
 by_cases h0:0≤i
 ·rw[if_pos h0] at h
  by_cases h1:i<n
  ·rw[if_pos h1] at h
   have e:i.toNat=j:=DP h
   exact⟨by rw[seqIndex_of h0 h1,e],by omega,by omega,h1⟩
  ·rw[if_neg h1] at h; cases h
 ·rw[if_neg h0] at h
  by_cases h1:-(n:Int)≤i
  ·rw[if_pos h1] at h
   have e:(i+n).toNat=j:=DP h
   exact⟨by rw[seqIndex_neg (by exact Oz45 h0) h1,e],by omega,h1,by omega⟩
  ·rw[if_neg h1] at h; cases h
def pK {α:Type} {xs:List α} {i:Int} {v:α} (h:atI xs i=some v):∃ j,seqIndex? i xs.length=some j∧xs[j]?=some v∧j<xs.length∧-(xs.length:Int)≤i∧i<xs.length:=by
 unfold atI at h
 cases e:ixN xs.length i with
 | none=>rw[e] at h; cases h
 | some j =>
  rw[e] at h
  obtain⟨h1,h2,h3,h4⟩:=vD e
  exact⟨j,h1,h,h2,h3,h4⟩
def dX {α:Type} {xs:List α} {j:Nat} {v:α} (h:xs[j]?=some v):atI xs (j:Int)=some v:=by
 have hj:j<xs.length:=(yp.mp h).1
 have e:ixN xs.length (j:Int)=some j:=by
  unfold ixN
  rw[if_pos (by exact Oz35),if_pos (by exact Oz44 hj)]; simp
 unfold atI; rw[e]; exact h
def nP {α:Type} (xs:List α) (v:α):atI (xs++[v]) (-1)=some v:=by
 have hl:(xs++[v]).length=xs.length+1:=by simp
 have e:ixN (xs++[v]).length (-1)=some xs.length:=by
  unfold ixN
  rw[hl,if_neg (by decide),if_pos (by omega)]
  congr 1
  omega
 unfold atI
 rw[e]
 show (xs++[v])[xs.length]?=some v
 simp
def vf (b:Expr):Prop:=∀ o i,Jw b false o i=operate [o,i] (Ip o i)
def IxR (X:Cx) (r:R2):Prop :=
 ∀ (value slice:Expr) (pins:List (Addr×Obj)) (s:Shared) (σ:St) (H:Hp) (x y:V) (v u:Value) (Q:VK),Inv X pins σ H s→RelV x v→RelV y u→r x y H Q →
  Jw slice false v u=operate [v,u] (Ip v u)→wpAny (model X.prog X.w) X.A (subscriptTail value slice v u) (EP X pins σ Q) X.xe s
def MtR (X:Cx) (id:String) (r:V→List V→Hp→VK→Prop):Prop :=
 ∀ (pins:List (Addr×Obj)) (s:Shared) (σ:St) (H:Hp) (x:V) (xs:List V) (v:Value) (us:List Value) (Q:VK),Inv X pins σ H s→RelV x v→Vals xs us→r x xs H Q →
  wpAny (model X.prog X.w) X.A (call (.builtin id) (v::us)) (EP X pins σ Q) X.xe s
section
variable {X:Cx} {a b:Expr} {ta tb:TE} {pos:Pos}
def IxR.or {r r':R2} (h:IxR X r) (h':IxR X r'):IxR X (fun x y H Q=>r x y H Q∨r' x y H Q):=by
 intro value slice pins s σ H x y v u Q I rx ry q hs
 rcases q with q | q
 ·exact h value slice pins s σ H x y v u Q I rx ry q hs
 ·exact h' value slice pins s σ H x y v u Q I rx ry q hs
def cO {r:R2} (hr:IxR X r) (ha:PE X a ta) (hb:PE X b tb) (hs:vf b):PE X (.Subscript a b pos) (tOp r ta tb):=by
 intro pins s σ H Q I h
 exact JM (zw ha hb I h fun v u s2 x y H2 I2 rx ry q=>hr a b pins s2 σ H2 x y v u Q I2 rx ry q (hs _ _))
def vY (K:cy):R2:=fun x y H Q=>∃ p xs i v,x=.ref p∧y=.int i∧SqL K H p xs∧atI xs i=some v∧Q v H
def tM (K:cy):R2:=fun x y H Q=>∃ p xs i v,x=.ref p∧y=.int i∧SqT K H p xs∧atI xs i=some v∧Q v H
def zP:R2:=fun x y H Q=>∃ z i c,x=.str z∧y=.int i∧z.length≤sizeLine∧atI z.cps.toList i=some c∧Q (.str ⟨#[c]⟩) H
def ix_list:IxR X (vY X.K):=by
 intro value slice pins s σ H x y v u Q I rx ry h hs
 obtain⟨p,xs,i,z,rfl,rfl,hq,he,q⟩:=h
 cases rx
 obtain⟨t,rfl⟩:=ry
 obtain⟨its,r,pl,hz⟩:=I.list hq
 obtain⟨j,h1,h2,h3,h4,h5⟩:=pK he
 obtain⟨w,ew,rw'⟩:=r.get h2
 have hl:=r.length
 have hn:=jQ
 have fin:EP X pins σ Q w s:=⟨z,H,I,rw',q⟩
 by_cases h0:0≤i
 ·have hj:i.toNat=j:=by
   rw[seqIndex_of h0 h5] at h1
   exact DP h1
  exact item_listR pl.isList h0 (by exact Oz37 hz h5 hn) (by rw[hj]; simpa using ew) fin hs
 ·have hj:(i+(its.toArray.size:Int)).toNat=j:=by
   rw[seqIndex_neg (by exact Oz45 h0) h4] at h1
   rw[Dk,← hl]
   exact DP h1
  exact subscriptTail_builtinR (x:=w) pl.isList.typeIs slot_list_getitem.lookup
   (wpAny_getItem_list_neg (Q:=fun r s'=>r=w∧EP X pins σ Q r s') pl.isList (by exact Oz45 h0) (by rw[Dk] <;> omega) (by exact Oz41 hz h4 hn) (by rw[hj]; simpa using ew) ⟨rfl,fin⟩) hs
def ix_tup:IxR X (tM X.K):=by
 intro value slice pins s σ H x y v u Q I rx ry h hs
 obtain⟨p,xs,i,z,rfl,rfl,hq,he,q⟩:=h
 cases rx
 obtain⟨t,rfl⟩:=ry
 obtain⟨its,r,pl,hz⟩:=I.tuple hq
 obtain⟨j,h1,h2,h3,h4,h5⟩:=pK he
 obtain⟨w,ew,rw'⟩:=r.get h2
 have hl:=r.length
 have hn:=jQ
 have fin:EP X pins σ Q w s:=⟨z,H,I,rw',q⟩
 exact subscriptTail_builtinR (x:=w) pl.typeIs slot_tuple_getitem.lookup
  (getItem_tuple (j:=j) (Q:=fun r s'=>r=w∧EP X pins σ Q r s') pl (by exact Oz41 hz h4 hn) (by exact Oz37 hz h5 hn) (by rw[Dk,← hl]; exact h1) (by simpa using ew) ⟨rfl,fin⟩) hs
def ya:IxR X zP:=by
 intro value slice pins s σ H x y v u Q I rx ry h hs
 obtain⟨z,i,c,rfl,rfl,hz,he,q⟩:=h
 obtain⟨t,rfl⟩:=rx
 obtain⟨t',rfl⟩:=ry
 obtain⟨j,h1,h2,h3,h4,h5⟩:=pK he
 have hl:z.cps.toList.length=z.length:=by simp [Str.length]
 rw[hl] at h1 h4 h5
 have hn:=jQ
 exact tail_any (typeIs_str s z t) slot_str_getitem.lookup (getItem_str (c:=c) (by
  have e1:decide (i < -(2 ^ 63:Int))=false:=decide_eq_false (by omega)
  have e2:decide (i ≥ 2 ^ 63)=false:=decide_eq_false (by omega)
  rw[e1,e2,Bool.or_false]) (by rw[h1]; simpa using h2) ⟨.str ⟨#[c]⟩,H,I.tok _,⟨_,rfl⟩,q⟩) hs
def rIx (K:cy):R2:=fun x y H Q=>vY K x y H Q∨tM K x y H Q∨zP x y H Q
def BX:IxR X (rIx X.K):=ix_list.or (ix_tup.or ya)
def vS (its:List Value) (n j:Nat) (u:Value):Eh (·.setIfInBounds j u) { cls:=.type "list",data:=.seq its.toArray n }={ cls:=.type "list",data:=.seq (its.set j u).toArray n }:=by
 simp [Eh]
def Inv.lst {p:Addr} (I:Inv X pins σ H s) (h:H p=some (.lst xs)) :
  ∃ (its:List Value) (n:Nat),Vals xs its∧s.heap.get? p=some { cls:=.type "list",data:=.seq its.toArray n }∧xs.length≤sizeLine:=by
 obtain⟨z,its,n,r,e⟩:=I.hok p _ h
 exact⟨its,n,r,e,z⟩
def Inv.lstUpd {p:Addr} {its':List Value} {n n':Nat} {f:Obj→Obj} (I:Inv X pins σ H s) (h:H p=some (.lst xs))
  (ho:s.heap.get? p=some { cls:=.type "list",data:=.seq its.toArray n }) (hf:f { cls:=.type "list",data:=.seq its.toArray n }={ cls:=.type "list",data:=.seq its'.toArray n' }) (r:Vals ys its') (hz:ys.length≤sizeLine) (t:Nat) :
  Inv X pins σ (upd H p (.lst ys)) { s with heap:=s.heap.update p f,toks:=t }:=by
 have e:(s.heap.update p f).get? p=some { cls:=.type "list",data:=.seq its'.toArray n' }:=by
  rw[IW f ho (by rw[hf] <;> rfl),hf]
 refine I.write (x:=p) (e:=p) (by rw[h]; trivial) (.inl rfl) (fun b u hb q=>(En _ _ (E6 hb)).trans q) ⟨_,e⟩ ?_
 exact⟨hz,its',n',r,e⟩
def Aq:V→V→V→Hp→(Hp→Prop)→Prop:=fun o i v H Q=>∃ p xs k j,o=.ref p∧i=.int k∧H p=some (.lst xs)∧ixN xs.length k=some j∧Q (upd H p (.lst (xs.set j v)))
def set_list:Ci X Aq:=by
 intro pins s σ H o i v ov iv u Q I ro ri rv h
 obtain⟨p,xs,k,j,rfl,rfl,hp,hj,q⟩:=h
 cases ro
 obtain⟨t,rfl⟩:=ri
 obtain⟨its,n,r,ho,hz⟩:=I.lst hp
 obtain⟨h1,h2,h3,h4⟩:=vD hj
 have hl:=r.length
 have hn:=jQ
 have I':Inv X pins σ (upd H p (.lst (xs.set j v))) { s with heap:=s.heap.update p (Eh (·.setIfInBounds j u)) } :=
  I.lstUpd hp ho (vS its n j u) (r.set rv j) (by rw[F3]; exact hz) s.toks
 by_cases h0:0≤k
 ·have hk:k.toNat=j:=by
   rw[seqIndex_of h0 h4] at h1
   exact DP h1
  exact PySem.W.ki_setAt ho h0 (by exact Oz37 hz h4 hn) (by rw[Dk,← hl]; exact h4) (by rw[hk]; exact⟨_,I',q⟩)
 ·have hk:(k+(its.toArray.size:Int)).toNat=j:=by
   rw[seqIndex_neg (by exact Oz45 h0) h3] at h1
   rw[Dk,← hl]
   exact DP h1
  exact PySem.W.ki_setBack ho (by exact Oz45 h0) (by rw[Dk,← hl]; exact h3) (by exact Oz41 hz h3 hn) (by rw[hk]; exact⟨_,I',q⟩)
def tH (lo hi:Option Int) (n:Nat):(GX lo hi none n).1=((_ht.sIx n 0 lo:Nat):Int)∧(GX lo hi none n).2.1=((_ht.sIx n n hi:Nat):Int)∧(GX lo hi none n).2.2=1:=by
 refine⟨?_,?_,rfl⟩
 ·cases lo with
  | none=>simp [GX,_ht.sIx]
  | some i =>
   simp only [GX,_ht.sIx,Option.getD_none,show (1:Int) > 0 by decide,if_true]
   by_cases h:i<0
   ·simp only [h,if_true] <;> exact Oz30 h
   ·simp only [h,if_false] <;> omega
 ·cases hi with
  | none=>simp [GX,_ht.sIx]
  | some i =>
   simp only [GX,_ht.sIx,Option.getD_none,show (1:Int) > 0 by decide,if_true]
   by_cases h:i<0
   ·simp only [h,if_true] <;> exact Oz30 h
   ·simp only [h,if_false] <;> omega
def qK (its:List Value) (lo hi:Option Int):slicePick its.toArray lo hi none=((its.drop (_ht.sIx its.length 0 lo)).take (_ht.sIx its.length its.length hi-_ht.sIx its.length 0 lo)).toArray:=by
 obtain⟨h1,h2,h3⟩:=tH lo hi its.toArray.size
 unfold slicePick
 rw[h1,h2,h3]
 simp only [sliceRange_one,pick_run,Dk] <;> rfl
def BZ (K:cy):V→Option Int→Option Int→Hp→VK→Prop:=fun x lo hi H Q=>∃ a xs,x=.ref a∧SqL K H a xs∧∀ p,H p=none→Q (.ref p) (upd H p (.lst (gC xs lo hi)))
def kX:SlR X (BZ X.K):=by
 intro pins s σ H x v vl vu lo hi sl Q I rx hs pl pu h
 obtain⟨a,xs,rfl,hx,q⟩:=h
 cases rx
 obtain⟨its,r,ht,hz⟩:=I.list hx
 have hlen:=r.length
 refine⟨"list",_,slot_list_getitem.lookup,ht.isList.typeIs,?_⟩
 refine wpAny_getItem_list_slice ht.isList hs pl pu .none (by simp) ?_ (by rw[Dk] <;> exact Oz14 hz hlen)
 rw[qK,← hlen]
 refine⟨.ref s.heap.objs.size,_,I.laid (t':=s.toks) (o:=.lst (gC xs lo hi)) (fun b ob q=>Dl _ q) (Nat.le_refl _) ?_,rfl,q _ (I.hok.fresh (Nat.le_refl _))⟩
 exact⟨Nat.le_trans (nq xs lo hi) hz,_,0,(r.drop (_ht.sIx xs.length 0 lo)).take (_ht.sIx xs.length xs.length hi-_ht.sIx xs.length 0 lo),Dr _ rfl⟩
noncomputable def kN:V→Bool
 | .non=>true
 | .bl _=>true
 | .int _=>true
 | .str _=>true
 | _=>false
noncomputable def eqV:V→V→Bool
 | .non,.non=>true
 | .bl a,.bl b=>a == b
 | .bl a,.int b=>(if a then 1 else 0) == b
 | .int a,.bl b=>a == (if b then 1 else 0)
 | .int a,.int b=>a == b
 | .str a,.str b=>a == b
 | _,_=>false
def BQ {y x:V} {v:Value} (ry:RelV y u) (rx:RelV x v) (fy:kN y=true) (fx:kN x=true):SeqAt.EqAt A s u v (eqV y x):=by
 cases y with
 | non =>
  cases ry
  cases x with
  | non=>cases rx; exact SeqAt.EqAt.same _
  | bl b=>cases rx; exact SeqAt.EqAt.none_bool b
  | int b=>obtain⟨t,rfl⟩:=rx; exact SeqAt.EqAt.none_int b t
  | str b=>obtain⟨t,rfl⟩:=rx; exact SeqAt.EqAt.none_str b t
  | _=>exact absurd (show false=true from fx) DC
 | bl a =>
  cases ry
  cases x with
  | non=>cases rx; exact SeqAt.EqAt.bool_none a
  | bl b=>cases rx; exact SeqAt.EqAt.bool_bool a b
  | int b=>obtain⟨t,rfl⟩:=rx; exact SeqAt.EqAt.bool_int a b t
  | str b=>obtain⟨t,rfl⟩:=rx; exact SeqAt.EqAt.bool_str a b t
  | _=>exact absurd (show false=true from fx) DC
 | int a =>
  obtain⟨t',rfl⟩:=ry
  cases x with
  | non=>cases rx; exact SeqAt.EqAt.int_none a t'
  | bl b=>cases rx; exact SeqAt.EqAt.int_bool a t' b
  | int b=>obtain⟨t,rfl⟩:=rx; exact HQ a t' b t
  | str b=>obtain⟨t,rfl⟩:=rx; exact JD a t' b t
  | _=>exact absurd (show false=true from fx) DC
 | str a =>
  obtain⟨t',rfl⟩:=ry
  cases x with
  | non=>cases rx; exact SeqAt.EqAt.str_none a t'
  | bl b=>cases rx; exact SeqAt.EqAt.str_bool a t' b
  | int b=>obtain⟨t,rfl⟩:=rx; exact JE a t' b t
  | str b=>obtain⟨t,rfl⟩:=rx; exact SeqAt.EqAt.str_str a t' b t
  | _=>exact absurd (show false=true from fx) DC
 | _=>exact absurd (show false=true from fy) DC
noncomputable def eqU (x:V) (u:Value):Bool:=match u with
 | .none=>eqV .non x
 | .bool b=>eqV (.bl b) x
 | .int i _=>eqV (.int i) x
 | .str z _=>eqV (.str z) x
 | _=>false
def yP {x y:V} (r:RelV y u) (f:kN y=true):eqU x u=eqV y x:=by
 cases y with
 | non=>cases r; rfl
 | bl b=>cases r; rfl
 | int i=>obtain⟨t,rfl⟩:=r; rfl
 | str z=>obtain⟨t,rfl⟩:=r; rfl
 | _=>exact absurd (show false=true from f) DC
theorem pC {x:V}:∀ {xs:List V} {us:List Value},Vals xs us→xs.all kN=true→us.any (eqU x)=xs.any fun y=>eqV y x
 | _,_,.nil,_=>rfl
 | y::xs,u::us,.cons r t,f=>by
  rw[GK,E8] at f
  rw[FT,FT,yP r f.1,pC t f.2]
theorem nH {A:Around} {s:Shared} {x:V} {v:Value} (rx:RelV x v) (fx:kN x=true):∀ {xs:List V} {us:List Value},Vals xs us→xs.all kN=true→∀ u∈us,SeqAt.EqAt A s u v (eqU x u)
 | _,_,.nil,_=>fun u hu=>by cases hu
 | y::xs,u::us,.cons r t,f=>fun u' hu=>by
  rw[GK,E8] at f
  rcases Du.mp hu with rfl | hu
  ·rw[yP r f.1]; exact BQ r rx f.1 fx
  ·exact nH rx fx t f.2 u' hu
noncomputable def inV (x:V) (xs:List V):Bool:=xs.any fun y=>eqV y x
def rIn (K:cy) (neg:Bool):R2:=fun x y H Q=>∃ p xs,y=.ref p∧(SqL K H p xs∨SqT K H p xs)∧kN x=true∧xs.all kN=true∧Q (.bl (if neg then !inV x xs else inV x xs)) H
def mD:OpR X (EJ .In) (rIn X.K false):=by
 intro pins s σ H x y v u Q I rx ry h
 obtain⟨p,xs,rfl,hq,fx,fs,q⟩:=h
 cases ry
 rcases hq with hq | hq
 ·obtain⟨its,r,pl,hz⟩:=I.list hq
  refine SeqAt.in_listAt (eqU x) pl.isList (fun w hw=>nH rx fx r fs w (by simpa using hw)) ⟨.bl _,H,I,rfl,?_⟩
  rw[show its.toArray.any (eqU x)=its.any (eqU x) by simp,pC r fs]
  exact q
 ·obtain⟨its,r,pl,hz⟩:=I.tuple hq
  refine SeqAt.in_tupleAt (eqU x) pl (fun w hw=>nH rx fx r fs w (by simpa using hw)) ⟨.bl _,H,I,rfl,?_⟩
  rw[show its.toArray.any (eqU x)=its.any (eqU x) by simp,pC r fs]
  exact q
def cQ:gU X (.builtin "len") (fun xs H Q=>∃ p ys,xs=[.ref p]∧(SqL X.K H p ys∨SqT X.K H p ys)∧Q (.int ys.length) H):=by
 intro pins s σ H xs us Q I r h
 obtain⟨p,ys,rfl,hq,q⟩:=h
 obtain⟨u,rfl,rx⟩:=vals1 r
 cases rx
 have hn:=jQ
 rcases hq with hq | hq
 ·obtain⟨its,r',pl,hz⟩:=I.list hq
  have hlen:=r'.length
  exact Calls.call_len_list pl.isList (by simp only [Dk] <;> exact Oz109 hn hz hlen) ⟨.int ys.length,H,I.tok _,⟨s.toks+1,by rw[Dk,hlen]⟩,q⟩
 ·obtain⟨its,r',pl,hz⟩:=I.tuple hq
  have hlen:=r'.length
  exact len_tuple pl (by simp only [Dk] <;> exact Oz109 hn hz hlen) ⟨.int ys.length,H,I.tok _,⟨s.toks+1,by rw[Dk,hlen]⟩,q⟩
def rM:gU X (.builtin "len") (fun xs H Q=>∃ z,xs=[.str z]∧z.length≤sizeLine∧Q (.int z.length) H):=by
 intro pins s σ H xs us Q I r h
 obtain⟨z,rfl,hz,q⟩:=h
 obtain⟨u,rfl,t,rfl⟩:=vals1 r
 have hn:=jQ
 exact len_str (by omega) ⟨.int z.length,H,I.tok _,⟨_,rfl⟩,q⟩
def iU:gU X (.type "list") (fun xs H Q=>∃ p ys,xs=[.ref p]∧(SqL X.K H p ys∨SqT X.K H p ys)∧∀ l,H l=none→Q (.ref l) (upd H l (.lst ys))):=by
 intro pins s σ H xs us Q I r h
 obtain⟨p,ys,rfl,hq,q⟩:=h
 obtain⟨u,rfl,rx⟩:=vals1 r
 cases rx
 have fin:∀ (its:List Value),Vals ys its→ys.length≤sizeLine→∀ (h':Heap) (c':Nat),(∀ b o',s.heap.get? b=some o'→h'.get? b=some o') →
   h'.get? s.heap.objs.size=some { cls:=.type "list",dict:=none,data:=.seq its.toArray c',slots:=#[] }→EP X pins σ Q (.ref s.heap.objs.size) { s with heap:=h' }:=fun its r' hz h' c' kp e =>
  ⟨.ref s.heap.objs.size,_,I.laid (t':=s.toks) kp (Nat.le_refl _) (show ObjOk X.prog X.w _ h' _ (.lst ys) from ⟨hz,its,c',r',e⟩),rfl,q _ (I.hok.fresh (Nat.le_refl _))⟩
 rcases hq with hq | hq
 ·obtain⟨its,r',pl,hz⟩:=I.list hq
  have hlen:=r'.length
  obtain⟨o,ho,hc,n,hd⟩:=pl.isList
  exact call_list_seq p (.inl rfl) ho hc hd (fun h' c' kp e=>fin its r' hz h' c' kp e) (by simp only [Dk] <;> exact Oz14 hz hlen)
 ·obtain⟨its,r',pl,hz⟩:=I.tuple hq
  have hlen:=r'.length
  obtain⟨o,ho,hc,n,hd⟩:=pl
  exact call_list_seq p (.inr rfl) ho hc hd (fun h' c' kp e=>fin its r' hz h' c' kp e) (by simp only [Dk] <;> exact Oz14 hz hlen)
def jV:gU X (.type "tuple") (fun xs H Q=>∃ p ys,xs=[.ref p]∧((SqL X.K H p ys∧∀ l,H l=none→Q (.ref l) (upd H l (.tup ys)))∨(SqT X.K H p ys∧Q (.ref p) H))):=by
 intro pins s σ H xs us Q I r h
 obtain⟨p,ys,rfl,h⟩:=h
 obtain⟨u,rfl,rx⟩:=vals1 r
 cases rx
 rcases h with ⟨hq,q⟩ | ⟨hq,q⟩
 ·obtain⟨its,r',pl,hz⟩:=I.list hq
  have hlen:=r'.length
  refine call_tuple_list pl.isList (fun h' kp=>?_) (by simp only [Dk] <;> exact Oz14 hz hlen)
  have I1:Inv X pins σ H { s with heap:=h' }:=I.kept (t':=s.toks) kp
  have I2:Inv X pins σ (upd H h'.objs.size (.tup ys)) { s with heap:=h'.push { cls:=.type "tuple",data:=.seq its.toArray } } :=
   I1.laid (t':=s.toks) (fun b o e=>Dl _ e) (Nat.le_refl _) (show ObjOk X.prog X.w _ _ _ (.tup ys) from ⟨hz,its,r',J5 _ _,_,Dr _ rfl,rfl⟩)
  exact⟨.ref h'.objs.size,_,I2,rfl,q _ (I1.hok.fresh (Nat.le_refl _))⟩
 ·obtain⟨its,r',pl,hz⟩:=I.tuple hq
  exact call_tuple_same pl ⟨.ref p,H,I,rfl,q⟩
def tyV (K:cy) (T:String) (x:V) (H:Hp):Prop:=match x with
 | .str _=>T = "str"
 | .int _=>T = "int"
 | .ref p=>(T = "list"∧∃ xs,SqL K H p xs)∨(T = "tuple"∧∃ o,K.lookup p=some o∧o.cls=.type "tuple"∧o.dict=none) ∨
   (T = "dict"∧((∃ kvs,H p=some (.dK kvs))∨∃ kvs,H p=some (.dT kvs)))∨(T = "set"∧∃ S n,H p=some (.set S n))
 | _=>False
def zl {T:String} {x:V} {v:Value} (I:Inv X pins σ H s) (r:RelV x v) (ty:tyV X.K T x H) :
  s.TypeIs v T∧∀ a,v=.ref a→∃ ob,s.heap.get? a=some ob∧ob.dict=none:=by
 cases x with
 | str z =>
  obtain⟨t,rfl⟩:=r
  cases (show T = "str" from ty)
  exact⟨typeIs_str s z t,fun _ e=>nomatch e⟩
 | int i =>
  obtain⟨t,rfl⟩:=r
  cases (show T = "int" from ty)
  exact⟨typeIs_int s i t,fun _ e=>nomatch e⟩
 | ref p =>
  cases r
  rcases ty with ⟨rfl,xs,hq⟩ | ⟨rfl,o,hk,hc,hd⟩ | ⟨rfl,hk⟩ | ⟨rfl,S,n,hk⟩
  ·obtain⟨its,_,pl,_⟩:=I.list hq
   refine⟨pl.isList.typeIs,fun a e=>?_⟩
   cases e
   obtain⟨o,n,e,c,hd,_⟩:=pl
   exact⟨o,e,hd⟩
  ·refine⟨⟨o,I.kIn p o hk,hc⟩,fun a e=>?_⟩
   cases e
   exact⟨o,I.kIn _ o hk,hd⟩
  ·have z:∃ o,s.heap.get? p=some o∧o.ExactDict:=by
    rcases hk with ⟨kvs,hk⟩ | ⟨kvs,hk⟩
    ·obtain⟨_,_,_,_,o,_,_,e,ex,_⟩:=I.hok p _ hk
     exact⟨o,e,ex⟩
    ·obtain⟨_,_,_,_,o,_,_,e,ex,_⟩:=I.hok p _ hk
     exact⟨o,e,ex⟩
   obtain⟨o,e,ex⟩:=z
   refine⟨⟨o,e,ex.1⟩,fun a e2=>?_⟩
   cases e2
   exact⟨o,e,ex.2.1⟩
  ·obtain⟨o,_,_,_,e,ex,_⟩:=I.hok p _ hk
   refine⟨⟨o,e,ex.1⟩,fun a e2=>?_⟩
   cases e2
   exact⟨o,e,ex.2.1⟩
 | _=>exact EF ty
def z4 (K:cy) (T:String) (r:V→List V→Hp→VK→Prop) (to:TE):TE:=fun σ H Q=>to σ H fun x H1=>tyV K T x H1∧r x [] H1 Q
def tBM (K:cy) (T:String) (r:V→List V→Hp→VK→Prop) (to:TE) (t:TA):TE:=fun σ H Q=>to σ H fun x H1=>tyV K T x H1∧t σ H1 fun xs H2=>r x xs H2 Q
variable {o e:Expr} {es:List Expr} {to:TE} {t:TA} {name:Str} {apos cpos:Pos} {T id:String} {r:V→List V→Hp→VK→Prop}
def BL (pa:PlainAttrs T) (slot:Slot T name id) (hty:typeOf (.builtin id)=pure (.type "method_descriptor")) (hm:MtR X id r) (ho:PE X o to)
  (hbase:Gf o name X.env (eval o X.env)=eval o X.env:=by rfl) (hline:(apos.endLine == cpos.line)=true:=by rfl):PE X (.Call (.Attribute o name apos) [] [] cpos) (z4 X.K T r to):=by
 intro pins s σ H Q I h
 refine wpAny_Call_method0_late hbase hline (thn (ho pins s σ H _ I h) fun v s1 ⟨x,H1,I1,r1,ty,q1⟩=>?_)
 obtain⟨h1,h2⟩:=zl I1 r1 ty
 exact⟨T,id,pa,slot,hty,h1,h2,IK rfl (PySem.evalArgs_none (hm pins s1 σ H1 x [] v [] Q I1 r1 .nil q1))⟩
def iG (pa:PlainAttrs T) (slot:Slot T name id) (hty:typeOf (.builtin id)=pure (.type "method_descriptor")) (hm:MtR X id r) (ho:PE X o to) (ha:PA X (e::es) t)
  (hbase:Gf o name X.env (eval o X.env)=eval o X.env:=by rfl)
  (hfew:((backTo cpos (DK (e::es) X.env)).all (fun x=>!x.1) && (backToKw cpos (Iq [] X.env)).all (fun x=>x.1.isSome)
   && decide ((e::es).length+([]:List IT).length+(if ([]:List IT).isEmpty then 0 else 1)<30))=true:=by rfl)
  (hline:(apos.endLine == cpos.line)=true:=by rfl) (hs:DK (e::es) X.env=(false,eval e X.env)::DK es X.env:=by rfl) (hplain:(backTo cpos (DK es X.env)).any (·.1)=false:=by rfl) :
  PE X (.Call (.Attribute o name apos) (e::es) [] cpos) (tBM X.K T r to t):=by
 intro pins s σ H Q I h
 refine wpAny_Call_method_late hbase hfew hline rfl (thn (ho pins s σ H _ I h) fun v s1 ⟨x,H1,I1,r1,ty,q1⟩=>?_)
 obtain⟨h1,h2⟩:=zl I1 r1 ty
 refine⟨T,id,pa,slot,hty,h1,h2,?_⟩
 have hA:=ha cpos pins s1 σ H1 _ I1 q1
 rw[hs] at hA ⊢
 refine IK (by show (false || (backTo cpos (DK es X.env)).any (·.1))=false; rw[hplain] <;> rfl) (Jk ?_)
 exact thn hA fun us s2 ⟨vs,H2,I2,r2,q2⟩=>hm pins s2 σ H2 x vs v us Q I2 r1 r2 q2
end
def MtM (X:Cx) (id:String) (r:V→List V→Hp→VK→Prop):Prop :=
 ∀ (pins:List (Addr×Obj)) (s:Shared) (σ:St) (H:Hp) (x:V) (xs:List V) (v:Value) (us:List Value) (Q:VK),Inv X pins σ H s→RelV x v→Vals xs us→r x xs H Q →
  wpAny (model X.prog X.w) X.A (call (.builtin id) (v::us)) (EP X pins σ Q) X.xe s
def Vals.one:∀ {x:V} {us:List Value},Vals [x] us→∃ u,us=[u]∧RelV x u
 | _,_,.cons r .nil=>⟨_,rfl,r⟩
def Vals.zero:∀ {us:List Value},Vals [] us→us=[]
 | _,.nil=>rfl
def Vals.dropLast (h:Vals xs us):Vals xs.dropLast us.dropLast:=by
 induction h with
 | nil=>exact .nil
 | cons r t ih =>
  cases t with
  | nil=>exact .nil
  | cons q t'=>exact .cons r ih
def Vals.eraseIdx:∀ {xs:List V} {us:List Value} (i:Nat),Vals xs us→Vals (xs.eraseIdx i) (us.eraseIdx i)
 | _,_,_,.nil=>.nil
 | _,_,0,.cons _ t=>t
 | _,_,i+1,.cons r t=>.cons r (Vals.eraseIdx i t)
def Vals.reverse (h:Vals xs us):Vals xs.reverse us.reverse:=by
 induction h with
 | nil=>exact .nil
 | cons r t ih=>rw[GY,GY]; exact Vals.append ih (.cons r .nil)
section
variable {X:Cx} {pins:List (Addr×Obj)} {σ:St} {H:Hp} {s:Shared} {l b:Addr} {xs ys zs:List V}
def Inv.lset {its':List Value} {n:Nat} {f:Array Value→Array Value} (I:Inv X pins σ H s) (hH:H l=some (.lst xs))
  (e:s.heap.get? l=some { cls:=.type "list",data:=.seq its.toArray n }) (hf:f its.toArray=its'.toArray) (hv:Vals ys its') (hz:ys.length≤sizeLine) :
  Inv X pins σ (upd H l (.lst ys)) { s with heap:=s.heap.update l (Eh f),toks:=t' }:=by
 have q:=PySem.IsL.update e f
 rw[hf] at q
 refine I.write (x:=l) (e:=l) (by rw[hH]; exact trivial) (.inl rfl) (fun b' u hb hu=>(En s.heap (Eh f) (E6 hb)).trans hu) ⟨_,q⟩ ?_
 exact⟨hz,its',_,hv,q⟩
def Inv.lnew (I:Inv X pins σ H s) (hv:Vals ys its) (hz:ys.length≤sizeLine) :
  Inv X pins σ (upd H s.heap.objs.size (.lst ys)) { s with heap:=s.heap.push { cls:=.type "list",data:=.seq its.toArray },toks:=t' } :=
 I.laid (fun _ _ q=>Dl _ q) (Nat.le_refl _) ⟨hz,its,0,hv,Dr _ rfl⟩
def Inv.fresh (I:Inv X pins σ H s):H s.heap.objs.size=none:=I.hok.fresh (Nat.le_refl _)
def Inv.lstM (I:Inv X pins σ H s) (hH:H l=some (.lst xs)):xs.length≤sizeLine∧∃ (its:List Value) (n:Nat),Vals xs its∧xs.length=its.length∧s.heap.get? l=some { cls:=.type "list",data:=.seq its.toArray n }:=by
 obtain⟨z,its,n,r,e⟩:=I.hok l _ hH
 exact⟨z,its,n,r,r.length,e⟩
def Af {n:Nat} (h:n≤sizeLine):Gz n=false:=by
 unfold Gz
 exact decide_eq_false (by omega)
end
section
variable {X:Cx}
def uR:V→List V→Hp→VK→Prop:=fun x vs H Q=>∃ l xs y,x=.ref l∧vs=[y]∧H l=some (.lst xs)∧xs.length<sizeLine∧Q .non (upd H l (.lst (xs++[y])))
def iS:MtM X "list.append" uR:=by
 intro pins s σ H x vs v us Q I rx rv h
 obtain⟨l,xs,y,rfl,rfl,hH,hz,q⟩:=h
 cases rx
 obtain⟨u,rfl,ru⟩:=rv.one
 obtain⟨z,its,n,r,hl,e⟩:=I.lstM hH
 refine Gh F.slot_list_append ⟨_,e,rfl⟩ F.entry_list_append (F.args_list_append_2 _ _) (PySem.list_append l its.toArray n u (by rw[Dk]; exact Oz80 hz hl)) ⟨e,?_⟩
 refine⟨.non,_,I.lset (its':=its++[u]) hH e (by simp) (r.append (.cons ru .nil)) ?_,rfl,q⟩
 rw[Dp,G3]
 exact Oz82 hz
def Bs:V→List V→Hp→VK→Prop:=fun x vs H Q=>∃ l b xs zs,x=.ref l∧vs=[.ref b]∧H l=some (.lst xs)∧H b=some (.lst zs)∧xs.length+zs.length≤sizeLine∧Q .non (upd H l (.lst (xs++zs)))
def qc:MtM X "list.extend" Bs:=by
 intro pins s σ H x vs v us Q I rx rv h
 obtain⟨l,b,xs,zs,rfl,rfl,hH,hB,hz,q⟩:=h
 cases rx
 obtain⟨u,rfl,ru⟩:=rv.one
 cases ru
 obtain⟨z,its,n,r,hl,e⟩:=I.lstM hH
 obtain⟨z2,its2,n2,r2,hl2,e2⟩:=I.lstM hB
 have hsz:its.toArray.size+its2.toArray.size≤sizeLine:=by rw[Dk,Dk]; exact Oz95 hz hl hl2
 have hlong:¬ (!its.toArray.isEmpty && Gz (its.toArray.size+its2.toArray.size))=true:=by
  rw[Af hsz,Fj]
  exact DC
 refine Gh F.slot_list_extend ⟨_,e,rfl⟩ F.entry_list_extend (F.args_list_extend_2 _ _)
  (AutoSeq1.list_extend_list_list_0 l its.toArray n b its2.toArray n2 hlong (by rw[Dk]; exact Oz14 z hl) (by omega)) ⟨e,e2,?_⟩
 refine⟨.non,_,I.lset (its':=its++its2) hH e (by simp) (r.append r2) ?_,rfl,q⟩
 rw[Dp]
 exact Oz74 hz
def sj:V→List V→Hp→VK→Prop:=fun x vs H Q=>∃ l xs,x=.ref l∧vs=[]∧H l=some (.lst xs)∧Q .non (upd H l (.lst xs.reverse))
def xE:MtM X "list.reverse" sj:=by
 intro pins s σ H x vs v us Q I rx rv h
 obtain⟨l,xs,rfl,rfl,hH,q⟩:=h
 cases rx
 have hus:=rv.zero
 subst hus
 obtain⟨z,its,n,r,hl,e⟩:=I.lstM hH
 refine Gh F.slot_list_reverse ⟨_,e,rfl⟩ F.entry_list_reverse (F.args_list_reverse_1 _) (AutoSeq1.list_reverse_list_0 l its.toArray n (by rw[Dk]; exact Oz14 z hl)) ⟨e,?_⟩
 refine⟨.non,_,I.lset (its':=its.reverse) hH e (by simp) r.reverse ?_,rfl,q⟩
 rw[List.length_reverse]
 exact Oz25 z
def Ct:R2:=fun x y H Q=>∃ l b xs zs,x=.ref l∧y=.ref b∧H l=some (.lst xs)∧H b=some (.lst zs)∧xs.length+zs.length≤sizeLine∧∀ p,H p=none→Q (.ref p) (upd H p (.lst (xs++zs)))
def jv:OpR X (FG .Add) Ct:=by
 intro pins s σ H x y v u Q I rx ry h
 obtain⟨l,b,xs,zs,rfl,rfl,hH,hB,hz,q⟩:=h
 cases rx
 cases ry
 obtain⟨z,its,n,r,hl,e⟩:=I.lstM hH
 obtain⟨z2,its2,n2,r2,hl2,e2⟩:=I.lstM hB
 refine PySem.P.add_list e e2 ?_ (by rw[Dk,Dk]; exact Oz95 hz hl hl2)
 have ea:its.toArray++its2.toArray=(its++its2).toArray:=by simp
 rw[ea]
 exact⟨.ref _,_,I.lnew (t':=s.toks) (r.append r2) (by rw[Dp]; exact Oz74 hz),rfl,q _ I.fresh⟩
end
end _l
namespace _att
open PySem PySem.W PySem.Calls PyProof.Rows
def oN {P:Params}:∀ (ns:List Int) (vs:List Value),WellAll P h vs (ns.map WData.int)→GL vs ns:=by
 intro ns
 induction ns with
 | nil =>
  intro vs w
  rw[IX] at w
  cases w
  exact .nil
 | cons n ns ih =>
  intro vs w
  rw[D8] at w
  cases w with
  | cons a b =>
   cases a
   exact .cons _ _ (ih _ b)
def xW {l:OpenLaw} {n:Nat} (hn:l.most=some n) {P:Params} {args:List WData} {vals:List Value}
  (hpre:l.row.toRowW.claim.pre args=true) (hwl:WellAll P h vals args) :
  ∃ a vs ns,vals=[Value.ref a]∧args=[WData.list (ns.map WData.int)]∧h.get? a=some { cls:=.type "list",data:=.seq vs.toArray }∧GL vs ns∧ns.length≤n:=by
 have hsh:WShape.hasAll [] args [.list .int]=true:=(pre_splitW hpre).1
 have hc:l.pre.holds [] { args:=args }=true:=(pre_splitW hpre).2
 obtain⟨d,r,rfl,h1,h2⟩:=hasAllW_cons hsh
 obtain rfl:=hasAllW_nil h2
 obtain⟨xs,rfl,h3⟩:=hasW_list h1
 obtain⟨ns,rfl⟩:=items_int h3
 have hlen:ns.length≤n:=by
  unfold OpenLaw.pre at hc
  have h4:(WTm.not (.lt (.lit (.int (n:Int))) (.len (.arg 0)))).holds [] { args:=[.list (ns.map .int)] }=true:=by
   have h4:=(holds_andW hc).1
   rw[hn] at h4
   exact h4
  have h5:=condW_of h4 (w_not (w_lt w_lit (w_len_list (w_arg rfl))))
  rw[iz] at h5
  refine Nat.le_of_not_lt fun q=>?_
  have q':(n:Int)<((ns.length:Nat):Int):=by exact Oz44 q
  first
   | (rw[decide_eq_true q'] at h5; exact absurd h5 (by decide))
   | (simp at h5; omega)
 cases hwl with
 | cons w1 w2 =>
  cases w2
  cases w1 with
  | list ho hall=>exact⟨_,_,ns,rfl,rfl,ho,oN ns _ hall,hlen⟩
def x6 (l:OpenLaw) (args:List WData):l.row.toRowW.claim.post args (.bool true) args=true :=
 postW_of (r:=l.row.toRowW) (X:=(true == true))
  (show WShape.has [] (.bool true) .bool=true by first | rfl | decide | simp [WShape.has,WShape.arms,WShape.armsAll])
  (show (WTm.eq .res (.lit (.bool true))).value [] { args:=args,res:=some (.bool true),after:=args }=some (.bool (true == true)) from w_eq_bool (w_res rfl) w_lit) rfl
def attach_call {l:OpenLaw} {n:Nat} {loose:List Str} {XP:(Str→Option Value)→Heap→Prop} {YP:World→Heap→Prop} {d:DefRec}
  (hn:l.most=some n) (hdf:d.params.defaults=[])
  (call:∀ (w:World) (s₀ s₁:Shared) (mg mb:Str→Option Value) (fa:Addr) (o:Obj) (pm cd doc:Value) (a:Addr) (vs:List Value) (ns:List Int),
   Ground q loose [] XP w s₀ mg mb s₁.heap→YP w s₁.heap →
   s₁.heap.get? fa=some o→o.data=.func (docDef d.name d.params d.body d.scope pm cd doc)→s₁.heap.CodeRec cd d.name→mg d.name=some (.ref fa) →
   s₁.heap.get? a=some { cls:=.type "list",data:=.seq vs.toArray }→GL vs ns→ns.length≤n→s₁.gens = #[] →
   GH (model l.prog w) JN (.call (.ref fa) ⟨[.ref a],[]⟩) (fun r s'=>r=.ok (.ret (.bool true))∧OldK s₁.heap s'.heap∧s'.os=s₁.os∧Im s'.gens) s₁) :
  WalkO q loose XP YP l.row.toRowW d [] (fun f vs=>PySem.call f vs):=by
 intro w s₀ s₁ mg mb G Y fa o pm cd doc dV kV ho hd hcd hD hmg hg args vals as hpre hlay hrd hwl hlo
 obtain rfl:dV=.none:=Dflts.none hD hdf
 obtain rfl:kV=.none:=Dflts.noKw hD
 obtain⟨a,vs,ns,rfl,rfl,hobj,hints,hlen⟩:=xW hn hpre hwl
 refine enter_call (F0 (call w s₀ s₁ mg mb fa o pm cd doc a vs ns G Y ho (fd_plain hd) hcd hmg hobj hints hlen hg) fun r s' hq=>?_)
 obtain⟨rfl,h2,h3,h4⟩:=hq
 exact⟨.inl ⟨.bool true,.bool true,[],rfl,fun _=>rfl,.bool true,x6 l _,fun _=>⟨List.Pairwise.nil,fun _ hm=>(nomatch hm)⟩⟩,h2,h3,h4⟩
end _att
namespace _l
open PySem PySem.Spec PyProof.Rows
theorem mw:∀ {vs:List Value} {ns:List Int},GL vs ns→Vals (ns.map V.int) vs
 | _,_,.nil=>.nil
 | _,_,.cons n t h=>.cons ⟨t,rfl⟩ (mw h)
def Ah (H:Hp):Prop:=∀ b,H b=none∨∃ o xs,H b=some (.frz o (.lst xs))
def zu {P:Dz} {mb:Str→Option Value} {k:Nat} {a:Addr} {x:Str} {s₁:Shared} {vs:List Value}
  (KX:K.In s₁.heap) (hns:s₁.heap.Ns DR mg) (hb:s₁.heap.Ns builtinsNs mb) (hbb:∀ x:Str,x≠"__name__"→mb x=Eg x) (hlim:s₁.heap.NoLimit) (hg:s₁.gens = #[])
  (ha:s₁.heap.get? a=some { cls:=.type "list",data:=.seq vs.toArray }) (hi:GL vs ns) (hl:ns.length≤sizeLine) (hr:Room k JN)
  (F:∀ base:Heap,K.In base→base.Ns DR mg→FnOk P w K mg base CX k fa fd [x] sp) (hbind:∀ (s:Shared) (u:Value),IS s fd ⟨[u],[]⟩ [(x,u)])
  (hsp:∀ H:Hp,Ah H→SqL K H a (ns.map V.int)→sp [.ref a] H (fun v _=>v=.bl true) fun _ _ _=>False)
  (hCX:∀ H e s',CX [] H s₁ (fun _ _ _=>False) e s'→False) :
  GH (model P w) JN (.call (.ref fa) ⟨[.ref a],[]⟩) (fun r s'=>r=.ok (.ret (.bool true))∧OldK s₁.heap s'.heap∧s'.os=s₁.os∧Im s'.gens) s₁:=by
 have rv:=mw hi
 have lenV:=hi.length
 -- from an abstract heap in which nothing but the script may be tracked
 have core:∀ H:Hp,Ah H→SqL K H a (ns.map V.int)→HOk P w H s₁.heap→(∀ b,H b≠none→b=a)→(H a≠none→K.lookup a=none) →
   GH (model P w) JN (.call (.ref fa) ⟨[.ref a],[]⟩) (fun r s'=>r=.ok (.ret (.bool true))∧OldK s₁.heap s'.heap∧s'.os=s₁.os∧Im s'.gens) s₁:=by
  intro H hO hS hok hA hK
  have base_of:∀ {b:Addr} {o:Obj},s₁.heap.get? b=some o→H b=none→(lJ s₁.heap H).get? b=some o:=fun e n=>zM e n
  have noA:∀ {b:Addr} {o:Obj} {es:Array DictEntry} {ep:Nat},s₁.heap.get? b=some o→o.data=.dict es ep→H b=none:=fun {b o es ep} e d=>by
   cases q:H b with
   | none=>rfl
   | some u =>
    have e':b=a:=hA b (by rw[q]; simp)
    subst e'
    rw[ha] at e; cases e
    have d':Data.seq vs.toArray _=Data.dict es ep:=d
    cases d'
  have nsK:∀ {b:Addr} {m:Str→Option Value},s₁.heap.Ns b m→(lJ s₁.heap H).Ns b m:=fun {b m} ⟨o,es,ep,e,d,r⟩=>⟨o,es,ep,base_of e (noA e d),d,r⟩
  have hKb:K.In (lJ s₁.heap H):=fun b o e=>base_of (KX b o e) (by
   cases q:H b with
   | none=>rfl
   | some u =>
    have e':b=a:=hA b (by rw[q]; simp)
    subst e'
    rw[hK (by rw[q]; simp)] at e; cases e)
  have hM:Mod K mg (lJ s₁.heap H):=⟨hKb,nsK hns,⟨mb,nsK hb,hbb⟩,let ⟨mc,h1,h2⟩:=hlim; ⟨mc,nsK h1,h2⟩⟩
  have e0:Env0 P w K mg (lJ s₁.heap H) JN [] s₁ H:=⟨rfl,hM,fun b o e=>Bl e,Nat.le_of_eq (yw _ _),trivial,fun b hb=>absurd (show b∈([]:List Addr) from hb) (by simp),hok,.of_eq hg⟩
  refine F0 ((F _ hKb (nsK hns)).run JN [] s₁ H ⟨[.ref a],[]⟩ [.ref a] [.ref a] _ _ hr e0 (hbind s₁ (.ref a)) (.cons rfl .nil) (hsp H hO hS)) fun r s' h=>?_
  cases r with
  | error e=>exact (hCX H e s' h).elim
  | ok fl =>
   cases fl with
   | next=>exact EF h
   | brk=>exact EF h
   | cont=>exact EF h
   | ret u =>
    obtain⟨v,H',os,bare,un,hok',r',q⟩:=h
    have q':v=.bl true:=q
    subst q'
    obtain rfl:u=Value.bool true:=r'
    refine⟨rfl,OldK.of_keep fun b o e=>?_,os,bare⟩
    cases q:H b with
    | none=>exact un.keep b o e q (by intro z; exact absurd (show b∈([]:List Addr) from z) (by simp)) (by simp)
    | some u =>
     rcases hO b with z | ⟨ob,xs,z⟩
     ·rw[q] at z; cases z
     ·have z2:=un.frzs b ob _ z
      obtain⟨e1,_⟩:=hok b _ z
      obtain⟨e2,_⟩:=hok' b _ z2
      rw[e] at e1; cases e1
      exact e2
 cases hk:K.lookup a with
 | some o =>
  -- the script is one of the module's own objects
  have e:=KX a o hk
  rw[ha] at e
  cases e
  refine core (fun _=>none) (fun _=>.inl rfl) (.inr ⟨_,vs.toArray,_,hk,rfl,rfl,rfl,by rw[Dk,lenV]; exact hl,by simpa using rv⟩) (fun b u z=>by have z':(none:Option HO)=some u:=z; cases z') (fun b z=>absurd rfl z) fun z=>absurd rfl z
 | none =>
  refine core (fun b=>if b=a then some (.frz { cls:=.type "list",data:=.seq vs.toArray } (.lst (ns.map V.int))) else none) (fun b=>?_) (.inl (.inr ⟨{ cls:=.type "list",data:=.seq vs.toArray },if_pos rfl⟩)) (fun b u z=>?_) (fun b z=>?_) fun _=>hk
  ·by_cases hb:b=a
   ·exact .inr ⟨_,_,if_pos hb⟩
   ·exact .inl (if_neg hb)
  ·by_cases hb:b=a
   ·have z':=(if_pos hb).symm.trans z
    cases z'
    subst hb
    exact⟨ha,by rw[iz]; exact hl,vs,_,rv,ha⟩
   ·have z':=(if_neg hb).symm.trans z
    cases z'
  ·by_cases hb:b=a
   ·exact hb
   ·exact absurd (if_neg hb) z
def walk_of {l:IY} {n k:Nat} {loose:List Str} {XP:(Str→Option Value)→Heap→Prop} {YP:World→Heap→Prop} {d:DefRec} {K:Params→cy} {CX:World→CXT} {sp:World→Sp} {x:Str}
  (hn:l.most=some n) (hn2:n≤sizeLine) (hdf:d.params.defaults=[]) (hr:Room k JN)
  (hY:∀ (w:World) (h:Heap),YP w h→(K w.params).In h)
  (F:∀ (w:World) (mg:Str→Option Value) (fa:Addr) (h:Heap),(K w.params).In h→h.Ns DR mg→mg d.name=some (.ref fa) →
   ∃ fd:DU,(∀ (s:Shared) (u:Value),IS s fd ⟨[u],[]⟩ [(x,u)]) ∧
    ∀ base:Heap,(K w.params).In base→base.Ns DR mg→FnOk l.prog w (K w.params) mg base (CX w) k fa fd [x] (sp w))
  (hsp:∀ (w:World) (H:Hp) (a:Addr) (ns:List Int),ns.length≤n→Ah H→SqL (K w.params) H a (ns.map V.int)→sp w [.ref a] H (fun v _=>v=.bl true) fun _ _ _=>False)
  (hCX:∀ (w:World) (H:Hp) (s:Shared) (e:Value) (s':Shared),CX w [] H s (fun _ _ _=>False) e s'→False) :
  PySem.W.WalkO q loose XP YP l.row.toRowW d [] (fun f vs=>PySem.call f vs):=by
 refine _att.attach_call hn hdf fun w s₀ s₁ mg mb fa o pm cd doc a vs ns G Y ho hd hcd hmg hobj hints hlen hg=>?_
 have KX:=hY w _ Y
 obtain⟨fd,hb,hF⟩:=F w mg fa _ KX G.T.g hmg
 exact zu KX G.T.g G.T.b G.T.builtins G.T.nolimit hg hobj hints (Nat.le_trans hlen hn2) hr hF hb (fun H hO hS=>hsp w H a ns hlen hO hS) fun H e s'=>hCX w H s₁ e s'
noncomputable def defArgs (s:Stmt):Arguments:=match s with
 | .FunctionDef _ a _ _ _ _ _ _ _ _=>a
 | _=>{ posonlyargs:=[],args:=[],vararg:=none,kwonlyargs:=[],kw_defaults:=[],kwarg:=none,defaults:=[] }
noncomputable def defBody (s:Stmt):List Stmt:=match s with
 | .FunctionDef _ _ b _ _ _ _ _ _ _=>b
 | _=>[]
noncomputable def defScope (s:Stmt):Scope:=match s with
 | .FunctionDef _ _ _ _ _ _ sc _ _ _=>sc
 | _=>{ kind:=.function,names:=[],isGenerator:=false,isCoroutine:=false }
abbrev CX0:CXT:=fun _ _ _ _ _ _=>False
abbrev E0:XK:=fun _ _ _=>False
def vP:kC CX0 X E0:=fun _ _ _ _ _ _ _ h=>h.elim
structure Fun (K:cy) (x qual:Str) (st:Stmt) (f:Addr) (fd:DU):Prop where
 ex:∃ (oc:Value) (od:Option Addr) (kV doc pm:Value) (an:Option Addr) (cdv ct:Value) (osl:Array (Option Value)),
  fd=Fv x qual (defArgs st) (defBody st) (defScope st) .none kV doc pm an cdv ct∧K.lookup f=some ⟨oc,od,.func fd,osl⟩∧G1 K cdv qual=true
 kp:Es K (.ref f)=true
section
variable {P:Dz} {w:World} {K:cy} {mg:Str→Option Value} {base:Heap}
def Fun.ok {x:Str} {st:Stmt} {k:Nat} (F:Fun K x qual st f fd) (S:FnScope N ps (defScope st)) (len:∀ vs H Q E,sp vs H Q E→vs.length=ps.length)
  (hbody:∀ (cdv:Value) (A:Around) (outer:List Env) (s:Shared) (H:Hp) (vs:List V) (Q:VK) (E:XK),Room k (A.deeper (envOfC qual (defScope st) s.heap.objs.size f cdv))→sp vs H Q E →
   ∃ t,PSs (kR CX0 P w K mg base N qual (defScope st) f cdv A outer s H E).nox (defBody st) t∧t { nx:=fun _ H'=>Q .non H',rt:=Q } (start N vs) H):FnOk P w K mg base CX0 (k+1) f fd ps sp:=by
 obtain⟨oc,od,kV,doc,pm,an,cdv,ct,osl,rfl,lk,hcd⟩:=F.ex
 refine Ax lk hcd S len fun A outer s H vs Q E hr hsp=>?_
 obtain⟨t,h,q⟩:=hbody cdv A outer s H vs Q E hr hsp
 exact⟨t,h.nox,q⟩
def Fun.binds {x:Str} {st:Stmt} (F:Fun K x qual st f fd)
  (h:∀ (kV doc pm:Value) (an:Option Addr) (cdv ct:Value) (us:List Value),us.length=ps.length→bindArgs (Fv x qual (defArgs st) (defBody st) (defScope st) .none kV doc pm an cdv ct) ⟨us,[]⟩=pure (ps.zip us)):Binds K fd ps []:=by
 obtain⟨oc,od,kV,doc,pm,an,cdv,ct,osl,rfl,lk,hcd⟩:=F.ex
 exact .all (h kV doc pm an cdv ct)
def kW {x:Str} {st:Stmt} {oc:Value} {od an:Option Addr} {osl:Array (Option Value)} {kV doc pm cdv ct:Value} (l:K.lookup f=some ⟨oc,od,.func (Fv x qual (defArgs st) (defBody st) (defScope st) .none kV doc pm an cdv ct),osl⟩)
  (c:G1 K cdv qual=true) (k:Es K (.ref f)=true):Fun K x qual st f (Fv x qual (defArgs st) (defBody st) (defScope st) .none kV doc pm an cdv ct):=⟨⟨oc,od,kV,doc,pm,an,cdv,ct,osl,rfl,l,c⟩,k⟩
end
def oM {k:Nat} (hr:Room k A):A.units+1<cLine:=Nat.lt_of_le_of_lt (Nat.add_le_add_left (by decide:1≤64) _) hr.units
section
variable {X:Cx}
def pv (i:Nat) {x:Str} {pos:Pos} (hN:X.N[i]?=some x:=by rfl) (hv:Vis X.env.scope x:=by first | exact Or.inl rfl | exact Or.inr (Or.inl rfl) | exact Or.inr (Or.inr rfl)) (hd:(x == ("__debug__":Str))=false:=by decide)
  (hcd:(x == ("__classdict__":Str))=false:=by decide):PE X (.Name x pos) (nM i):=xZ hN hv hd hcd
end
def Same (H H':Hp):Prop:=∀ b o,H b=some o→H' b=some o
def Same.refl (H:Hp):Same H H:=fun _ _ h=>h
def Same.trans {H1:Hp} (a:Same H H1) (b:Same H1 H2):Same H H2:=fun c o h=>b c o (a c o h)
def Same.free (e:Same H H') {l:Addr} (h:H' l=Option.none):H l=Option.none:=by
 cases q:H l with
 | none=>rfl
 | some o =>
  rw[e l o q] at h
  cases h
def Same.seq {a:Addr} (e:Same H H') (h:SqL K H a xs):SqL K H' a xs:=by
 rcases h with (h | ⟨o,h⟩) | h
 ·exact .inl (.inl (e _ _ h))
 ·exact .inl (.inr ⟨o,e _ _ h⟩)
 ·exact .inr h
structure Cal (P:Dz) (w:World) (K:cy) (mg:Str→Option Value) (base:Heap) (CX:CXT) (x:Str) (k:Nat) (ps:List Str) (sp:Sp):Prop where
 ex:∃ f fd,FnOk P w K mg base CX k f fd ps sp∧Binds K fd ps []∧Es K (.ref f)=true∧mg x=some (.ref f)
section
variable {X:Cx} {CX:CXT} {x:Str} {j k:Nat} {ps:List Str} {sp:Sp} {E:XK} {p pos:Pos} {e:Expr} {es:List Expr} {t:TA}
def gR (C:Cal X.prog X.w X.K X.mg X.base CX x j ps sp) (hr:Room k X.A) (hg:Gl X x) (hx:kC CX X E) (ha:PA X (e::es) t) (hj:j≤k:=by decide) (hdb:(x == ("__debug__":Str))=false:=by decide)
  (he:DK (e::es) X.env=(false,eval e X.env)::DK es X.env:=by rfl) (hpl:(backTo pos (DK es X.env)).any (·.1)=false:=by rfl) :
  PE X (.Call (.Name x p) (e::es) [] pos) (nV sp [] E t):=by
 obtain⟨f,fd,F,b,kp,m⟩:=C.ex
 exact A4 F (hr.mono hj) hg m kp b .nil hx ha hdb he hpl
def bY (C:Cal X.prog X.w X.K X.mg X.base CX0 x j ps sp) (hr:Room k X.A) (hg:Gl X x) (ha:PA X (e::es) t) (hj:j≤k:=by decide) (hdb:(x == ("__debug__":Str))=false:=by decide)
  (he:DK (e::es) X.env=(false,eval e X.env)::DK es X.env:=by rfl) (hpl:(backTo pos (DK es X.env)).any (·.1)=false:=by rfl) :
  PE X (.Call (.Name x p) (e::es) [] pos) (nV sp [] E0 t):=gR C hr hg vP ha hj hdb he hpl
end
inductive Kn where
 | non | bl | int | str | lst | tup | dct
noncomputable def tyK (T:String):Option Kn :=
 if T = "int" then some .int else if T = "bool" then some .bl else if T = "str" then some .str else if T = "list" then some .lst else if T = "tuple" then some .tup else none
def AR:tyK "int"=some .int:=rfl
def z7:tyK "bool"=some .bl:=rfl
def A8:tyK "str"=some .str:=rfl
def zO:tyK "list"=some .lst:=rfl
def yL:tyK "tuple"=some .tup:=rfl
noncomputable def fN:Kn→Kn→Bool
 | .int,.int=>true
 | .bl,.int=>true
 | .bl,.bl=>true
 | .str,.str=>true
 | .lst,.lst=>true
 | .tup,.tup=>true
 | _,_=>false
def CA (a:Addr):HO:=.ext fun h=>∃ o,h.get? a=some o∧o.cls=.type "dict"
def Kd (K:cy) (H:Hp):V→Kn→Prop
 | .non,k=>k=.non
 | .bl _,k=>k=.bl
 | .int _,k=>k=.int
 | .str _,k=>k=.str
 | .ref a,k=>(k=.lst∧∃ xs,SqL K H a xs)∨(k=.tup∧∃ xs,SqT K H a xs)∨(k=.dct∧H a=some (CA a))
 | _,_=>False
def BN (K:cy):List V→Hp→VK→Prop:=fun xs H Q=>∃ x T kt k,xs=[x,.ty T]∧tyK T=some kt∧Kd K H x k∧Q (.bl (fN k kt)) H
def zD {T:String} {kt:Kn} (h:tyK T=some kt):(T = "int"∧kt=.int)∨(T = "bool"∧kt=.bl)∨(T = "str"∧kt=.str)∨(T = "list"∧kt=.lst)∨(T = "tuple"∧kt=.tup):=by
 unfold tyK at h
 split at h
 ·next e=>exact .inl ⟨e,(DP h).symm⟩
 split at h
 ·next e=>exact .inr (.inl ⟨e,(DP h).symm⟩)
 split at h
 ·next e=>exact .inr (.inr (.inl ⟨e,(DP h).symm⟩))
 split at h
 ·next e=>exact .inr (.inr (.inr (.inl ⟨e,(DP h).symm⟩)))
 split at h
 ·next e=>exact .inr (.inr (.inr (.inr ⟨e,(DP h).symm⟩)))
 ·cases h
section
variable {X:Cx}
def gB:gU X (.builtin "isinstance") (BN X.K):=by
 intro pins s σ H xs us Q I r h
 obtain⟨x,T,kt,k,rfl,ht,hk,q⟩:=h
 obtain⟨u,w',rfl,rx,rt⟩:=vals2 r
 obtain rfl:w'=Value.type T:=rt
 have f1:EP X pins σ Q (.bool (fN k kt)) s:=⟨.bl _,H,I,rfl,q⟩
 have f2:EP X pins σ Q (.bool (fN k kt)) { s with toks:=s.toks+1 }:=⟨.bl _,H,I.tok _,rfl,q⟩
 have hT:=zD ht
 clear ht q
 cases x with
 | non =>
  obtain rfl:u=Value.none:=rx
  obtain rfl:k=.non:=hk
  rcases hT with ⟨rfl,rfl⟩ | ⟨rfl,rfl⟩ | ⟨rfl,rfl⟩ | ⟨rfl,rfl⟩ | ⟨rfl,rfl⟩
  ·exact IsiPair.NoneType_int f2
  ·exact IsiPair.NoneType_bool f2
  ·exact IsiPair.NoneType_str f2
  ·exact IsiPair.NoneType_list f2
  ·exact IsiPair.NoneType_tuple f2
 | bl b =>
  obtain rfl:u=Value.bool b:=rx
  obtain rfl:k=.bl:=hk
  rcases hT with ⟨rfl,rfl⟩ | ⟨rfl,rfl⟩ | ⟨rfl,rfl⟩ | ⟨rfl,rfl⟩ | ⟨rfl,rfl⟩
  ·first | exact J2 f1 | exact J2 f2
  ·exact IsiPair.bool_bool f1
  ·exact IsiPair.bool_str f2
  ·exact IsiPair.bool_list f2
  ·exact IsiPair.bool_tuple f2
 | int i =>
  obtain⟨t,rfl⟩:=rx
  obtain rfl:k=.int:=hk
  rcases hT with ⟨rfl,rfl⟩ | ⟨rfl,rfl⟩ | ⟨rfl,rfl⟩ | ⟨rfl,rfl⟩ | ⟨rfl,rfl⟩
  ·exact IsiPair.int_int f1
  ·exact IsiPair.int_bool f2
  ·exact IsiPair.int_str f2
  ·exact IsiPair.int_list f2
  ·exact IsiPair.int_tuple f2
 | str z =>
  obtain⟨t,rfl⟩:=rx
  obtain rfl:k=.str:=hk
  rcases hT with ⟨rfl,rfl⟩ | ⟨rfl,rfl⟩ | ⟨rfl,rfl⟩ | ⟨rfl,rfl⟩ | ⟨rfl,rfl⟩
  ·exact IsiPair.str_int f2
  ·exact IsiPair.str_bool f2
  ·exact IsiPair.str_str f1
  ·exact IsiPair.str_list f2
  ·exact IsiPair.str_tuple f2
 | ref a =>
  obtain rfl:u=Value.ref a:=rx
  rcases hk with ⟨rfl,xs,hq⟩ | ⟨rfl,xs,hq⟩ | ⟨rfl,hq⟩
  ·obtain⟨its,_,⟨o,n,e,c,_,_⟩,_⟩:=I.list hq
   rcases hT with ⟨rfl,rfl⟩ | ⟨rfl,rfl⟩ | ⟨rfl,rfl⟩ | ⟨rfl,rfl⟩ | ⟨rfl,rfl⟩
   ·exact IsiPair.list_int e c f2
   ·exact IsiPair.list_bool e c f2
   ·exact IsiPair.list_str e c f2
   ·exact IsiPair.list_list e c f1
   ·exact IsiPair.list_tuple e c f2
  ·obtain⟨its,_,⟨o,e,c,_⟩,_⟩:=I.tuple hq
   rcases hT with ⟨rfl,rfl⟩ | ⟨rfl,rfl⟩ | ⟨rfl,rfl⟩ | ⟨rfl,rfl⟩ | ⟨rfl,rfl⟩
   ·exact IsiPair.tuple_int e c f2
   ·exact IsiPair.tuple_bool e c f2
   ·exact IsiPair.tuple_str e c f2
   ·exact IsiPair.tuple_list e c f2
   ·exact IsiPair.tuple_tuple e c f1
  ·obtain⟨⟨o,e,c⟩,_⟩:=I.hok a _ hq
   rcases hT with ⟨rfl,rfl⟩ | ⟨rfl,rfl⟩ | ⟨rfl,rfl⟩ | ⟨rfl,rfl⟩ | ⟨rfl,rfl⟩
   ·exact IsiPair.dict_int e c f2
   ·exact IsiPair.dict_bool e c f2
   ·exact IsiPair.dict_str e c f2
   ·exact IsiPair.dict_list e c f2
   ·exact IsiPair.dict_tuple e c f2
 | _=>exact EF hk
end
def xg (J:It) (g:TG) (tb:TS) (D:Ends) (σ:St) (H:Hp):Prop:=∃ W:Nat→Nat→St→Hp→Prop,(∃ m,W 0 m σ H)∧∀ i m σ H,W i m σ H →
 (J.stop i H∧D.nx σ H)∨(J.go i H∧∃ N:St→Hp→Prop,(∀ σ' H',N σ' H'→∃ m',m'<m∧W (i+1) m' σ' H')∧∀ x H',J.yld i H x H'→g x σ H' fun σ2 H2=>tb { D with nx:=N,ct:=N,bk:=D.nx } σ2 H2)
def A0 {wi:TI} {g:TG} {D:Ends}:BK wi g tb D σ H=wi σ H fun J H1=>xg J g tb D σ H1:=rfl
section
variable {K:cy} {a:Addr} {xs:List V} {g:TG} {tb:TS} {D:Ends} {σ:St} {H:Hp} {lo:Int} {n:Nat}
def lY (xs:List V) (Pv:Nat→St→Hp→Prop) (h0:Pv 0 σ H) (hl:∀ i σ H,i≤xs.length→Pv i σ H→SqL K H a xs)
  (hs:∀ i x σ H,xs[i]?=some x→Pv i σ H→g x σ H fun σ2 H2=>tb { D with nx:=Pv (i+1),ct:=Pv (i+1),bk:=D.nx } σ2 H2) (hd:∀ σ H,Pv xs.length σ H→D.nx σ H):xg (Itl K a) g tb D σ H:=zS Pv h0 hl hs hd
def i8 (Pv:Nat→St→Hp→Prop) (h0:Pv 0 σ H)
  (hs:∀ i σ H,i<n→Pv i σ H→g (.int (lo+i)) σ H fun σ2 H2=>tb { D with nx:=Pv (i+1),ct:=Pv (i+1),bk:=D.nx } σ2 H2) (hd:∀ σ H,Pv n σ H→D.nx σ H):xg (Itr lo n) g tb D σ H:=yU Pv h0 hs hd
end
def uP {xs:List Int} {m:Int} (h0:0≤m) (h1:m<xs.length):∃ z,z∈xs∧(xs.map V.int)[m.toNat]?=some (.int z):=by
 have h:m.toNat<xs.length:=by omega
 exact⟨xs[m.toNat],Gu h,by rw[Dq,Dm h]; rfl⟩
structure Bits (n:Nat) (i:Int):Prop where
 lt:i.natAbs<2 ^ n
def Bits.mono {n:Nat} {i:Int} (h:Bits m i) (le:m≤n):Bits n i:=⟨Nat.lt_of_lt_of_le h.lt (Nat.pow_le_pow_right (by decide) le)⟩
def Bits.of {n:Nat} {i b:Int} (lo:-b≤i) (hi:i≤b) (hb:b<((2 ^ n:Nat):Int)):Bits n i:=⟨by omega⟩
def Bits.bits {n:Nat} {i:Int} (h:Bits n i):Jx i≤n:=by
 unfold Jx
 split
 ·exact Nat.zero_le _
 ·have q:=h.lt
  rcases Nat.eq_zero_or_pos i.natAbs with h0 | hp
  ·rw[h0] at q ⊢
   have:(0:Nat).log2=0:=by decide
   rename_i hz
   exact absurd (by simp; omega) hz
  ·have:=(Nat.log2_lt (Nat.ne_of_gt hp)).mpr q
   exact Oz82 this
def CMulB (i j:Int):Prop:=Bits 100000 i∧Bits 100000 j
def CMulB.ok {i j:Int} (h:CMulB i j):IntMulOk i j:=IntMulOk.of_bits (Nat.le_trans h.1.bits (by decide)) (Nat.le_trans h.2.bits (by decide))
def CDivB (_ j:Int):Prop:=0<j∧Bits 8999 j
def CDivB.ok {i j:Int} (h:CDivB i j):Builtin.divisionGoesByPylong i j=false:=by
 refine PyProof.noPylong_of_log2 ?_
 have q:=h.2.lt
 have:=(Nat.log2_lt (n:=j.natAbs) (k:=8999) (by have:=h.1; omega)).mpr q
 omega
section
variable {X:Cx}
def k8:OpR X (FG .Mult) (rI CMulB fun i j=>.int (i * j)):=opI fun _ _ _ _ _ _ _ hc q=>mul_int q hc.ok
def dY:OpR X (FG .FloorDiv) (rI CDivB fun i j=>.int (i / j)):=opI fun i j _ _ _ _ _ hc q=>by
 have h1:(0:Int)<j:=hc.1
 exact floordiv_int (by omega) (by rw[Int.fdiv_eq_ediv_of_nonneg i (by exact Oz115 h1)]; exact q) (.inl hc.ok)
def As (t:TA) (ti:TE):TE:=fun σ H Q=>t σ H fun xs H1=>xs.length≤sizeLine∧ti σ H1 fun y H2=>∃ i v,y=.int i∧0≤i∧xs[i.toNat]?=some v∧Q v H2
end
section
variable {X:Cx} {es:List Expr} {b:Expr} {t:TA} {ti:TE} {pos p2:Pos}
def iM (h:PA X es t) (hb:PE X b ti) (hs:vf b):PE X (.Subscript (.List es p2) b pos) (As t ti):=by
 intro pins s σ H Q I hq
 refine JM (wpAny_List_spliced (thn (h p2 pins s σ H _ I hq) fun us s1 ⟨xs,H1,I1,r,z,q⟩=>⟨by rw[← r.length]; exact z,?_⟩))
 have hf:H1 s1.heap.objs.size=none:=I1.hok.fresh (Nat.le_refl _)
 have I2:Inv X (pins++[(s1.heap.objs.size,{ cls:=.type "list",data:=.seq us.toArray })]) σ H1 { s1 with heap:=s1.heap.push { cls:=.type "list",data:=.seq us.toArray } }:=by
  have J:Inv X pins σ H1 { s1 with heap:=s1.heap.push { cls:=.type "list",data:=.seq us.toArray } }:=I1.kept (t':=s1.toks) fun b u e=>Dl _ e
  refine J.pins_of fun p hp=>?_
  rcases DV.mp hp with hp | hp
  ·exact J.pin p (DM _ hp)
  ·have e:=DA.mp hp
   subst e
   exact⟨Dr _ rfl,hf,Nat.ne_of_gt I1.lt,I1.nofs (Nat.le_refl _),fun v z=>by cases z⟩
 refine thn (hb _ _ σ H1 _ I2 q) fun u s2 ⟨y,H2,I3,ry,i,v,e,h0,ha,q2⟩=>?_
 subst e
 obtain⟨t',rfl⟩:=ry
 obtain⟨hp,_⟩:=I3.pin (s1.heap.objs.size,{ cls:=.type "list",data:=.seq us.toArray }) (DM _ (DM _ (DA.mpr rfl)))
 obtain⟨w,ew,rw'⟩:=r.get ha
 have I4:Inv X pins σ H2 s2:=I3.pins_of fun p hp=>I3.pin p (DM _ (Fd _ hp))
 have hl:=r.length
 have hn:=jQ
 have hi:i.toNat<us.length:=(yp.mp ew).1
 have fin:EP X pins σ Q w s2:=⟨v,H2,I4,rw',q2⟩
 exact item_listR (l:=s1.heap.objs.size) ⟨_,hp,rfl,_,rfl⟩ h0 (by omega) (by simpa using ew) fin (hs _ _)
end
def wX:fN .non .bl=false:=rfl
def uE:fN .non .int=false:=rfl
def t9:fN .non .str=false:=rfl
def ue:fN .non .lst=false:=rfl
def uO:fN .non .tup=false:=rfl
def yc:fN .bl .bl=true:=rfl
def xh:fN .bl .int=true:=rfl
def xw:fN .bl .str=false:=rfl
def wO:fN .bl .lst=false:=rfl
def w6:fN .bl .tup=false:=rfl
def wY:fN .int .bl=false:=rfl
def uA:fN .int .int=true:=rfl
def tV:fN .int .str=false:=rfl
def ua:fN .int .lst=false:=rfl
def tQ:fN .int .tup=false:=rfl
def wK:fN .str .bl=false:=rfl
def uB:fN .str .int=false:=rfl
def uC:fN .str .str=true:=rfl
def uH:fN .str .lst=false:=rfl
def uM:fN .str .tup=false:=rfl
def wV:fN .lst .bl=false:=rfl
def uJ:fN .lst .int=false:=rfl
def uy:fN .lst .str=false:=rfl
def uz:fN .lst .lst=true:=rfl
def tT:fN .lst .tup=false:=rfl
def wG:fN .tup .bl=false:=rfl
def uu:fN .tup .int=false:=rfl
def uF:fN .tup .str=false:=rfl
def uD:fN .tup .lst=false:=rfl
def tP:fN .tup .tup=true:=rfl
def xG:fN .dct .bl=false:=rfl
def uw:fN .dct .int=false:=rfl
def tW:fN .dct .str=false:=rfl
def uq:fN .dct .lst=false:=rfl
def uN:fN .dct .tup=false:=rfl
def BV {k:Kn}:Kd K H .non k=(k=.non):=rfl
def CP {k:Kn} {b:Bool}:Kd K H (.bl b) k=(k=.bl):=rfl
def BJ {k:Kn} {i:Int}:Kd K H (.int i) k=(k=.int):=rfl
def Cc {k:Kn} {z:Str}:Kd K H (.str z) k=(k=.str):=rfl
def Kd.tup {K:cy} {H:Hp} {a:Addr} {xs:List V} (h:SqT K H a xs):Kd K H (.ref a) .tup:=.inr (.inl ⟨rfl,xs,h⟩)
def Kd.lst {a:Addr} (h:SqL K H a xs):Kd K H (.ref a) .lst:=.inl ⟨rfl,xs,h⟩
def Kd.dct {a:Addr} (h:H a=some (CA a)):Kd K H (.ref a) .dct:=.inr (.inr ⟨rfl,h⟩)
def Kd.ref {a:Addr} {k:Kn} (h:Kd K H (.ref a) k):k≠.int∧k≠.bl∧k≠.str∧k≠.non:=by
 rcases h with ⟨rfl,_⟩ | ⟨rfl,_⟩ | ⟨rfl,_⟩ <;> exact⟨(by intro z; cases z),(by intro z; cases z),(by intro z; cases z),(by intro z; cases z)⟩
def wB:i9 .non .non=true:=rfl
def vV {x2:Int}:i9 .non (.int x2)=true:=rfl
def xA {x1:Int}:i9 (.int x1) .non=true:=rfl
def yS {x2:Bool}:i9 .non (.bl x2)=true:=rfl
def yv {x1:Bool}:i9 (.bl x1) .non=true:=rfl
def wC:i9 .non (.str x2)=true:=rfl
def xJ:i9 (.str x1) .non=true:=rfl
def wz {x1:Int} {x2:Int}:i9 (.int x1) (.int x2)=true:=rfl
def zZ {x1:Bool} {x2:Bool}:i9 (.bl x1) (.bl x2)=true:=rfl
def wZ:i9 (.str x1) (.str x2)=true:=rfl
def vN {x1:Int}:i9 (.int x1) (.str x2)=true:=rfl
def vU {x2:Int}:i9 (.str x1) (.int x2)=true:=rfl
def yd {x1:Bool}:i9 (.bl x1) (.str x2)=true:=rfl
def yr {x2:Bool}:i9 (.str x1) (.bl x2)=true:=rfl
def cxK {P:Dz} {cd:Value} {outer:List Env} {E:XK} :
  (kR CX P w K mg base N qual scope f cd A outer s H E).K=K:=rfl
def fM:Eg "len"=some (.builtin "len"):=by decide +kernel
def CJ:Eg "max"=some (.builtin "max"):=by decide +kernel
def CS:Eg "min"=some (.builtin "min"):=by decide +kernel
def fj:Eg "isinstance"=some (.builtin "isinstance"):=by decide +kernel
def CK:Eg "int"=some (.type "int"):=by decide +kernel
def Bv:Eg "bool"=some (.type "bool"):=by decide +kernel
def qV:Eg "str"=some (.type "str"):=by decide +kernel
def kr:Eg "list"=some (.type "list"):=by decide +kernel
def iN:Eg "tuple"=some (.type "tuple"):=by decide +kernel
def mZ:Eg "all"=some (.builtin "all"):=by decide +kernel
def rZ:Eg "ValueError"=some (.type "ValueError"):=by decide +kernel
def CO:Eg "any"=some (.builtin "any"):=by decide +kernel
def C3:Eg "set"=some (.type "set"):=by decide +kernel
def sR:Eg "sorted"=some (.builtin "sorted"):=by decide +kernel
structure Mg (mg:Str→Option Value):Prop where
 m_len:mg "len"=none
 m_range:mg "range"=none
 m_abs:mg "abs"=none
 m_max:mg "max"=none
 m_min:mg "min"=none
 m_isinstance:mg "isinstance"=none
 m_int:mg "int"=none
 m_bool:mg "bool"=none
 m_str:mg "str"=none
 m_list:mg "list"=none
 m_tuple:mg "tuple"=none
 m_sum:mg "sum"=none
 m_all:mg "all"=none
 m_enumerate:mg "enumerate"=none
 m_zip:mg "zip"=none
 m_ValueError:mg "ValueError"=none
 m_any:mg "any"=none
 m_set:mg "set"=none
 m_sorted:mg "sorted"=none
end _l
set_option maxHeartbeats 1000000
namespace _l
open PySem PySem.Spec PyProof.Rows
section
variable {prog:Dz} {w:World} {A:Around} {R:Result→Shared→Prop} {s:Shared}
def ud {elt target iter:Expr} {ifs:List Expr} {it acc:Value} (I:Nat→Shared→Prop)
  (turn:∀ n s,I n s→wpAny (model prog w) A (pyNext it) (fun r s₁=>match r with
   | none=>R (.ok .next) s₁
   | some v=>wpAny (model prog w) A (Ht target it v) (fun _ s₁'=>wpAny (model prog w) A (assign target env v) (fun _ s₂ =>
     wpAny (model prog w) A (forIn ifs true fun c r=>if r=true then do let ok ← isTrue c env (eval c env); pure (ForInStep.yield ok) else pure (ForInStep.yield r)) (fun ok s₃ =>
      if ok=true then wpAny (model prog w) A (eval elt env) (fun x s₄ =>
       wpAny (model prog w) A (call (.builtin "list.append") [acc,x]) (fun _ s₅=>∃ m,m<n∧I m s₅) (fun _ _=>False) s₄) (fun _ _=>False) s₃
      else ∃ m,m<n∧I m s₃) (fun _ _=>False) s₂) (fun _ _=>False) s₁') (fun _ _=>False) s₁) (fun _ _=>False) s)
  (n:Nat) (h:I n s) :
  GH (model prog w) A (.compLoop (.ListComp elt [⟨target,iter,ifs,0⟩] scope pos) 0 it acc env) R s:=by
 refine codeAny_loop rfl I (fun n s hI=>?_) n h
 show wpAny _ A ((compTurn (.ListComp elt [⟨target,iter,ifs,0⟩] scope pos) 0 it acc env).onRaise (fun x=>do noteFrame x env; theTreesLotGoes x)) _ _ s
 refine wpAny_noted ?_
 rw[compTurn_list]
 refine wo (wpAny_standAt (wo (Eo (turn n s hI) (fun r s₁ h₁=>?_) fun _ _ h'=>h'.elim)))
 cases r with
 | none=>exact Do h₁
 | some v =>
  refine wo (Eo h₁ (fun _ s₁' h₁'=>wo (Eo h₁' (fun _ s₂ h₂=>wo (Eo h₂ (fun ok s₃ h₃=>?_) fun _ _ h'=>h'.elim)) fun _ _ h'=>h'.elim)) fun _ _ h'=>h'.elim)
  cases ok with
  | false=>exact Do ⟨rfl,h₃⟩
  | true =>
   exact wo (wo (Eo h₃ (fun x s₄ h₄=>wo (Eo h₄ (fun _ s₅ h₅=>Do (Do ⟨rfl,h₅⟩)) fun _ _ h'=>h'.elim)) fun _ _ h'=>h'.elim))
end
noncomputable def blk (X:Cx) (scope:Scope) (cl:List (Str×Addr)) (N':List Str) (s₀:Shared) (H₀:Hp) (C:Addr) (pn:List (Addr×Obj)) (ex:List Addr):Cx where
 prog:=X.prog
 w:=X.w
 K:=X.K
 mg:=X.mg
 base:=X.base
 A:=X.A
 N:=N'
 s₀:=s₀
 H₀:=H₀
 env:=compEnvC scope cl C X.env
 outer:=X.stack
 stack:=X.stack
 ex:=ex
 fn:=fun _=>false
 calm:=X.calm
 pn:=pn
 xe:=fun _ _=>False
def oZ (X:Cx) (ifs:List Expr) (t:TT):Prop :=
 ∀ (pins:List (Addr×Obj)) (s:Shared) (σ:St) (H:Hp) (Q:Bool→Hp→Prop),Inv X pins σ H s→t σ H Q →
  wpAny (model X.prog X.w) X.A (forIn ifs true fun c r=>if r=true then do let ok ← isTrue c X.env (eval c X.env); pure (ForInStep.yield ok) else pure (ForInStep.yield r)) (TP X pins σ Q) X.xe s
def wR:TT:=fun _ H Q=>Q true H
def gx {X:Cx}:oZ X [] wR:=fun _ _ _ H _ I h=>wpAny_tests_nil ⟨H,I,h⟩
def iO {X:Cx} {c:Expr} {t:TT} (h:PT X c t):oZ X [c] t:=fun pins s σ H Q I q=>wpAny_tests_one (h pins s σ H Q I q)
noncomputable def slots (ix:List Nat) (σ:St):St:=ix.map fun j=>(σ[j]?).getD none
def qZ (D:Addr) (J:It) (g:TG) (tt:TT) (te:TE) (Q:VK) (W:Nat→Nat→St→Hp→Prop):Prop :=
 ∀ i m τ H2,W i m τ H2→(J.stop i H2∧Q (.ref D) H2)∨(J.go i H2∧∀ x H3,J.yld i H2 x H3→g x τ H3 fun τ' H3'=>tt τ' H3' fun b H4 =>
  if b=true then te τ' H4 fun v H5=>∃ ys,H5 D=some (.lst ys)∧ys.length<sizeLine∧∃ m',m'<m∧W (i+1) m' τ' (upd H5 D (.lst (ys++[v]))) else ∃ m',m'<m∧W (i+1) m' τ' H4)
def wF (ix:List Nat) (nl:Nat) (wi:TI) (g:TG) (tt:TT) (te:TE):TE:=fun σ H Q=>wi σ H fun J H1=>∀ D,H1 D=none →
 ∃ W:Nat→Nat→St→Hp→Prop,(∃ m,W 0 m (slots ix σ++Ez nl none) (upd H1 D (.lst [])))∧qZ D J g tt te Q W
structure CompOk (X:Cx) (scope:Scope) (cl:List (Str×Addr)) (N':List Str) (ix:List Nat) (nl:Nat):Prop where
 clos:closureFor scope X.env=pure cl
 sub:∀ y c,cl.lookup y=some c→X.env.cells.lookup y=some c
 has:∀ p∈(F4 scope X.env).names,(p.2=.cell∨p.2=.free)→(cl.lookup p.1).isSome=true
 cell:∀ y∈scope.names,y.2≠.cell
 kind:scope.kind=.function
 names:∀ y∈scope.names,y.2=.local→scope.names.lookup y.1=some .local
 len:N'.length=ix.length+nl
 out:∀ (i j:Nat) (y:Str),ix[i]?=some j→N'[i]?=some y→X.N[j]?=some y∧(X.env.kindOf y=some .cell∨X.env.kindOf y=some .free)∧((F4 scope X.env).names.lookup y=some .cell∨(F4 scope X.env).names.lookup y=some .free)
def fm0 {α:Type} {P:α→Prop}:∀ p∈([]:List α),P p:=fun _ h=>nomatch h
def fm1 {α:Type} {P:α→Prop} {a:α} {l:List α} (h:P a) (r:∀ p∈l,P p):∀ p∈a::l,P p:=Jl.mpr ⟨h,r⟩
def OutsOk (X:Cx) (scope:Scope):List Nat→List Str→Prop
 | [],_=>True
 | j::r,y::t=>(X.N[j]?=some y∧(X.env.kindOf y=some .cell∨X.env.kindOf y=some .free)∧((F4 scope X.env).names.lookup y=some .cell∨(F4 scope X.env).names.lookup y=some .free))∧OutsOk X scope r t
 | _::_,[]=>False
theorem OutsOk.at {X:Cx} {scope:Scope}:∀ {ix:List Nat} {N:List Str},OutsOk X scope ix N→∀ (i j:Nat) (y:Str),ix[i]?=some j→N[i]?=some y→X.N[j]?=some y∧(X.env.kindOf y=some .cell∨X.env.kindOf y=some .free)∧((F4 scope X.env).names.lookup y=some .cell∨(F4 scope X.env).names.lookup y=some .free)
 | [],_,_,i,j,y,h1,_=>by simp at h1
 | _::_,[],h,_,_,_,_,_=>h.elim
 | _::_,_::_,h,0,j,y,h1,h2=>by
  simp at h1 h2
  subst h1 h2
  exact h.1
 | _::_,_::_,h,i+1,j,y,h1,h2=>OutsOk.at h.2 i j y (by simpa using h1) (by simpa using h2)
def CompOk.make {cl:List (Str×Addr)} {ix:List Nat} (clos:closureFor scope X.env=pure cl) (sub:∀ p∈cl,X.env.cells.lookup p.1=some p.2)
  (has:((F4 scope X.env).names.all fun p=>!(p.2 == .cell || p.2 == .free) || (cl.lookup p.1).isSome)=true) (cell:∀ y∈scope.names,y.2≠.cell) (kind:scope.kind=.function)
  (names:∀ y∈scope.names,y.2=.local→scope.names.lookup y.1=some .local) (len:N'.length=ix.length+nl) (out:OutsOk X scope ix N'):CompOk X scope cl N' ix nl :=
 ⟨clos,fun y c h=>sub (y,c) (EM h),fun p hp hc=>by
  have q:=Ek.mp has p hp
  rcases hc with e | e <;> (rw[e] at q; simpa using q),cell,kind,names,len,out.at⟩
section
variable {X:Cx} {pins:List (Addr×Obj)} {σ:St} {H:Hp} {s:Shared}
def yO {cl:List (Str×Addr)} {ix:List Nat} (O:CompOk X scope cl N' ix nl) (I:Inv X pins σ H s) (hC:s.heap.objs.size≤C) (f:∀ b∈fp,FpOk X pins H b) (lt:∀ b∈fp,b<s.heap.objs.size) :
  (blk X scope cl N' s H C (X.pn++pins) fp).Ok where
 mod:=I.ok.mod
 kind:=O.kind
 glob:=I.ok.glob
 blt:=I.ok.blt
 above:=hC
 inj:=fun x y c h1 h2=>I.ok.inj x y c (O.sub x c h1) (O.sub y c h2)
 has:=fun x hx=>by
  have hx':(F4 scope X.env).names.lookup x=some .cell∨(F4 scope X.env).names.lookup x=some .free:=hx
  rcases hx' with h | h
  ·exact EN.mp (O.has _ (EM h) (.inl rfl))
  ·exact EN.mp (O.has _ (EM h) (.inr rfl))
 cab:=fun x c h=>nomatch (show false=true from h)
 hd:=I.ok.hd
 frames:=I.ok.frames
 stk:=.inl rfl
 exf:=fun b hb=>⟨Nat.ne_of_lt (Nat.lt_of_lt_of_le (lt b hb) hC),fun x c h=>(f b hb).2.2.2.2.1 x c (O.sub x c h)⟩
 bs:=I.bs
 bsz:=Nat.le_trans I.ok.bsz I.sz
 noex:=fun b o e hb=>by
  rcases (f b hb).2.2.2.1 with z | z
  ·exact I.ok.noex b o e z
  ·exact absurd (Nat.lt_of_lt_of_le (Dy e) (Nat.le_trans I.ok.bsz z)) (Nat.lt_irrefl _)
 exfs:=fun b hb z=>by
  rcases Du.mp (I.stkSub b z) with e | e
  ·exact (f b hb).2.1 e
  ·exact (f b hb).2.2.1 e
 funs:=I.stack
 frf:=I.stkFree
def Bj {cl:List (Str×Addr)} {ix:List Nat} (O:CompOk X scope cl N' ix nl) (I:Inv X pins σ H s) (hC:s.heap.objs.size≤C) (f:∀ b∈fp,FpOk X pins H b) (lt:∀ b∈fp,b<s.heap.objs.size)
  (hn:h'.Ns C fun _=>none) (k:∀ b o,s.heap.get? b=some o→h'.get? b=some o) :
  Inv (blk X scope cl N' s H C (X.pn++pins) fp) [] (slots ix σ++Ez nl none) H { s with heap:=h',toks:=t' }:=by
 refine⟨yO O I hC f lt,rfl,I.bare,Un.kept k,⟨_,hn,fun i x v e1 e2 e3=>?_⟩,fun x c e=>?_,I.hok.fresh hC,fun x c e=>I.freeC x c (O.sub x c e),fun p hp=>?_,I.hok.kept k,?_⟩
 ·have e1:N'[i]?=some x:=e1
  have hi:i<ix.length:=by
   by_cases hi:i<ix.length
   ·exact hi
   ·rw[HF (by simpa [slots] using hi)] at e2
    rw[GJ] at e2
    split at e2 <;> cases e2
  have e2':(σ[ix[i]]?).getD none=some v:=by
   rw[HX (by simpa [slots] using hi)] at e2
   simpa [slots,hi] using e2
  have e4:σ[ix[i]]?=some (some v):=by
   cases q:σ[ix[i]]? with
   | none=>rw[q] at e2'; cases e2'
   | some z=>rw[q] at e2'; exact congrArg some e2'
  obtain⟨o1,o2,o3⟩:=O.out i ix[i] x (by simp [hi]) e1
  obtain⟨m,hm,hl⟩:=I.loc
  have vis:Vis X.env.scope x:=by
   rcases o2 with z | z
   ·exact .inr (.inl z)
   ·exact .inr (.inr z)
  obtain⟨u,r,l⟩:=hl _ x v o1 e4 vis
  rcases l with ⟨z,_⟩ | ⟨_,c,hc,o,ho,hd⟩
  ·rcases o2 with y | y <;> (rw[y] at z; cases z)
  ·obtain⟨c',hc'⟩:=(yO O I hC f lt).has x o3
   have z:=O.sub x c' hc'
   rw[hc] at z
   cases z
   exact⟨u,r,.inr ⟨o3,c,hc',o,k _ _ ho,hd⟩⟩
 ·obtain⟨v,q⟩:=I.cell x c (O.sub x c e)
  exact⟨v,by obtain⟨o,ho,hd⟩:=q; exact⟨o,k _ _ ho,hd⟩⟩
 ·have hp':p∈X.pn++pins:=by
   have z:p∈(X.pn++pins)++[]:=hp
   rwa [D9] at z
  obtain⟨a1,a2,a3,a4,a5⟩:=I.pin p hp'
  refine⟨k _ _ a1,a2,Nat.ne_of_lt (Nat.lt_of_lt_of_le (Dy a1) hC),fun z=>?_,a5⟩
  rcases Du.mp (I.stkSub p.1 z) with e | e
  ·exact a3 e
  ·exact a4 e
 ·show (slots ix σ++Ez nl none).length=N'.length
  rw[Dp,G2,O.len]
  simp [slots]
def z6 {cl:List (Str×Addr)} {τ:St} (I:Inv X pins σ H s) (f:∀ b∈fp,FpOk X pins H b)
  (J:Inv (blk X scope cl N' s H C (X.pn++pins) fp) [] τ H' s'):Inv X pins σ H' s' :=
 I.call' J.os J.base J.hok J.bare fun b hb=>⟨(f b hb).2.2.2.1,(f b hb).2.1,(f b hb).2.2.2.2.1,(f b hb).2.2.2.2.2⟩
def Inv.letgo (J:Inv X pins σ H s') (hsz:X.s₀.heap.objs.size≤C) (hL:C≠X.env.locals) (hc:∀ x c,X.env.cells.lookup x=some c→c≠C) (hp:∀ p∈X.pn++pins,p.1≠C) (hH:H C=none)
  (sb:Gy C s'.heap h'):Inv X pins σ H { s' with heap:=h' } :=
 J.turned (t':=s'.toks) (it:=C) (fun b o hb e=>sb.extBut b o hb e) hH hL (.inr hsz) hc hp
def z9 {elt iter:Expr} {ifs:List Expr} {cl:List (Str×Addr)} {tn:Nat→Heap→Prop} {J:It} {g:TG} {tt:TT} {te:TE} {s₄:Shared} {W:Nat→Nat→St→Hp→Prop}
  {τ:St} {H₀:Hp} {s₃:Shared} {pn:List (Addr×Obj)} {m0:Nat} {R:Result→Shared→Prop} (hc:X.calm=true) (T:Turn X.prog X.w X.K tg J fp it tn)
  (f:∀ H',(∀ b∈fp,H' b=none)→∀ b∈fp,FpOk (blk X scope cl N' s₃ H₀ C pn fp) [] H' b)
  (hg:PG (blk X scope cl N' s₃ H₀ C pn fp) tg g) (ht:oZ (blk X scope cl N' s₃ H₀ C pn fp) ifs tt) (he:PE (blk X scope cl N' s₃ H₀ C pn fp) elt te)
  (I4:Inv (blk X scope cl N' s₃ H₀ C pn fp) [] τ H s₄) (st:tn 0 s₄.heap) (fr:∀ b∈fp,H b=none) (w0:W 0 m0 τ H) (hW:qZ D J g tt te Q W)
  (fin:∀ τ' H' s',Inv (blk X scope cl N' s₃ H₀ C pn fp) [] τ' H' s'→Q (.ref D) H'→R (.ok .next) s') :
  GH (model X.prog X.w) X.A (.compLoop (.ListComp elt [⟨tg,iter,ifs,0⟩] scope pos) 0 (.ref it) (.ref D) (compEnvC scope cl C X.env)) R s₄:=by
 refine ud (fun n s'=>∃ i τ' H',Inv (blk X scope cl N' s₃ H₀ C pn fp) [] τ' H' s'∧tn i s'.heap∧(∀ b∈fp,H' b=none)∧W i n τ' H') ?_ m0 ⟨0,τ,H,I4,st,fr,w0⟩
 rintro n s5 ⟨i,τ5,H5,I5,st5,fr5,w5⟩
 rcases hW i n τ5 H5 w5 with ⟨stop,q⟩ | ⟨go,step⟩
 ·refine thn (T.done (blk X scope cl N' s₃ H₀ C pn fp) rfl rfl rfl hc i [] s5 τ5 H5 (fun _ _=>False) I5 (f H5 fr5) st5 stop) fun r s6 ⟨hr,I6⟩=>?_
  subst hr
  exact fin τ5 H5 s6 I6 q
 ·refine thn (T.item (blk X scope cl N' s₃ H₀ C pn fp) rfl rfl rfl hc i [] s5 τ5 H5 (fun _ _=>False) I5 (f H5 fr5) st5 go) fun r s6 ⟨u,hr,h6⟩=>?_
  subst hr
  refine thn h6 fun _ s7 ⟨x,H7,I7,r7,y7,st7,fr7⟩=>?_
  have I7':=I7.pinned (f H7 fr7) (T.obj _ _ st7)
  have keep:∀ {τ8:St} {H8:Hp} {s8:Shared},Inv (blk X scope cl N' s₃ H₀ C pn fp) ([]++l6 fp s7.heap) τ8 H8 s8→Inv (blk X scope cl N' s₃ H₀ C pn fp) [] τ8 H8 s8∧tn (i+1) s8.heap∧∀ b∈fp,H8 b=none:=fun {τ8 H8 s8} I8=>by
   refine⟨I8.unpinned,T.keep _ _ _ st7 fun b hb o e=>(I8.pin (b,o) (DM _ (DM _ (j5 hb e)))).1,fun b hb=>?_⟩
   obtain⟨o,e,d⟩:=T.obj _ _ st7 b hb
   exact (I8.pin (b,o) (DM _ (DM _ (j5 hb e)))).2.1
  refine thn (hg _ s7 τ5 H7 x u _ I7' r7 (step x H7 y7)) fun _ s8 ⟨τ8,H8,I8,q8⟩=>?_
  refine thn (ht _ s8 τ8 H8 _ I8 q8) fun b s9 ⟨H9,I9,q9⟩=>?_
  cases b with
  | false =>
   obtain⟨m',hm,w'⟩:=q9
   obtain⟨k1,k2,k3⟩:=keep I9
   exact⟨m',hm,i+1,τ8,H9,k1,k2,k3,w'⟩
  | true =>
   refine thn (he _ s9 τ8 H9 _ I9 q9) fun y s10 ⟨v,H10,I10,r10,ys,hD,hl,m',hm,w'⟩=>?_
   refine thn (iS _ s10 τ8 H10 (.ref D) [v] (.ref D) [y] (fun _ H11=>W (i+1) m' τ8 H11) I10 rfl (.cons r10 .nil) ⟨D,ys,v,rfl,rfl,hD,hl,w'⟩) fun z s11 ⟨_,H11,I11,_,w11⟩=>?_
   obtain⟨k1,k2,k3⟩:=keep I11
   exact⟨m',hm,i+1,τ8,H11,k1,k2,k3,w11⟩
end
section
variable {X:Cx} {elt iter tg:Expr} {ifs:List Expr} {scope:Scope} {pos:Pos} {cl:List (Str×Addr)} {N':List Str} {ix:List Nat} {nl:Nat} {wi:TI} {g:TG} {tt:TT} {te:TE}
structure Left (X:Cx) (pins:List (Addr×Obj)) (σ:St) (C:Addr) (H:Hp) (s:Shared):Prop where
 inv:Inv X pins σ H s
 ns:∃ m,s.heap.Ns C m
 sz:X.s₀.heap.objs.size≤C
 loc:C≠X.env.locals
 cel:∀ x c,X.env.cells.lookup x=some c→c≠C
 pin:∀ p∈X.pn++pins,p.1≠C
 non:H C=none
def rA {H1:Hp} {s2:Shared} {tn:Nat→Heap→Prop} {J:It} {RR:Value→Addr→Result→Shared→Prop}
  (hc:X.calm=true) (O:CompOk X scope cl N' ix nl) (hg:∀ s₀ H₀ C pn ex,PG (blk X scope cl N' s₀ H₀ C pn ex) tg g) (ht:∀ s₀ H₀ C pn ex,oZ (blk X scope cl N' s₀ H₀ C pn ex) ifs tt)
  (he:∀ s₀ H₀ C pn ex,PE (blk X scope cl N' s₀ H₀ C pn ex) elt te) (I1:Inv X pins σ H1 s2) (T:Turn X.prog X.w X.K tg J fp it tn) (st:tn 0 s2.heap) (f1:∀ b∈fp,FpOk X pins H1 b)
  (q:∀ D,H1 D=none→∃ W:Nat→Nat→St→Hp→Prop,(∃ m,W 0 m (slots ix σ++Ez nl none) (upd H1 D (.lst [])))∧qZ D J g tt te Q W)
  (fin:∀ D C H' s',Left X pins σ C H' s'→Q (.ref D) H'→RR (.ref D) C (.ok .next) s') :
  wpAny (model X.prog X.w) X.A (newList []) (fun acc s₃=>wpAny (model X.prog X.w) X.A (newFunctionEnv scope X.env.globals cl [] X.env.qual none .none (some X.env)) (fun cenv s₄ =>
   GH (model X.prog X.w) X.A (.compStart (.ListComp elt [⟨tg,iter,ifs,0⟩] scope pos) 0 (.ref it) acc { cenv with scope:=F4 scope X.env }) (RR acc cenv.locals) s₄) E s₃) E s2:=by
 refine Fo (wpAny_newFunctionEnv O.cell (by intro y hy; simp at hy) (fun h₁ hns₁ hsb₁=>?_) O.kind)
 have hf:H1 s2.heap.objs.size=none:=I1.hok.fresh (Nat.le_refl _)
 obtain⟨W,⟨m0,w0⟩,hW⟩:=q s2.heap.objs.size hf
 have lt:∀ b∈fp,b<s2.heap.objs.size:=fun b hb=>by
  obtain⟨o,e,_⟩:=T.obj _ _ st b hb
  exact Dy e
 have I3:Inv X pins σ (upd H1 s2.heap.objs.size (.lst [])) { s2 with heap:=s2.heap.push { cls:=.type "list",data:=.seq ([]:List Value).toArray } } :=
  I1.laid (t':=s2.toks) (fun b u e=>Dl _ e) (Nat.le_refl _) ⟨Nat.zero_le _,[],0,.nil,Dr _ rfl⟩
 have f3:∀ b∈fp,FpOk X pins (upd H1 s2.heap.objs.size (.lst [])) b:=fun b hb=>⟨by rw[aZ (Nat.ne_of_lt (lt b hb))]; exact (f1 b hb).1,(f1 b hb).2⟩
 have sz:(s2.heap.push { cls:=.type "list",data:=.seq ([]:List Value).toArray }).objs.size=s2.heap.objs.size+1:=Fi ..
 have lt3:∀ b∈fp,b<(s2.heap.push { cls:=.type "list",data:=.seq ([]:List Value).toArray }).objs.size:=fun b hb=>by rw[sz]; exact Nat.lt_succ_of_lt (lt b hb)
 have k3:∀ b o,(s2.heap.push { cls:=.type "list",data:=.seq ([]:List Value).toArray }).get? b=some o→h₁.get? b=some o:=fun b o e=>hsb₁.extBut b o (Nat.ne_of_lt (Dy e)) (Dl _ e)
 have I4:=Bj (t':=s2.toks+([]:List (Str×Value)).length) O I3 (Nat.le_refl _) f3 lt3 hns₁ k3
 have st4:tn 0 h₁:=T.keep _ _ _ st fun b hb o e=>k3 b o (Dl _ e)
 have fB:∀ H',(∀ b∈fp,H' b=none)→∀ b∈fp,FpOk (blk X scope cl N' { s2 with heap:=s2.heap.push { cls:=.type "list",data:=.seq ([]:List Value).toArray } } (upd H1 s2.heap.objs.size (.lst [])) (s2.heap.push { cls:=.type "list",data:=.seq ([]:List Value).toArray }).objs.size (X.pn++pins) fp) [] H' b:=fun H' hn b hb=>by
  refine⟨hn b hb,Nat.ne_of_lt (lt3 b hb),?_,.inl hb,fun x c h=>(f1 b hb).2.2.2.2.1 x c (O.sub x c h),fun p hp=>?_⟩
  ·intro z
   rcases Du.mp (I3.stkSub b z) with e | e
   ·exact (f1 b hb).2.1 e
   ·exact (f1 b hb).2.2.1 e
  ·have hp':p∈X.pn++pins:=by
    have z:p∈(X.pn++pins)++[]:=hp
    rwa [D9] at z
   exact (f1 b hb).2.2.2.2.2 p hp'
 have loop:=z9 (pos:=pos) (iter:=iter) (R:=RR (.ref s2.heap.objs.size) (s2.heap.push { cls:=.type "list",data:=.seq ([]:List Value).toArray }).objs.size) hc T fB (hg _ _ _ _ _) (ht _ _ _ _ _) (he _ _ _ _ _) I4 st4 (fun b hb=>(f3 b hb).1) w0 hW (fun τ' H' s' J' qf=>by
  obtain⟨m,hm,_⟩:=J'.loc
  refine fin _ _ H' s' ⟨z6 I3 f3 J',⟨m,hm⟩,I3.sz,Nat.ne_of_gt I3.lt,fun x c e z=>?_,fun p hp z=>?_,J'.free⟩ qf
  ·obtain⟨v,o,ho,_⟩:=I3.cell x c e
   exact absurd (Dy ho) (by rw[z]; exact Nat.lt_irrefl _)
  ·exact absurd (Dy (I3.pin p hp).1) (by rw[z]; exact Nat.lt_irrefl _))
 exact codeAny_compStart_list loop (T.self _ 0 _ _ _ st4 loop)
def fQ (hc:X.calm=true) (O:CompOk X scope cl N' ix nl) (hi:PI X tg iter wi) (hg:∀ s₀ H₀ C pn ex,PG (blk X scope cl N' s₀ H₀ C pn ex) tg g) (ht:∀ s₀ H₀ C pn ex,oZ (blk X scope cl N' s₀ H₀ C pn ex) ifs tt)
  (he:∀ s₀ H₀ C pn ex,PE (blk X scope cl N' s₀ H₀ C pn ex) elt te) (hs:∀ x,Ib iter X.env x=pure x:=by intro _; rfl) :
  PE X (.ListComp elt [⟨tg,iter,ifs,0⟩] scope pos) (wF ix nl wi g tt te):=by
 intro pins s σ H Q I h
 rw[eval_ListComp]
 refine Ie (use:=none) rfl hs O.clos O.kind O.names (thn (hi pins s σ H _ I h) fun xv s1 h1=>thn h1 fun itv s2 h2=>?_)
 obtain⟨it,fp,tn,J,H1,rfl,I1,T,st,f1,q⟩:=h2
 refine rA (RR:=fun acc C=>compPost (model X.prog X.w) X.A X.xe none (EP X pins σ Q) acc C) hc O hg ht he I1 T st f1 q (fun D C H' s' L qf=>?_)
 obtain⟨m,hm⟩:=L.ns
 exact⟨m,hm,fun h' sb=>⟨.ref D,H',L.inv.letgo L.sz L.loc L.cel L.pin L.non sb,rfl,qf⟩⟩
def ju {i:Nat} {y:Str} {py spos:Pos} (hN:X.N.Nodup) (hiy:X.N[i]?=some y) (hy:Loc X.env.scope y) (hc:X.calm=true) (O:CompOk X scope cl N' ix nl) (hi:PI X tg iter wi) (hg:∀ s₀ H₀ C pn ex,PG (blk X scope cl N' s₀ H₀ C pn ex) tg g)
  (ht:∀ s₀ H₀ C pn ex,oZ (blk X scope cl N' s₀ H₀ C pn ex) ifs tt) (he:∀ s₀ H₀ C pn ex,PE (blk X scope cl N' s₀ H₀ C pn ex) elt te)
  (hsw:Ia (.ListComp elt [⟨tg,iter,ifs,0⟩] scope pos) (some (.Name y py)) spos.line X.env=pure true) (hs:∀ x,Ib iter X.env x=pure x:=by intro _; rfl)
  (hf:X.fn y=true∨X.env.scope.names.lookup y=some .local:=by first | exact .inl rfl | exact .inr rfl | assumption) :
  PS X (.Assign [.Name y py] (.ListComp elt [⟨tg,iter,ifs,0⟩] scope pos) spos) (sS (wF ix nl wi g tt te) (lB i)):=by
 intro pins s σ H D0 I h
 rw[exec_Assign_Name_used _ _ _ _ hsw]
 refine wo (wpAny_standAt (wo ?_))
 show wpAny _ X.A (do let _ ← comprehension (.ListComp elt [⟨tg,iter,ifs,0⟩] scope pos) scope X.env _ (newList []) false (eval iter X.env) (some (assign (.Name y py) X.env))) _ _ s
 refine wo (Eo (Ie (use:=some (assign (.Name y py) X.env)) (Q:=fun _ s'=>SP X pins D0 .next s') rfl hs O.clos O.kind O.names (thn (hi pins s σ H _ I h) fun xv s1 h1=>thn h1 fun itv s2 h2=>?_)) (fun _ s' hq=>Do (Do hq)) fun _ _ e=>e)
 obtain⟨it,fp,tn,J,H1,rfl,I1,T,st,f1,q⟩:=h2
 refine rA (RR:=fun acc C=>compPost (model X.prog X.w) X.A X.xe (some (assign (.Name y py) X.env)) (fun _ s'=>SP X pins D0 .next s') acc C) hc O hg ht he I1 T st f1 q (fun D C H' s' L qf=>?_)
 obtain⟨m,hm⟩:=L.ns
 show wpAny _ X.A (assign (.Name y py) X.env (.ref D)) _ _ _
 refine wpAny_assign_Name (qz L.inv hN hiy hy (v:=.ref D) rfl (fun s'' I'' z=>?_) hf)
 obtain⟨a,sb2,ha⟩:=z
 have ne:C≠a:=by
  rcases ha with e | e
  ·rw[e]; exact L.loc
  ·exact fun z=>L.cel _ a e z.symm
 refine⟨m,hm.at' fun o e=>sb2.extBut C o ne e,fun h' sb=>⟨_,H',I''.letgo L.sz L.loc L.cel L.pin L.non sb,qf⟩⟩
end
def Be (r:Vals xs its) {j:Nat} (h:j<its.length):∃ x,xs[j]?=some x∧RelV x its[j]:=by
 have hl:=r.length
 have hj:j<xs.length:=by exact Oz20 h hl
 obtain⟨u,e,rv⟩:=r.get (i:=j) (x:=xs[j]) (by simp [hj])
 have e2:its[j]?=some its[j]:=by simp [h]
 rw[e2] at e
 cases e
 exact⟨xs[j],by simp [hj],rv⟩
def jT (D:Addr) (g:TG) (tt:TT) (te:TE) (x:V) (τ:St) (H:Hp) (R:St→Hp→Prop):Prop:=g x τ H fun τ' H'=>tt τ' H' fun b H4 =>
 if b=true then te τ' H4 fun v H5=>∃ ys,H5 D=some (.lst ys)∧ys.length<sizeLine∧R τ' (upd H5 D (.lst (ys++[v]))) else R τ' H4
def jf (D:Addr) (J:It) (g:TG) (tt:TT) (te:TE) (Q:VK) (τ:St) (H:Hp):Prop:=∃ W:Nat→Nat→St→Hp→Prop,(∃ m,W 0 m τ H)∧qZ D J g tt te Q W
def zV {ix:List Nat} {wi:TI} {g:TG} {tt:TT} {te:TE} :
  wF ix nl wi g tt te σ H Q=wi σ H fun J H1=>∀ D,H1 D=none→jf D J g tt te Q (slots ix σ++Ez nl none) (upd H1 D (.lst [])):=rfl
section
variable {K:cy} {D a:Addr} {g:TG} {tt:TT} {te:TE} {Q:VK} {τ:St} {H:Hp}
def jK {n:Nat} (Pv:Nat→St→Hp→Prop) (h0:Pv 0 τ H)
  (hs:∀ i τ H (R:St→Hp→Prop),i<n→Pv i τ H→(∀ τ' H',Pv (i+1) τ' H'→R τ' H')→jT D g tt te (.int (lo+i)) τ H R) (hd:∀ τ H,Pv n τ H→Q (.ref D) H):jf D (Itr lo n) g tt te Q τ H:=by
 refine⟨fun i m τ H=>m=n-i∧i≤n∧Pv i τ H,⟨n,by simp,Nat.zero_le _,h0⟩,?_⟩
 rintro i m τ H2 ⟨rfl,hi,p⟩
 by_cases hlt:i<n
 ·refine .inr ⟨hlt,fun x H' y=>?_⟩
  obtain⟨e,y⟩:=y
  subst e y
  exact hs i τ _ (fun τ' H'=>∃ m',m'<n-i∧m'=n-(i+1)∧i+1≤n∧Pv (i+1) τ' H') hlt p fun τ' H' p'=>⟨_,by exact Oz1 hlt,rfl,hlt,p'⟩
 ·have e:i=n:=by exact Oz10 hi hlt
  subst e
  exact .inl ⟨Nat.le_refl _,hd τ H2 p⟩
def fR (xs:List V) (Pv:Nat→St→Hp→Prop) (h0:Pv 0 τ H) (hl:∀ i τ H,i≤xs.length→Pv i τ H→SqL K H a xs)
  (hs:∀ i x τ H (R:St→Hp→Prop),xs[i]?=some x→Pv i τ H→(∀ τ' H',Pv (i+1) τ' H'→R τ' H')→jT D g tt te x τ H R) (hd:∀ τ H,Pv xs.length τ H→Q (.ref D) H):jf D (Itl K a) g tt te Q τ H:=by
 refine⟨fun i m τ H=>m=xs.length-i∧i≤xs.length∧Pv i τ H,⟨xs.length,by simp,Nat.zero_le _,h0⟩,?_⟩
 rintro i m τ H2 ⟨rfl,hi,p⟩
 have q:=hl i τ H2 hi p
 by_cases hlt:i<xs.length
 ·have hx:xs[i]?=some xs[i]:=by simp [hlt]
  refine .inr ⟨⟨xs,_,q,hx⟩,fun x H' y=>?_⟩
  obtain⟨e,y⟩:=y
  subst e
  have e2:=y xs q
  rw[hx] at e2
  cases e2
  exact hs i _ τ _ (fun τ' H'=>∃ m',m'<xs.length-i∧m'=xs.length-(i+1)∧i+1≤xs.length∧Pv (i+1) τ' H') hx p fun τ' H' p'=>⟨_,by exact Oz1 hlt,rfl,hlt,p'⟩
 ·have e:i=xs.length:=by exact Oz10 hi hlt
  subst e
  exact .inl ⟨⟨xs,q,Nat.le_refl _⟩,hd τ H2 p⟩
def mG (xs:List V) (Pv:Nat→St→Hp→Prop) (h0:Pv 0 τ H) (hl:∀ i τ H,i≤xs.length→Pv i τ H→SqT K H a xs)
  (hs:∀ i x τ H (R:St→Hp→Prop),xs[i]?=some x→Pv i τ H→(∀ τ' H',Pv (i+1) τ' H'→R τ' H')→jT D g tt te x τ H R) (hd:∀ τ H,Pv xs.length τ H→Q (.ref D) H):jf D (Itt K a) g tt te Q τ H:=by
 refine⟨fun i m τ H=>m=xs.length-i∧i≤xs.length∧Pv i τ H,⟨xs.length,by simp,Nat.zero_le _,h0⟩,?_⟩
 rintro i m τ H2 ⟨rfl,hi,p⟩
 have q:=hl i τ H2 hi p
 by_cases hlt:i<xs.length
 ·have hx:xs[i]?=some xs[i]:=by simp [hlt]
  refine .inr ⟨⟨xs,_,q,hx⟩,fun x H' y=>?_⟩
  obtain⟨e,y⟩:=y
  subst e
  have e2:=y xs q
  rw[hx] at e2
  cases e2
  exact hs i _ τ _ (fun τ' H'=>∃ m',m'<xs.length-i∧m'=xs.length-(i+1)∧i+1≤xs.length∧Pv (i+1) τ' H') hx p fun τ' H' p'=>⟨_,by exact Oz1 hlt,rfl,hlt,p'⟩
 ·have e:i=xs.length:=by exact Oz10 hi hlt
  subst e
  exact .inl ⟨⟨xs,q,Nat.le_refl _⟩,hd τ H2 p⟩
def SqT.lst {p b:Addr} {zs:List V} (h:SqT K H b xs) (hp:H p=some (.lst ys)):SqT K (upd H p (.lst zs)) b xs:=by
 rcases h with (h | ⟨o,h⟩) | h
 ·exact .inl (.inl (by rw[aZ (qW h hp (by intro z; cases z))]; exact h))
 ·exact .inl (.inr ⟨o,by rw[aZ (qW h hp (by intro z; cases z))]; exact h⟩)
 ·exact .inr h
end
section
variable {X:Cx} {K:cy}
def Ag (h:X.K=K):IxR X (vY K):=by subst h; exact ix_list
def gG (h:X.K=K):IxR X (tM K):=by subst h; exact ix_tup
def qP (h:X.K=K):gU X (.builtin "len") (fun xs H Q=>∃ p ys,xs=[.ref p]∧(SqL K H p ys∨SqT K H p ys)∧Q (.int ys.length) H):=by subst h; exact cQ
end
section
variable {prog:Dz} {w:World} {A:Around} {E:Value→Shared→Prop} {s:Shared}
def nZ {l:Addr} {i:Nat} {x:Value} {Q:Value→Shared→Prop} (hit:s.heap.IsTupleIter it l i)
  (hl:s.heap.IsTuple l items) (hx:items[i]?=some x) (hQ:∀ h',h'.IsTupleIter it l (i+1)→Gy it s.heap h'→Q x { s with heap:=h' }) :
  wpAny (model prog w) A (FE (.ref it)) Q E s:=by
 obtain⟨o,ho,hc,hd⟩:=id hit
 obtain⟨ol,hol,_,nl,hdl⟩:=hl
 unfold FE
 refine wo (Fg (name:=Dj "__next__") hit.typeIs F.slot_tuple_iterator_next
  (Gs F.slot_tuple_iterator_next hit.typeIs F.entry_tuple_iterator_next ?_ (F.args_tuple_iterator_next_1 _)))
 show wpAny _ _ (field (.ref it) 0 >>= _) _ _ s
 refine wo (Gw ho hd (x:=.ref l) rfl ?_)
 show wpAny _ _ (if (Value.ref l == Value.none)=true then _ else _) _ _ s
 rw[if_neg (show ¬ ((Value.ref l == Value.none)=true) from DC)]
 show wpAny _ _ (field (.ref it) 1 >>= _) _ _ s
 refine wo (Gw ho hd (x:=.int i 0) rfl ?_)
 show wpAny _ _ (seqItems? (.ref l) >>= _) _ _ s
 refine wo (wpAny_seqItems hol hdl ?_)
 simp only [EA,hx]
 refine wo (wpAny_setField ho hd (by simp) (Do ⟨x,rfl,Do (hQ _ ?_ (Jy ..))⟩))
 exact⟨_,IW _ ho (Obj.isFreed_of_fields (Obj.data_mapFields hd _)),(Obj.cls_mapFields ..).trans hc,by
  rw[Obj.data_mapFields hd]; simp [rawInt]⟩
def k7 {l:Addr} {i:Nat} {Q:Value→Shared→Prop} (hh:A.handled=none) (hit:s.heap.IsTupleIter it l i) (hl:s.heap.IsTuple l items) (hx:items[i]?=none)
  (hE:∀ h' e,Heap.ExtBut it s.heap h'→(∃ o,h'.get? e=some o∧o.cls=.type "StopIteration")→E (.ref e) { s with heap:=h' }) :
  wpAny (model prog w) A (FE (.ref it)) Q E s:=by
 obtain⟨o,ho,hc,hd⟩:=id hit
 obtain⟨ol,hol,_,nl,hdl⟩:=hl
 unfold FE
 refine wo (Fg (name:=Dj "__next__") hit.typeIs F.slot_tuple_iterator_next
  (Gs F.slot_tuple_iterator_next hit.typeIs F.entry_tuple_iterator_next ?_ (F.args_tuple_iterator_next_1 _)))
 show wpAny _ _ (field (.ref it) 0 >>= _) _ _ s
 refine wo (Gw ho hd (x:=.ref l) rfl ?_)
 show wpAny _ _ (if (Value.ref l == Value.none)=true then _ else _) _ _ s
 rw[if_neg (show ¬ ((Value.ref l == Value.none)=true) from DC)]
 show wpAny _ _ (field (.ref it) 1 >>= _) _ _ s
 refine wo (Gw ho hd (x:=.int i 0) rfl ?_)
 show wpAny _ _ (seqItems? (.ref l) >>= _) _ _ s
 refine wo (wpAny_seqItems hol hdl ?_)
 simp only [EA,hx]
 refine wo (Ig (wo (wpAny_setField ho hd (by simp) ?_)))
 show wpAny _ _ (newExc (.type "StopIteration") [] >>= _) _ _ _
 refine wo ?_
 simp only [newExc,newTuple]
 refine wo (Fo ?_ (by size_fits))
 refine wo (m:=firstArgMember _ _) (wpAny_of_eq (a:=Value.none) (by first | rfl | (simp only [firstArgMember]; rfl)) ?_)
 refine Fo ?_ (by size_fits)
 simp only [raiseNew]
 refine wo (wpAny_handled ?_)
 first | rw[show A.in1.handled=none from hh] | rw[hh]
 refine wo (Do (wpAny_throw ?_))
 exact hE _ _ (((Jy ..).extBut.push _).push _) ⟨_,Dr _ rfl,rfl⟩
end
def Draws.tuple (hh:A.handled=none) (it l:Addr) (hne:l≠it) (items:Array Value) :
  Draws prog w A it [it,l] items.size (fun i v=>items[i]?=some v) (fun i h=>h.IsTupleIter it l i∧h.IsTuple l items) where
 live:=fun _ _ st=>let ⟨o,ho,_⟩:=st.1; ⟨o,ho⟩
 frame:=fun _ _ _ st hk=>⟨st.1.at fun o e=>hk it (by simp) o e,st.2.at fun o e=>hk l (by simp) o e⟩
 item:=fun i s Q E hi st hQ=>by
  refine nZ st.1 st.2 (x:=items[i]) (by simp [hi]) fun h' hit' hs'=>?_
  exact hQ _ h' s.toks (by simp [hi]) ⟨hit',st.2.extBut hs'.extBut hne⟩ hs'
 done:=fun s Q E st hE=>k7 hh st.1 st.2 (by simp) hE
open AutoSeq1 (wpAny_loadPart') in
def lO (l:Addr) (items:Array Value) (n:Nat) (dct:Option Addr) (sl:Array (Option Value)) :
  Meets (Gx.«enumerate.__new__» ⟨[.type "enumerate",.ref l],[]⟩) (fun _ R s=>s.heap.get? l=some { cls:=.type "tuple",dict:=dct,data:=.seq items n,slots:=sl } ∧
   R (.ok (.ret (.ref (s.heap.push { cls:=.type "tuple_iterator",data:=.fields #[.ref l,.int 0 0] }).objs.size)))
    { s with heap:=(s.heap.push { cls:=.type "tuple_iterator",data:=.fields #[.ref l,.int 0 0] }).push { cls:=.type "enumerate",data:=.fields #[.none,.bool false,.ref s.heap.objs.size,rawInt 0,.none,.none] } }) :=
 .of_wp fun prog w A R s h=>by
  obtain⟨hp,g,d,tk,os⟩:=s; obtain⟨hl,h⟩:=h
  have hsub:=sub_enumerate
  have hL:Heap.IsTuple (Shared.heap ⟨hp,g,d,tk,os⟩) l items:=⟨_,hl,rfl,n,rfl⟩
  wp_walk using FN hl
  refine wpAny_stack_any fun st=>Do ?_
  split
  ·rename_i c _ _ _ _ _
   cases (c == Value.type "enumerate")
   ·wp_walk using FN hl,E3 hL
    exact⟨_,rfl,h⟩
   ·wp_walk using FN hl,E3 hL
    exact⟨_,rfl,h⟩
  ·wp_walk using FN hl,E3 hL
   exact⟨_,rfl,h⟩
section
variable {prog:Dz} {w:World} {A:Around} {E:Value→Shared→Prop} {s:Shared}
def l9 {l:Addr} {Q:Value→Shared→Prop} (hL:s.heap.IsTuple l items)
  (h:∀ h',IsEnum h' (s.heap.objs.size+1) s.heap.objs.size 0 .none→h'.IsTupleIter s.heap.objs.size l 0→h'.objs.size=s.heap.objs.size+2 →
   (∀ b o,s.heap.get? b=some o→h'.get? b=some o)→Q (.ref (s.heap.objs.size+1)) { s with heap:=h' }) :
  wpAny (model prog w) A (call (.type "enumerate") [.ref l]) Q E s:=by
 obtain⟨⟨c,dct,dt,sl⟩,hl,hc,n,hd⟩:=hL
 replace hc:c=.type "tuple":=hc
 replace hd:dt=.seq items n:=hd
 subst hc hd
 refine callType_new F.called_enumerate (by decide) (F.typeCall_enumerate_1 _) (F.newCall_enumerate_1 _) (fun obj=>F.args_object_init_2 obj _) F.entry_enumerate_new
  (lO l items n dct sl) ⟨hl,?_⟩
 have hz:(s.heap.push { cls:=.type "tuple_iterator",data:=.fields #[.ref l,.int 0 0] }).objs.size=s.heap.objs.size+1:=Fi ..
 show _∧_
 rw[hz]
 have e1:=Dr (s.heap.push { cls:=.type "tuple_iterator",data:=.fields #[.ref l,.int 0 0] }) (o:={ cls:=.type "enumerate",data:=.fields #[.none,.bool false,.ref s.heap.objs.size,rawInt 0,.none,.none] }) rfl
 rw[hz] at e1
 refine⟨⟨_,e1,rfl⟩,?_⟩
 exact h _ e1 ⟨_,Dl _ (Dr _ rfl),rfl,rfl⟩ (by rw[Fi,hz]) fun b o q=>Dl _ (Dl _ q)
end
def Inv.drew {T:Addr} (I:Inv X pins σ H s) (hf:∀ b∈ch,FpOk X pins H b)
  (k:∀ b o,b ∉ ch→s.heap.get? b=some o→h'.get? b=some o) (hT:s.heap.objs.size≤T) (new:ObjOk X.prog X.w (upd H T (.tup xs)) h' T (.tup xs)):Inv X pins σ (upd H T (.tup xs)) { s with heap:=h',toks:=tk }:=by
 have hn:H T=none:=I.hok.fresh hT
 have nc:∀ b u,H b=some u→b ∉ ch:=fun b u e hb=>by
  have z:=(hf b hb).1
  rw[e] at z
  cases z
 refine I.call (g':=s.gens) (d':=s.drawn) (ch:=ch) ⟨fun b o q n _ hc=>k b o hc q,fun b o q n _ hc=>⟨o.slots,k b o hc q⟩,fun b o q n hc=>by
  rw[aZ (Nat.ne_of_lt (Nat.lt_of_lt_of_le (Dy q) hT))]; exact n,fun b o q hc=>⟨o,k b o hc q⟩,fun b ys q=>by rw[aZ (bZ q hn)]; exact q,
  fun b o u q=>by rw[aZ (bZ q hn)]; exact q,fun b ps q=>⟨#[],by rw[aZ (bZ q hn),q]; simp⟩⟩ (fun b u e=>?_) I.bare fun b hb=>⟨(hf b hb).2.2.2.1,(hf b hb).2.1,(hf b hb).2.2.2.2.1,(hf b hb).2.2.2.2.2⟩
 by_cases hb:b=T
 ·subst hb
  rw[aT] at e
  cases e
  exact new
 ·rw[aZ hb] at e
  refine (I.hok b u e).stay (fun c v hc q=>k c v ?_ q) (fun c q=>by rw[aZ (bZ q hn)]; exact q) fun c ys q=>by rw[aZ (bZ q hn)]; exact q
  rcases hc with rfl | hc
  ·exact nc _ _ e
  ·exact nc _ _ hc
def Inv.turns (I:Inv X pins σ H s) (hf:∀ b∈ch,FpOk X pins H b)
  (k:∀ b o,b ∉ ch→s.heap.get? b=some o→h'.get? b=some o):Inv X pins σ H { s with heap:=h',toks:=tk }:=by
 have nc:∀ b u,H b=some u→b ∉ ch:=fun b u e hb=>by
  have z:=(hf b hb).1
  rw[e] at z
  cases z
 refine I.call (g':=s.gens) (d':=s.drawn) (ch:=ch) ⟨fun b o q n _ hc=>k b o hc q,fun b o q n _ hc=>⟨o.slots,k b o hc q⟩,fun b o q n hc=>n,fun b o q hc=>⟨o,k b o hc q⟩,fun b ys q=>q,
  fun b o u q=>q,fun b ps q=>⟨#[],by rw[q]; simp⟩⟩ (fun b u e=>?_) I.bare fun b hb=>⟨(hf b hb).2.2.2.1,(hf b hb).2.1,(hf b hb).2.2.2.2.1,(hf b hb).2.2.2.2.2⟩
 refine (I.hok b u e).stay (fun c v hc q=>k c v ?_ q) (fun c q=>q) fun c ys q=>q
 rcases hc with rfl | hc
 ·exact nc _ _ e
 ·exact nc _ _ hc
noncomputable def Ite (sq:Hp→List V→Prop):It:=⟨fun i H=>∃ xs x,sq H xs∧xs[i]?=some x,fun i H x H'=>∃ T v,H T=none∧x=.ref T∧H'=upd H T (.tup [.int i,v])∧∀ xs,sq H xs→xs[i]?=some v,fun i H=>∃ xs,sq H xs∧xs.length≤i⟩
def uY {P:Dz} {T:Addr} {a b:V} {v:Value} {n:Nat} (ra:RelV a u) (rb:RelV b v) (e:h.get? T=some { cls:=.type "tuple",data:=.seq #[u,v] n }):ObjOk P w H h T (.tup [a,b]) :=
 ⟨show 2≤sizeLine by decide,[u,v],.cons ra (.cons rb .nil),⟨_,e,rfl,_,rfl⟩,_,e,rfl⟩
def vR {P:Dz} {elts:List Expr} {kk:Nat} (a e it:Addr) (hei:e≠it) :
  Turn P w K (.Tuple elts kk pos) (Ite fun H xs=>SqL K H a xs) [e,it] e (fun i h=>(∃ old,IsEnum h e it i old)∧h.IsListIter it a i) where
 mem:=by simp
 obj:=fun i h st b hb=>by
  obtain⟨⟨old,he⟩,o,ho,c,d⟩:=st
  rcases Du.mp hb with rfl | hb
  ·exact⟨_,he,fun v z=>by cases z⟩
  ·have z:=DA.mp hb
   subst z
   exact⟨o,ho,fun v z=>by rw[d] at z; cases z⟩
 keep:=fun i h h' st k=>by
  obtain⟨⟨old,he⟩,hit⟩:=st
  exact⟨⟨old,k e (by simp) _ he⟩,hit.at fun o q=>k it (by simp) o q⟩
 item:=by
  intro X hP hw hK hc i pins s σ H E I hf st hg
  subst hP hw hK
  obtain⟨xs,x,hq,hx⟩:=hg
  obtain⟨⟨old,he⟩,hit⟩:=st
  obtain⟨its,rv,p,hz⟩:=I.list hq
  obtain⟨u,hu,ru⟩:=rv.get hx
  refine wpAny_pyNext_enum_item he hit p.isList (x:=u) (by simpa using hu) hei fun h' ho hit' hT hsz hk=>⟨_,rfl,?_⟩
  refine HJ ho fun h2 he2 hs2=>?_
  have hel:e<s.heap.objs.size:=Dy he
  have hTe:s.heap.objs.size≠e:=Nat.ne_of_gt hel
  have hil:it<s.heap.objs.size:=by obtain⟨_,y,_⟩:=hit; exact Dy y
  have hT2:h2.get? s.heap.objs.size=some { cls:=.type "tuple",data:=.seq #[.int i s.toks,u] }:=(hs2.2 _ hTe).trans hT
  have hf':H s.heap.objs.size=none:=I.hok.fresh (Nat.le_refl _)
  refine⟨.ref s.heap.objs.size,upd H s.heap.objs.size (.tup [.int i,x]),?_,rfl,⟨_,x,hf',rfl,rfl,fun ys hy=>by rw[I.list_inj hy hq]; exact hx⟩,⟨⟨u,he2⟩,hit'.at fun o q=>(hs2.2 it hei.symm).trans q⟩,fun b hb=>?_⟩
  ·exact I.drew (ch:=[e,it]) (tk:=s.toks+1) hf (fun b o hb q=>(hs2.2 b fun z=>hb (by simp [z])).trans (hk b o (fun z=>hb (by simp [z])) (fun z=>hb (by simp [z])) q)) (Nat.le_refl _) (uY ⟨_,rfl⟩ ru hT2)
  ·have z:b≠s.heap.objs.size:=by
    rcases Du.mp hb with rfl | hb
    ·exact hTe.symm
    ·rw[DA.mp hb]; exact Nat.ne_of_lt hil
   rw[aZ z]
   exact (hf b hb).1
 done:=by
  intro X hP hw hK hc i pins s σ H E I hf st hg
  subst hP hw hK
  obtain⟨xs,hq,hx⟩:=hg
  obtain⟨⟨old,he⟩,hit⟩:=st
  obtain⟨its,rv,p,hz⟩:=I.list hq
  have hl:=rv.length
  exact wpAny_pyNext_enum_end (I.ok.hd hc) he hit p.isList (by simp; exact Oz14 hx hl) fun h' eb=>⟨rfl,I.turns (ch:=[e,it]) (tk:=s.toks) hf fun b o hb q=>eb b o (fun z=>hb (by simp [z])) q⟩
 self:=fun A i s Q E st h=>by
  obtain⟨⟨old,he⟩,_⟩:=st
  exact GZ he h
def xF {P:Dz} {elts:List Expr} {kk:Nat} (a e it:Addr) (hei:e≠it) (hea:e≠a) (hai:a≠it) :
  Turn P w K (.Tuple elts kk pos) (Ite fun H xs=>SqT K H a xs) [e,it] e (fun i h=>(∃ old,IsEnum h e it i old)∧h.IsTupleIter it a i) where
 mem:=by simp
 obj:=fun i h st b hb=>by
  obtain⟨⟨old,he⟩,o,ho,c,d⟩:=st
  rcases Du.mp hb with rfl | hb
  ·exact⟨_,he,fun v z=>by cases z⟩
  ·have z:=DA.mp hb
   subst z
   exact⟨o,ho,fun v z=>by rw[d] at z; cases z⟩
 keep:=fun i h h' st k=>by
  obtain⟨⟨old,he⟩,hit⟩:=st
  exact⟨⟨old,k e (by simp) _ he⟩,hit.at fun o q=>k it (by simp) o q⟩
 item:=by
  intro X hP hw hK hc i pins s σ H E I hf st hg
  subst hP hw hK
  obtain⟨xs,x,hq,hx⟩:=hg
  obtain⟨⟨old,he⟩,hit⟩:=st
  obtain⟨its,rv,p,hz⟩:=I.tuple hq
  obtain⟨u,hu,ru⟩:=rv.get hx
  have hu':its.toArray[i]?=some u:=by simpa using hu
  have D:=Draws.tuple (prog:=X.prog) (w:=X.w) (A:=X.A.in1) (show X.A.in1.handled=none from I.ok.hd hc) it a hai its.toArray
  refine wpAny_pyNext_enum_itemD D he ⟨hit,p⟩ (Array.getElem?_eq_some_iff.mp hu').1 hei (by simp [hei,hea]) fun x' h' tk hP ho hit' hT hsz hk=>⟨_,rfl,?_⟩
  rw[hu'] at hP
  cases hP
  refine HJ ho fun h2 he2 hs2=>?_
  have hel:e<s.heap.objs.size:=Dy he
  have hTe:s.heap.objs.size≠e:=Nat.ne_of_gt hel
  have hil:it<s.heap.objs.size:=by obtain⟨_,y,_⟩:=hit; exact Dy y
  have hT2:h2.get? s.heap.objs.size=some { cls:=.type "tuple",data:=.seq #[.int i tk,u] }:=(hs2.2 _ hTe).trans hT
  have hf':H s.heap.objs.size=none:=I.hok.fresh (Nat.le_refl _)
  refine⟨.ref s.heap.objs.size,upd H s.heap.objs.size (.tup [.int i,x]),?_,rfl,⟨_,x,hf',rfl,rfl,fun ys hy=>by rw[I.tuple_inj hy hq]; exact hx⟩,⟨⟨u,he2⟩,hit'.1.at fun o q=>(hs2.2 it hei.symm).trans q⟩,fun b hb=>?_⟩
  ·exact I.drew (ch:=[e,it]) (tk:=tk+1) hf (fun b o hb q=>(hs2.2 b fun z=>hb (by simp [z])).trans (hk b o (fun z=>hb (by simp [z])) (fun z=>hb (by simp [z])) q)) (Nat.le_refl _) (uY ⟨_,rfl⟩ ru hT2)
  ·have z:b≠s.heap.objs.size:=by
    rcases Du.mp hb with rfl | hb
    ·exact hTe.symm
    ·rw[DA.mp hb]; exact Nat.ne_of_lt hil
   rw[aZ z]
   exact (hf b hb).1
 done:=by
  intro X hP hw hK hc i pins s σ H E I hf st hg
  subst hP hw hK
  obtain⟨xs,hq,hx⟩:=hg
  obtain⟨⟨old,he⟩,hit⟩:=st
  obtain⟨its,rv,p,hz⟩:=I.tuple hq
  have hl:=rv.length
  have hT:s.TypeIs (.ref e) "enumerate":=⟨_,he,rfl⟩
  unfold pyNext
  refine wo (GM (Fg (name:=Dj "__next__") hT F.slot_enumerate_next
   (Gs F.slot_enumerate_next hT F.entry_enumerate_next ?_ (F.args_enumerate_next_1 _))))
  show wpAny _ _ (field (.ref e) 2 >>= _) _ _ _
  refine wo (Gw he rfl (x:=.ref it) rfl ?_)
  refine wo (k7 (show X.A.in1.handled=none from I.ok.hd hc) hit p (by simp; exact Oz14 hx hl) fun h' x he' hx'=>?_)
  obtain⟨o,ho,hc'⟩:=hx'
  refine wo (wpAny_isInstance (T:="StopIteration") (b:=true) ⟨o,ho,hc'⟩ isSubtype_stop ?_)
  exact Do ⟨rfl,I.turns (ch:=[e,it]) (tk:=s.toks) hf fun b o hb q=>he' b o (fun z=>hb (by simp [z])) q⟩
 self:=fun A i s Q E st h=>by
  obtain⟨⟨old,he⟩,_⟩:=st
  exact GZ he h
section
variable {X:Cx} {elts:List Expr} {kk:Nat} {tpos:Pos}
def yG (K:cy) (ta:TA):TI:=fun σ H R=>ta σ H fun vs H1=>∃ a,vs=[.ref a]∧(∃ xs,SqL K H1 a xs)∧R (Ite fun H xs=>SqL K H a xs) H1
def yD (K:cy) (ta:TA):TI:=fun σ H R=>ta σ H fun vs H1=>∃ a,vs=[.ref a]∧(∃ xs,SqT K H1 a xs)∧R (Ite fun H xs=>SqT K H a xs) H1
def lF {a:Expr} {ta:TA} {p pos:Pos} (hg:Gl X "enumerate") (hm:X.mg "enumerate"=none) (ha:PA X [a] ta) (hs:DK [a] X.env=[(false,eval a X.env)]:=by rfl) :
  PI X (.Tuple elts kk tpos) (.Call (.Name "enumerate" p) [a] [] pos) (yG X.K ta):=by
 intro pins s σ H R I h
 refine Call_ (jM I hg hm boot_enumerate (ET (thn (ha pos pins s σ H _ I h) fun us s1 ⟨vs,H1,I1,r1,q1⟩=>?_) hs rfl))
 obtain⟨l,e,⟨xs,hq⟩,q⟩:=q1
 subst e
 cases r1 with
 | cons r rr =>
  cases rr
  cases r
  obtain⟨its,rv,p,hz⟩:=I1.list hq
  refine call_enumerate_list p.isList fun h' hE hI hsz hk=>GZ hE ?_
  refine⟨_,[s1.heap.objs.size+1,s1.heap.objs.size],_,_,H1,rfl,I1.kept (t':=s1.toks) hk,vR l _ _ (Nat.succ_ne_self _),⟨⟨_,hE⟩,hI⟩,fun b hb=>?_,q⟩
  rcases Du.mp hb with rfl | hb
  ·exact I1.fpOk (Nat.le_succ _) (I1.hok.fresh (Nat.le_succ _))
  ·rw[DA.mp hb]
   exact I1.fpOk (Nat.le_refl _) (I1.hok.fresh (Nat.le_refl _))
def lS {a:Expr} {ta:TA} {p pos:Pos} (hg:Gl X "enumerate") (hm:X.mg "enumerate"=none) (ha:PA X [a] ta) (hs:DK [a] X.env=[(false,eval a X.env)]:=by rfl) :
  PI X (.Tuple elts kk tpos) (.Call (.Name "enumerate" p) [a] [] pos) (yD X.K ta):=by
 intro pins s σ H R I h
 refine Call_ (jM I hg hm boot_enumerate (ET (thn (ha pos pins s σ H _ I h) fun us s1 ⟨vs,H1,I1,r1,q1⟩=>?_) hs rfl))
 obtain⟨l,e,⟨xs,hq⟩,q⟩:=q1
 subst e
 cases r1 with
 | cons r rr =>
  cases rr
  cases r
  obtain⟨its,rv,p,hz⟩:=I1.tuple hq
  have hll:l<s1.heap.objs.size:=by obtain⟨o,ho,_⟩:=p; exact Dy ho
  refine l9 p fun h' hE hI hsz hk=>GZ hE ?_
  refine⟨_,[s1.heap.objs.size+1,s1.heap.objs.size],_,_,H1,rfl,I1.kept (t':=s1.toks) hk,xF l _ _ (Nat.succ_ne_self _) (Nat.ne_of_gt (Nat.lt_succ_of_lt hll)) (Nat.ne_of_lt hll),⟨⟨_,hE⟩,hI⟩,fun b hb=>?_,q⟩
  rcases Du.mp hb with rfl | hb
  ·exact I1.fpOk (Nat.le_succ _) (I1.hok.fresh (Nat.le_succ _))
  ·rw[DA.mp hb]
   exact I1.fpOk (Nat.le_refl _) (I1.hok.fresh (Nat.le_refl _))
end
end _l
namespace _ht
open PySem PySem.Spec PyProof.Rows
section
variable {prog:Dz} {w:World} {A:Around} {E:Value→Shared→Prop} {s:Shared}
def getItem_tuple_all {t:Addr} {lo hi:Option Int} {Q:Value→Shared→Prop} (ht:IsTup s.heap t items) (hs:s.heap.IsSliceOf sl vl vu .none) (pl:IsPart vl lo) (pu:IsPart vu hi)
  (hw:sIx items.size 0 lo=0∧sIx items.size items.size hi=items.size) (h:Q (.ref t) s):wpAny (model prog w) A (Ip (.ref t) (.ref sl)) Q E s:=by
 obtain⟨os,hos,hcs,hds⟩:=id hs
 have hTs:s.TypeIs (.ref sl) "slice":=⟨os,hos,hcs⟩
 unfold Ip
 try with_reducible refine EK ?_
 first | refine wo (Do ?_) | skip
 refine wo (wpAny_sequenceKey ht.typeIs (by decide) ?_)
 refine wo (Fg (name:=Dj "__getitem__") ht.typeIs Ep
  (Gs Ep ht.typeIs entry_tuple_getitem ?_ (args_tuple_getitem _ _)))
 show wpAny _ _ (HH (.ref t) >>= _) _ _ s
 refine wo (tupleItemsOf_ ht ?_)
 refine wo (wpAny_typeOf hTs ?_)
 rw[if_pos (by decide)]
 refine wo (kB hs pl pu ?_)
 have hno:((((sIx items.size 0 lo:Nat):Int) == 0 && (1:Int) == 1 && (sIx items.size items.size hi-sIx items.size 0 lo) == items.size)=true):=by
  rw[hw.1,hw.2]
  simp
 show wpAny _ _ (if (((sIx items.size 0 lo:Nat):Int) == 0 && (1:Int) == 1 && (sIx items.size items.size hi-sIx items.size 0 lo) == items.size)=true then _ else _) _ _ s
 rw[if_pos hno]
 show wpAny _ _ (HK (.ref t) >>= _) _ _ s
 refine wo (m:=HK _) (show wpAny _ _ (typeOf (.ref t) >>= _) _ _ s from wo (wpAny_typeOf ht.typeIs (Do ?_)))
 rw[if_pos (by decide)]
 exact wo (Ig (Do ⟨_,rfl,Do h⟩))
end
end _ht
namespace _l
open PySem PySem.Spec PyProof.Rows
section
variable {X:Cx}
def C5 (K:cy):V→Option Int→Option Int→Hp→VK→Prop:=fun x lo hi H Q=>∃ a xs,x=.ref a∧SqT K H a xs∧(gC xs lo hi=xs→Q (.ref a) H)∧∀ p,H p=none→Q (.ref p) (upd H p (.tup (gC xs lo hi)))
def uW:SlR X (C5 X.K):=by
 intro pins s σ H x v vl vu lo hi sl Q I rx hs pl pu h
 obtain⟨a,xs,rfl,hx,q1,q2⟩:=h
 by_cases hw:_ht.sIx xs.length 0 lo=0∧_ht.sIx xs.length xs.length hi=xs.length
 ·cases rx
  obtain⟨its,r,ht,hz⟩:=I.tuple hx
  have hlen:its.toArray.size=xs.length:=by rw[Dk]; exact r.length.symm
  refine⟨"tuple",_,Ep.lookup,ht.typeIs,?_⟩
  refine _ht.getItem_tuple_all ht hs pl pu (by rw[hlen]; exact hw) ⟨.ref a,H,I,rfl,q1 ?_⟩
  unfold gC
  rw[hw.1,hw.2,FF,Nat.sub_zero,Dw (Nat.le_refl _)]
 ·exact B0 pins s σ H _ v vl vu lo hi sl Q I rx hs pl pu ⟨a,xs,rfl,hx,hw,q2⟩
end
def oJ {n:Nat}:gC xs none (some (n:Int))=xs.take n:=by
 unfold gC
 rw[_ht.sIx_nat,_ht.sIx_none,FF,Nat.sub_zero]
 by_cases h:n≤xs.length
 ·rw[Nat.min_eq_left h]
 ·rw[Nat.min_eq_right (by exact Oz28 h),Dw (Nat.le_refl _),Dw (by exact Oz28 h)]
end _l
namespace _l
open PySem PySem.Spec PyProof.Rows
open PySem.Builtin PySem.Builtin.ObjectAttr PySem.Builtin.Getset_descriptor
open PySem.W (Frag Looks looks_findIn looks_specialIn looks_takesIn looks_mroIn looks_subIn looks_typeIn)
def ExcAt (x D:Addr) (h:Heap):Prop:=∃ o vs,h.get? x=some o∧o.cls=.ref D∧o.data=.fields vs
structure XCls (K:Frag) (D:Addr):Prop where
 ga:DG K (.ref D) "__getattribute__"=some (some (.builtin "BaseException.__getattribute__"))
 gt:DG K (.ref D) "__getattr__"=some none
 ca:DG K (.ref D) "__class__"=some (some (.builtin "object.__class__"))
 cn:EY K (.builtin "object.__class__") "__get__"=some (some (.builtin "getset_descriptor.__get__"))
 tk:FZ K (.builtin "object.__class__")=some true
 mo:EG K D (.type "object")=some true
 mb:EG K D (.type "BaseException")=some true
 is:(Gi K D).isSome=true
section
variable {prog:Dz} {w:World} {A:Around} {E:Value→Shared→Prop} {s:Shared} {K:Frag} {x D:Addr}
def ExcAt.type (I:ExcAt x D h):Looks M h (typeOf (.ref x)) (.ref D):=by
 obtain⟨o,vs,e,c,_⟩:=I
 exact c ▸ (Looks.ld e).andThen .now
def zz {R:Result→Shared→Prop} {tp:Value} (X:K.In s.heap) (I:ExcAt x D s.heap) (hm:EG K D (.type "object")=some true)
  (h:R (.ok (.ret (.ref D))) s):GH (model prog w) A (.call (.builtin "getset_descriptor.__get__") ⟨[.builtin "object.__class__",.ref x,tp],[]⟩) R s:=by
 obtain⟨hh,g,dr,t,os⟩:=s
 have L0:=I.type (M:=model prog w)
 have L1:=looks_mroIn (M:=model prog w) X hm
 refine Ff JH.plain PySem.W.KF.entry_gs (JH.check _ _ _ _ _ _ _ _ PySem.W.KF.type_class (PySem.W.KF.args_gs _ _ _) ?_)
 unfold Gx.«getset_descriptor.__get__» descrGet
 rw[PySem.W.dga_obj]
 refine wo (Do ?_)
 unfold descrGetter descrCheckInstance descrNameAndClass isInstance
 simp only [PySem.W.KF.owner_class]
 repeat lk
 refine⟨Code.quiet_builtin _ (by decide +kernel),GN PySem.W.KF.entry_class ?_⟩
 unfold Gx.«object.__class__» shownTypeOf
 repeat lk
 exact h
def yI (X:K.In h) (c:XCls K D):Looks M h (find (.ref x) (.ref D) "__class__") (.bind (.builtin "getset_descriptor.__get__") (.builtin "object.__class__")):=by
 have L1:=looks_findIn (M:=M) X c.ca
 have _l:Looks M h (getOf (some (.builtin "object.__class__"))) (some (.builtin "getset_descriptor.__get__")):=looks_specialIn X c.cn
 have L3:=looks_takesIn (M:=M) X c.tk
 have L4:Looks M h (dataDescriptor? (some (.builtin "object.__class__")) (some (.builtin "getset_descriptor.__get__"))) (some (.builtin "getset_descriptor.__get__",.builtin "object.__class__")):=L3.andThen .now
 unfold find
 exact L1.andThen (_l.andThen (L4.andThen (Looks.tag .now)))
def wM {tk:Tok} {Q:Fin→Shared→Prop} (X:K.In s.heap) (c:XCls K D) (I:ExcAt x D s.heap) (hq:Q (.done (.ret (.ref D))) s) :
  wpAny (model prog w) A (Gx.«object.__getattribute__» ⟨[.ref x,.str "__class__" tk],[]⟩) Q E s:=by
 obtain⟨hh,g,dr,t,os⟩:=s
 have L0:=I.type (M:=model prog w)
 have L1:=yI (M:=model prog w) (x:=x) X c
 unfold Gx.«object.__getattribute__»
 refine wo (Do (wo (Do (wo (L0.at (wo (L1.at ?_)))))))
 show wpAny _ _ (JK [.builtin "object.__class__"] (call (.builtin "getset_descriptor.__get__") [.builtin "object.__class__",.ref x,.ref D]) >>= ret) _ _ _
 exact wo (EK (Gg (zz X I c.mo (Do hq))))
def vX {nameV:Value} {Q:Unit→Shared→Prop} (X:K.In s.heap) (c:XCls K D) (I:ExcAt x D s.heap) (hq:Q () s):wpAny M A (Fb "BaseException.__getattribute__" ⟨[.ref x,nameV],[]⟩) Q E s:=by
 obtain⟨hh,g,dr,t,os⟩:=s
 have hk:builtinKind "BaseException.__getattribute__"=some .slot:=by decide +kernel
 have hsplit:splitId "BaseException.__getattribute__"=some ("BaseException","__getattribute__"):=by decide +kernel
 have ha:=F.args_bexc_ga (.ref x) nameV
 have L0:=I.type (M:=M)
 have L1:=looks_mroIn (M:=M) X c.mb
 have _l:Looks M hh (isInstance (.ref x) (.type "BaseException")) true:=L0.andThen L1
 simp only [Fb,hk,hsplit]
 refine wo (_l.at ?_)
 repeat (first | wp_step)
 exact hq
def ze {Q:Option Value→Shared→Prop} (X:K.In s.heap) (c:XCls K D) (I:ExcAt x D s.heap) (hq:Q (some (.ref D)) { s with toks:=s.toks+1 }):wpAny (model prog w) A (getAttr? (.ref x) "__class__") Q E s:=by
 obtain⟨hh,g,dr,t,os⟩:=s
 have L0:=I.type (M:=model prog w)
 have L1:=looks_findIn (M:=model prog w) X c.ga
 have _l:=looks_findIn (M:=model prog w) X c.gt
 have hb:=F.excAttr_ValueError.ga.bind (.ref x)
 unfold getAttr? getAttrBy? getAttrBy
 refine wo (wpAny_mkText (wo (GM (EK (wo (L0.at (wo (L1.at ?_))))))))
 show wpAny _ _ (getAttrByItsOwn _ _ _ _ _ _) _ _ _
 unfold getAttrByItsOwn
 refine wo (show wpAny _ _ (typeLookup (.ref D) "__getattr__") _ _ _ from _l.at ?_)
 refine wo (GM (EK ?_))
 show wpAny _ _ (boundAndCalled _ _ _) _ _ _
 unfold boundAndCalled
 rw[hb]
 refine wo (Do (Gg ?_))
 refine Ff F.excAttr_ValueError.ga.plain F.entry_bexc_ga (vX X c I (wM X c I ?_))
 show wpAny _ _ (handedOut (.ref D)) _ _ _
 exact PySem.W.handed_on rfl (Do hq)
def nI (c:XCls K D):PySem.W.KitX K (.ref x) (.ref D) (ExcAt x D) where
 ty:=fun _ _ _ I=>I.type
 it:=fun _ _ X _=>by
  obtain⟨cdD,hcD⟩:=EN.mp c.is
  unfold Gi at hcD
  split at hcD
  ·rename_i c' d' cd' sl' ho
   intro A' Q' E' s' k q
   unfold isType loadHead
   exact wo (Jo (k _ _ (X _ _ ho)) (Do q))
  ·cases hcD
 ne:=fun h tp dd its n sl X htp=>by
  obtain⟨cdD,hcD⟩:=EN.mp c.is
  refine Ih.mpr fun q=>?_
  have e:D=tp:=Value.ref.inj (beq_iff_eq.mp q)
  subst e
  unfold Gi at hcD
  split at hcD
  ·rename_i c' d' cd' sl' ho
   have z:=(X _ _ ho).symm.trans htp
   cases z
  ·cases hcD
 ca:=fun X I k=>ze X c I k
def tE {b:Bool} {Q:Bool→Shared→Prop} (X:K.In s.heap) (I:ExcAt x D s.heap) (hc:Gi K C≠none) (ht:HW K (.ref C)=some (.type "type")) (hb:EG K C (.type "BaseException")=some true)
  (hs:Gj K (.ref D) (.ref C)=some b) (hq:Q b s):wpAny M A (excMatches (.ref x) (.ref C)) Q E s:=by
 obtain⟨hh,g,dr,t,os⟩:=s
 have L0:=I.type (M:=M)
 have L1:=looks_typeIn (M:=M) X ht
 have _l:Looks M hh (isSubtype (.type "type") (.type "tuple")) false:=Looks.of_pure (by rw[Jq]; kernel_rfl)
 have L3:Looks M hh (isInstance (.ref C) (.type "tuple")) false:=L1.andThen _l
 have L4:=looks_mroIn (M:=M) X hb
 have L5:=looks_subIn (M:=M) X hs
 have L6:Looks M hh (isType (.ref C)) true:=by
  obtain⟨cdD,hcD⟩:=Option.ne_none_iff_exists'.mp hc
  unfold Gi at hcD
  split at hcD
  ·rename_i c' d' cd' sl' ho
   intro A' Q' E' s' k q
   unfold isType loadHead
   exact wo (Jo (k _ _ (X _ _ ho)) (Do q))
  ·cases hcD
 have L7:Looks M hh (isExcClass (.ref C)) true:=L6.andThen L4
 unfold excMatches
 refine wo (L3.at ?_)
 rw[if_neg DC]
 refine wo (Do ?_)
 simp only [Hv,Jr]
 refine wo (wo (wo (L7.at ?_)))
 rw[if_neg (by decide)]
 refine Do (Do (wo (L0.at (wo (wo (wo (L5.at ?_)))))))
 cases b with
 | true=>exact Do (Do (Do hq))
 | false=>exact Do (Do (Do hq))
end
end _l
namespace _l
open PySem PySem.Spec PyProof.Rows
def ObjOk.here {P:Dz} {a:Addr} (x:ObjOk P w H h a o):∃ ob,h.get? a=some ob:=by
 cases o with
 | lst xs=>obtain⟨_,_,_,_,e⟩:=x; exact⟨_,e⟩
 | tup xs=>obtain⟨_,_,_,_,ob,e,_⟩:=x; exact⟨_,e⟩
 | dK kvs=>obtain⟨_,_,_,_,o,_,_,e,_⟩:=x; exact⟨_,e⟩
 | dT kvs=>obtain⟨_,_,_,_,o,_,_,e,_⟩:=x; exact⟨_,e⟩
 | set S n=>obtain⟨o,_,_,_,e,_⟩:=x; exact⟨_,e⟩
 | ins C dx fs=>obtain⟨_,_,_,e,_⟩:=x; exact⟨_,e⟩
 | own y=>exact x
 | xd fs=>obtain⟨_,⟨_,_,_,e,_⟩,_⟩:=x; exact⟨_,e⟩
 | rng lo hi=>obtain⟨_,_,_,e⟩:=x; exact⟨_,e⟩
 | frz ob u=>obtain⟨e,_⟩:=x; exact⟨_,e⟩
 | tbl ps=>exact⟨_,(show h.get? a=some _ from x)⟩
 | met f y=>exact⟨_,(show h.get? a=some _ from x)⟩
 | ext φ=>obtain⟨_,e,_⟩:=x; exact e
structure Fly (P:Dz) (w:World) (outer:List Env) (H:Hp) (s:Shared) (B:Heap) (H':Hp) (a C:Addr) (a0:Value) (s':Shared):Prop where
 os:s'.os=s.os
 bare:Im s'.gens
 un:Un (frs outer) [] H H' s.heap s'.heap
 hok:HOk P w H' s'.heap
 fly:HR B outer a (.ref C) a0 s'.heap
 old:∀ b o,s'.heap.get? b=some o→(∃ o',s.heap.get? b=some o')→b ∉ frs outer→B.get? b=some o
 trk:∀ b u o,H' b=some u→s'.heap.get? b=some o→B.get? b=some o
 new:H' a=none
 fresh:s.heap.get? a=none
def CXE (P:Dz) (w:World):CXT:=fun outer H s E e s'=>∃ a C H' B a0,e=.ref a∧Fly P w outer H s B H' a C a0 s'∧E (.ref C) none H'
section
variable {P:Dz} {w:World} {outer:List Env} {H H':Hp} {s s':Shared} {B:Heap} {a C:Addr} {a0:Value} {h6:Heap}
def Fly.excAt (F:Fly P w outer H s B H' a C a0 s'):ExcAt a C s'.heap:=by
 obtain⟨_,_,_,oe,vs,_,_,_,he,hc,hd,_⟩:=F.fly
 exact⟨oe,vs,he,hc.1,hd⟩
def Fly.on (F:Fly P w outer H s B H' a C a0 s') (fl:HR B outer a (.ref C) a0 h6) (up:s'.heap.UpToSlots h6):Fly P w outer H s B H' a C a0 { s' with heap:=h6 }:=by
 have st:=fl.1
 have fr:∀ b∈frs outer,∀ o,s'.heap.get? b=some o→∃ sl,h6.get? b=some { o with slots:=sl }:=fun b hb o e=>by
  obtain⟨_,o',e',hd⟩:=F.fly.2.2.1.mem hb
  rw[e] at e'
  cases e'
  exact up b o e hd
 have inB:∀ b o,s'.heap.get? b=some o→(∃ o',s.heap.get? b=some o')→b ∉ frs outer→h6.get? b=some o:=fun b o e x hb=>st b o (F.old b o e x hb)
 refine⟨F.os,F.bare,⟨fun b o e n hb hx=>?_,fun b o e n hb hx=>?_,F.un.free,fun b o e hx=>?_,F.un.tups,F.un.frzs,F.un.tbls⟩,fun b u e=>?_,fl,fun b o e x hb=>?_,fun b u o e q=>?_,F.new,F.fresh⟩
 ·exact inB b o (F.un.keep b o e n hb hx) ⟨o,e⟩ hb
 ·obtain⟨sl,e1⟩:=F.un.slot b o e n hb hx
  obtain⟨sl',e2⟩:=fr b hb _ e1
  exact⟨sl',e2⟩
 ·obtain⟨o',e1⟩:=F.un.there b o e hx
  by_cases hb:b∈frs outer
  ·obtain⟨sl,e2⟩:=fr b hb _ e1
   exact⟨_,e2⟩
  ·exact⟨o',inB b o' e1 ⟨o,e⟩ hb⟩
 ·refine (F.hok b u e).stay (fun c v hc q=>?_) (fun _ q=>q) fun _ _ q=>q
  have tc:∃ u',H' c=some u':=by
   rcases hc with rfl | hc
   ·exact⟨u,e⟩
   ·exact⟨_,hc⟩
  obtain⟨u',eu⟩:=tc
  exact st c v (F.trk c u' v eu q)
 ·obtain⟨o',ho'⟩:=x
  obtain⟨o1,e1⟩:=F.un.there b o' ho' (by simp)
  have z:=F.old b o1 e1 ⟨o',ho'⟩ hb
  have z2:h6.get? b=some o1:=st b o1 z
  rw[show h6.get? b=some o from e] at z2
  cases z2
  exact z
 ·obtain⟨o1,e1⟩:=(F.hok b u e).here
  have z:=F.trk b u o1 e e1
  have z2:h6.get? b=some o1:=st b o1 z
  rw[show h6.get? b=some o from q] at z2
  cases z2
  exact z
end
def zx {outer:List Env} {L:Addr} (h:env.frame=some L):frs (env::outer)=L::frs outer:=by
 unfold frs
 rw[Gv,h]
section
variable {X:Cx} {pins:List (Addr×Obj)} {σ:St} {H H':Hp} {s s':Shared} {B:Heap} {a C:Addr} {a0:Value}
def Inv.caught (I:Inv X pins σ H s) (F:Fly X.prog X.w X.stack H s B H' a C a0 s'):Inv X pins σ H' s':=by
 obtain⟨hh,g,d,t,os'⟩:=s'
 obtain rfl:os'=s.os:=F.os
 exact I.call (h':=hh) (g':=g) (d':=d) (t':=t) (ch:=[]) F.un F.hok F.bare (fun b z=>absurd z (by simp))
def Inv.flies (I:Inv X pins σ H s) (hx:X.ex=[]) (hs:X.stack=X.env::X.outer) (hf:X.env.frame=some X.env.locals) (F:Fly X.prog X.w X.stack H s B H' a C a0 s') (fl:HR B X.outer a (.ref C) a0 s'.heap) :
  Fly X.prog X.w X.outer X.H₀ X.s₀ B H' a C a0 s':=by
 have u:=F.un
 have ol:=F.old
 rw[hs,zx hf] at u ol
 have nex:∀ b:Addr,b ∉ X.ex:=fun b=>by rw[hx]; simp
 have neL:∀ b o,X.s₀.heap.get? b=some o→b≠X.env.locals:=fun b o e=>Nat.ne_of_lt (Nat.lt_of_lt_of_le (Dy e) I.ok.above)
 refine⟨F.os.trans I.os,F.bare,⟨fun b o e n hb _=>?_,fun b o e n hb _=>?_,fun b o e n _=>?_,fun b o e _=>?_,fun b xs e=>u.tups b xs (I.base.tups b xs e),fun b o v e=>u.frzs b o v (I.base.frzs b o v e),fun b ps e=>?_⟩,F.hok,fl,fun b o e x hb=>?_,F.trk,F.new,?_⟩
 ·exact u.keep b o (I.base.keep b o e n hb (nex b)) (I.base.free b o e n (nex b)) (by simp [neL b o e]; exact hb) (by simp)
 ·obtain⟨sl,e1⟩:=I.base.slot b o e n hb (nex b)
  obtain⟨sl',e2⟩:=u.slot b _ e1 (I.base.free b o e n (nex b)) (DI _ hb) (by simp)
  exact⟨sl',e2⟩
 ·obtain⟨o',e1⟩:=I.base.there b o e (nex b)
  exact u.free b o' e1 (I.base.free b o e n (nex b)) (by simp)
 ·obtain⟨o',e1⟩:=I.base.there b o e (nex b)
  exact u.there b o' e1 (by simp)
 ·obtain⟨m1,e1⟩:=I.base.tbls b ps e
  obtain⟨m2,e2⟩:=u.tbls b _ e1
  exact⟨m1++m2,by rw[e2,JG]⟩
 ·obtain⟨o',ho'⟩:=x
  obtain⟨o1,e1⟩:=I.base.there b o' ho' (nex b)
  exact ol b o e ⟨o1,e1⟩ (by simp [neL b o' ho']; exact hb)
 ·cases q:X.s₀.heap.get? a with
  | none=>rfl
  | some o =>
   obtain⟨o',e⟩:=I.base.there a o q (nex a)
   rw[F.fresh] at e
   cases e
def Inv.made' {args:List Value} (I:Inv X pins σ H s) (hs:X.stack=X.env::X.outer) (hf:X.env.frame=some X.env.locals) (hm:Heap.MadeExcOf s.heap h' a (.ref C) args) {Q:Unit→Shared→Prop}
  (k:∀ B a0 s',Fly X.prog X.w X.stack H s B H a C a0 s'→HR B X.outer a (.ref C) a0 s'.heap→Q () s') {M:Model}:wpAny M X.A (leaving X.env (.ref a)) Q E { s with heap:=h' }:=by
 have fr:=I.stack
 rw[hs] at fr
 have hfr:=I.ok.frames
 rw[hs] at hfr
 have hin:∀ env∈(X.env::X.outer),∀ b,env.frame=some b→b∈frs (X.env::X.outer):=fun env he b hb=>HN.mpr ⟨env,he,hb⟩
 refine wpAny_leaves_madeW (base:=GC s.heap (frs (X.env::X.outer))) hfr hf (fun b o q=>JF _ q) (IL fr hin) hm fun h'' t x1 x2 x3 x4=>?_
 have ha:H a=none:=by
  cases q:H a with
  | none=>rfl
  | some u =>
   obtain⟨o,e⟩:=(I.hok a u q).here
   rw[hm.new] at e
   cases e
 have st:=x1.1
 have hd:∀ b o,s.heap.get? b=some o→b ∉ frs (X.env::X.outer)→(GC s.heap (frs (X.env::X.outer))).get? b=some o:=fun b o e n=>Ju _ e n
 have frm:∀ b∈frs (X.env::X.outer),∀ o,s.heap.get? b=some o→∃ sl,h''.get? b=some { o with slots:=sl }:=fun b hb o e=>by
  obtain⟨_,o',e',hdt⟩:=fr.mem hb
  rw[e] at e'
  cases e'
  exact x4 b o (hm.keeps b o e) hdt
 have nt:∀ b u,H b=some u→b ∉ frs (X.env::X.outer):=fun b u e hb=>by
  have z:=I.stkFree b (by rw[hs]; exact hb)
  rw[e] at z
  cases z
 refine k (GC s.heap (frs (X.env::X.outer))) (.ref t) { s with heap:=h'' } ?_ x1
 rw[hs]
 refine⟨rfl,I.bare,⟨fun b o e n hb _=>st b o (hd b o e hb),fun b o e n hb _=>frm b hb o e,fun _ _ _ n _=>n,fun b o e _=>?_,fun _ _ e=>e,fun _ _ _ e=>e,fun b ps e=>⟨#[],by rw[e]; simp⟩⟩,fun b u e=>?_,?_,fun b o e x hb=>?_,fun b u o e q=>?_,ha,hm.new⟩
 ·by_cases hb:b∈frs (X.env::X.outer)
  ·obtain⟨sl,q⟩:=frm b hb o e
   exact⟨_,q⟩
  ·exact⟨o,st b o (hd b o e hb)⟩
 ·refine (I.hok b u e).stay (fun c v hc q=>?_) (fun _ q=>q) fun _ _ q=>q
  refine st c v (hd c v q ?_)
  rcases hc with rfl | hc
  ·exact nt _ _ e
  ·exact nt _ _ hc
 ·obtain⟨k1,k2,k3,k4⟩:=x1
  refine⟨k1,k2,?_,k4⟩
  have ff:h''.FunFrames (GC s.heap (frs (X.env::X.outer))) (X.env::X.outer):=by
   have f0:=IL fr hin
   refine f0.of_keeps fun b o e hdt=>?_
   by_cases hb:b∈frs (X.env::X.outer)
   ·obtain⟨sl,q⟩:=frm b hb o e
    exact⟨_,q,rfl⟩
   ·exact⟨o,st b o (hd b o e hb),rfl⟩
  exact ff
 ·obtain⟨o',e'⟩:=x
  have z:=hd b o' e' hb
  have z2:h''.get? b=some o':=st b o' z
  rw[show h''.get? b=some o from e] at z2
  cases z2
  exact z
 ·obtain⟨o1,e1⟩:=(I.hok b u e).here
  have z:=hd b o1 e1 (nt b u e)
  have z2:h''.get? b=some o1:=st b o1 z
  rw[show h''.get? b=some o from q] at z2
  cases z2
  exact z
end
def Throws (X:Cx) (E:XK):Prop:=∀ (pins:List (Addr×Obj)) (σ:St) (H:Hp) (s:Shared) (h':Heap) (a C:Addr) (args:List Value),Inv X pins σ H s→Heap.MadeExcOf s.heap h' a (.ref C) args→E (.ref C) none H→X.xe (.ref a) { s with heap:=h' }
section
variable {P:Dz} {w:World} {K:cy} {mg:Str→Option Value} {base:Heap} {N:List Str} {qual:Str} {scope:Scope} {f:Addr} {cd:Value} {A:Around} {outer:List Env} {s:Shared} {H:Hp} {E:XK}
def iw:Throws (kR (CXE P w) P w K mg base N qual scope f cd A outer s H E) E:=by
 intro pins σ H1 s1 h' a C args I hm e
 exact I.made' rfl rfl hm fun B a0 s' F fl=>⟨a,C,H1,B,a0,rfl,I.flies rfl rfl rfl F fl,e⟩
def iL:kC (CXE P w) (kR (CXE P w) P w K mg base N qual scope f cd A outer s H E) E:=by
 rintro pins σ H1 s1 ev s' I ⟨a,C,H',B,a0,rfl,F,e⟩
 show wpAny _ _ (leaving _ (.ref a)) _ _ s'
 refine wpAny_leaves_onW I.ok.frames rfl F.fly fun h' fl up=>?_
 have fl2:HR B (envOfC qual scope s.heap.objs.size f cd::outer) a (.ref C) a0 h':=by
  obtain⟨k1,k2,k3,k4⟩:=fl
  refine⟨k1,k2,?_,k4⟩
  refine F.fly.2.2.1.of_keeps fun b o e hd=>?_
  obtain⟨sl,q⟩:=up b o e hd
  exact⟨_,q,rfl⟩
 exact⟨a,C,H',B,a0,rfl,I.flies rfl rfl rfl (F.on fl2 up) fl,e⟩
end
def Fun.okX {P:Dz} {x:Str} {st:Stmt} {k:Nat} (F:Fun K x qual st f fd) (S:FnScope N ps (defScope st)) (len:∀ vs H Q E,sp vs H Q E→vs.length=ps.length)
  (hbody:∀ (cdv:Value) (A:Around) (outer:List Env) (s:Shared) (H:Hp) (vs:List V) (Q:VK) (E:XK),Room k (A.deeper (envOfC qual (defScope st) s.heap.objs.size f cdv))→sp vs H Q E →
   ∃ t,PSs (kR (CXE P w) P w K mg base N qual (defScope st) f cdv A outer s H E) (defBody st) t∧t { nx:=fun _ H'=>Q .non H',rt:=Q } (start N vs) H):FnOk P w K mg base (CXE P w) (k+1) f fd ps sp:=by
 obtain⟨oc,od,kV,doc,pm,an,cdv,ct,osl,rfl,lk,hcd⟩:=F.ex
 exact Ax lk hcd S len fun A outer s H vs Q E hr hsp=>hbody cdv A outer s H vs Q E hr hsp
noncomputable abbrev bmVE:List Value:=[.type "ValueError",.type "Exception",.type "BaseException",.type "object"]
structure XRaise (K:cy) (mg:Str→Option Value) (x:Str) (C:Addr):Prop where
 at_:mg x=some (.ref C)
 ex:Hq K C bmVE "ValueError.__new__"=true
def XRaise.own {x:Str} (R:XRaise K mg x C) (X:K.In h):OwnCls x C bmVE "ValueError.__new__" mg h:=by
 refine⟨R.at_,?_⟩
 have q:=R.ex
 unfold Hq at q
 split at q
 ·rename_i dd cd sl ho
  split at q
  ·rename_i C' bm k0 k1 k2 k3 n k5 hm hs
   simp only [E8,beq_iff_eq,Bool.not_eq_true'] at q
   obtain⟨⟨⟨⟨⟨rfl,rfl⟩,hdel⟩,ht⟩,hok⟩,hni⟩:=q
   obtain⟨nm,bs,mro,ns,qn,hd,sn,sub,ab,col,del⟩:=cd
   dsimp only at hm hdel hok hni
   subst hm hdel
   have hsl:sl = #[k0,k1,k2,k3,some (.builtin "ValueError.__new__"),k5]:=by
    obtain⟨l⟩:=sl
    simp only at hs
    rw[hs]
   subst hsl
   exact⟨bm,ns,nm,qn,bs,hd,sn,sub,ab,col,dd,k0,k1,k2,k3,k5,_,X _ _ ho,.of_isNs (PySem.W.isNs_of_in X hok),PySem.W.nsMap_none_of_in X hok hni,PySem.W.tail_of_in X ht⟩
  ·cases q
 ·cases q
def yk (E:XK) (C:Addr) (t:TA):TS:=fun _ σ H=>t σ H fun vs H1=>vs.length≤sizeLine∧E (.ref C) none H1
def iH {X:Cx} {E:XK} {k:Nat} {x:Str} {C:Addr} {e₀:Expr} {rest:List Expr} {np cpos pos:Pos} {t:TA} (T:Throws X E) (hr:Room k X.A) (hg:Gl X x) (R:XRaise X.K X.mg x C) (ha:PA X (e₀::rest) t)
  (he:DK (e₀::rest) X.env=(false,eval e₀ X.env)::DK rest X.env:=by rfl) (hpl:(backTo cpos (DK rest X.env)).any (·.1)=false:=by rfl) (hd:(x == ("__debug__":Str))=false:=by decide) :
  PS X (.Raise (some (.Call (.Name x np) (e₀::rest) [] cpos)) none pos) (yk E C t):=by
 intro pins s σ H D I h
 obtain⟨tl,N,nm,q,bs,hdct,sn,sub,ab,col,dd,k0,k1,k2,k3,k5,mN,hC,hN,hni,TL⟩:=(R.own I.mod.kin).obj
 refine wpAny_Raise_call_subT (C:=C) (nm:=nm) (q:=q) (N:=N) (bs:=bs) (bm:=tl) (hdct:=hdct) (sn:=sn) (sub:=sub) (ab:=ab) (col:=col) (dd:=dd) (k0:=k0) (k1:=k1) (k2:=k2) (k3:=k3) (k5:=k5)
  HL (mN:=mN) (TL.hasType HL.hasBase) hr.hd (by rw[he]; show (false || (backTo cpos (DK rest X.env)).any (·.1))=false; rw[hpl]; rfl) hni (jl I hg R.at_ ⟨rfl,?_⟩ hd)
 have h0:=ha cpos pins s σ H _ I h
 rw[he] at h0 ⊢
 exact Jk (Eo h0 (fun us s₂ ⟨vs,H1,I1,r,z,q⟩=>⟨rfl,by rw[← r.length]; exact z,I1.bk _ _ hC,hN.keeps I1.bk,TL.keeps I1.bk,fun h' e hm=>T pins σ H1 s₂ h' e C us I1 hm q⟩) fun _ _ y=>y)
noncomputable abbrev Cx.suite (X:Cx) (a:Addr):Cx:={ X with A:=X.A.mark (some (.ref a)),calm:=false }
def Cx.Ok.suite (ok:X.Ok) (a:Addr):(X.suite a).Ok :=
 ⟨ok.mod,ok.kind,ok.glob,ok.blt,ok.above,ok.inj,ok.has,ok.cab,(fun z=>nomatch z),ok.frames,ok.stk,ok.exf,ok.bs,ok.bsz,ok.noex,ok.exfs,ok.funs,ok.frf⟩
section
variable {X:Cx} {pins:List (Addr×Obj)} {σ:St} {H:Hp} {s:Shared} {a:Addr}
def Inv.suite (I:Inv X pins σ H s) (a:Addr):Inv (X.suite a) pins σ H s:=⟨I.ok.suite a,I.os,I.bare,I.base,I.loc,I.cell,I.free,I.freeC,I.pin,I.hok,I.len⟩
def Inv.unsuite (ok:X.Ok) (I:Inv (X.suite a) pins σ H s):Inv X pins σ H s:=⟨ok,I.os,I.bare,I.base,I.loc,I.cell,I.free,I.freeC,I.pin,I.hok,I.len⟩
def Inv.blank {m':Str→Option Value} (I:Inv X pins σ H s) (hn':h'.Ns X.env.locals m') (hs:Gy X.env.locals s.heap h'):Inv X pins (Ez X.N.length none) H { s with heap:=h',toks:=t' }:=by
 obtain⟨m,hn,_⟩:=I.loc
 obtain⟨oL,_,_,hoL,_⟩:=id hn
 refine⟨I.ok,I.os,I.bare,⟨fun b o e n hb hx=>?_,fun b o e n hb hx=>?_,I.base.free,fun b o e hx=>?_,I.base.tups,I.base.frzs,I.base.tbls⟩,⟨_,hn',fun j y v' e1 e2 e3=>?_⟩,fun y c e=>?_,I.free,I.freeC,fun p hp=>?_,fun b ob e=>?_,by simp⟩
 ·exact (hs.2 b (Nat.ne_of_lt (Nat.lt_of_lt_of_le (Dy e) I.ok.above))).trans (I.base.keep b o e n hb hx)
 ·obtain⟨sl,e1⟩:=I.base.slot b o e n hb hx
  exact⟨sl,(hs.2 b (Nat.ne_of_lt (Nat.lt_of_lt_of_le (Dy e) I.ok.above))).trans e1⟩
 ·obtain⟨o',e1⟩:=I.base.there b o e hx
  exact⟨o',(hs.2 b (Nat.ne_of_lt (Nat.lt_of_lt_of_le (Dy e) I.ok.above))).trans e1⟩
 ·rw[GJ] at e2
  split at e2 <;> cases e2
 ·obtain⟨w',z⟩:=I.cell y c e
  exact⟨w',z.sameBut hs (I.cne y c e)⟩
 ·obtain⟨e,n,ne,nf,d⟩:=I.pin p hp
  exact⟨(hs.2 p.1 ne).trans e,n,ne,nf,d⟩
 ·refine (I.hok b ob e).stay (fun c w' hc q=>(hs.2 c ?_).trans q) (fun _ q=>q) fun _ _ q=>q
  rintro rfl
  rcases hc with rfl | hc
  ·rw[I.free] at e; cases e
  ·rw[I.free] at hc; cases hc
end
def kU (a D:Addr):HO:=.ext (ExcAt a D)
def AH {P:Dz} {a:Addr} (x:ExcAt a D h):ObjOk P w H h a (kU a D):=by
 obtain⟨o,vs,e,c,d⟩:=x
 exact⟨⟨o,vs,e,c,d⟩,⟨o,e⟩,fun h1 h2 ⟨o1,vs1,e1,c1,d1⟩ k=>⟨o1,vs1,k _ e1,c1,d1⟩⟩
def Inv.hold {a:Addr} (I:Inv X pins σ H s) (x:ExcAt a D s.heap) (hn:H a=none) (hs:X.s₀.heap.get? a=none) (hL:a≠X.env.locals) (hc:∀ x c,X.env.cells.lookup x=some c→c≠a) (hp:∀ p∈X.pn++pins,p.1≠a) :
  Inv X pins σ (upd H a (kU a D)) s:=by
 have ne0:∀ b o,X.s₀.heap.get? b=some o→b≠a:=fun b o e z=>by rw[z,hs] at e; cases e
 refine⟨I.ok,I.os,I.bare,⟨I.base.keep,I.base.slot,fun b o e n hx=>?_,I.base.there,fun b xs e=>?_,fun b o u e=>?_,fun b ps e=>?_⟩,I.loc,I.cell,?_,fun x c e=>?_,fun p hp'=>?_,fun b u e=>?_,I.len⟩
 ·rw[aZ (ne0 b o e)]; exact I.base.free b o e n hx
 ·rw[aZ (bZ (I.base.tups b xs e) hn)]; exact I.base.tups b xs e
 ·rw[aZ (bZ (I.base.frzs b o u e) hn)]; exact I.base.frzs b o u e
 ·obtain⟨more,z⟩:=I.base.tbls b ps e
  exact⟨more,by rw[aZ (bZ z hn)]; exact z⟩
 ·rw[aZ (E6 hL)]; exact I.free
 ·rw[aZ (hc x c e)]; exact I.freeC x c e
 ·obtain⟨e1,e2,e3⟩:=I.pin p hp'
  exact⟨e1,by rw[aZ (hp p hp')]; exact e2,e3⟩
 ·by_cases hb:b=a
  ·subst hb
   rw[aT] at e
   cases e
   exact AH x
  ·rw[aZ hb] at e
   exact (I.hok b u e).stay (fun _ _ _ q=>q) (fun c q=>by rw[aZ (bZ q hn)]; exact q) fun c xs q=>by rw[aZ (bZ q hn)]; exact q
structure XCatch (K:cy) (mg:Str→Option Value) (x:Str) (C:Addr):Prop where
 at_:mg x=some (.ref C)
 is:Gi K C≠none
 ty:HW K (.ref C)=some (.type "type")
 mb:EG K C (.type "BaseException")=some true
def lD (K:cy):List V→Hp→VK→Prop:=fun xs H Q=>∃ a D b,H a=some (kU a D)∧XCls K D∧((∃ C,xs=[.ref a,.ref C]∧D4 K (.ref D) (.ref C)=some b)∨(∃ T,xs=[.ref a,.ty T]∧D4 K (.ref D) (.type T)=some b) ∨
 ∃ (p:Addr) (cs:List Addr),xs=[.ref a,.ref p]∧H p=some (.tup (cs.map V.ref))∧PySem.W.kitAny K (.ref D) (cs.map Value.ref)=some b)∧Q (.bl b) H
theorem qG:∀ {cs:List Addr} {us:List Value},Vals (cs.map V.ref) us→us=cs.map Value.ref
 | [],_,.nil=>rfl
 | c::cs,_,.cons r t=>by
  cases r
  rw[D8,qG t]
section
variable {X:Cx} {K:cy}
def kH (hK:X.K=K):gU X (.builtin "isinstance") (lD K):=by
 subst hK
 intro pins s σ H xs us Q I r h
 obtain⟨a,D,b,ha,c,h,q⟩:=h
 have ok:=I.hok a _ ha
 have fin:∀ tk,EP X pins σ Q (.bool b) { s with toks:=tk }:=fun tk=>⟨.bl b,H,I.tok tk,rfl,q⟩
 rcases h with ⟨C,rfl,e⟩ | ⟨T,rfl,e⟩ | ⟨p,cs,rfl,hp,e⟩
 ·obtain⟨u,u',rfl,r1,r2⟩:=vals2 r
  cases r1
  cases r2
  exact PySem.W.kia_one (nI c) I.kIn ok.1 e (fun z=>nomatch z) fin
 ·obtain⟨u,u',rfl,r1,r2⟩:=vals2 r
  cases r1
  obtain rfl:u'=Value.type T:=r2
  exact PySem.W.kia_one (nI c) I.kIn ok.1 e (fun z=>nomatch z) fin
 ·obtain⟨u,u',rfl,r1,r2⟩:=vals2 r
  cases r1
  cases r2
  obtain⟨_,its,rv,⟨⟨cl,dd,dt,sl⟩,ho,hc,n,hd⟩,_⟩:=(show ObjOk X.prog X.w H s.heap p (.tup (cs.map V.ref)) from I.hok p _ hp)
  have hc':cl=.type "tuple":=hc
  have hd':dt=.seq its.toArray n:=hd
  subst hc' hd'
  rw[qG rv] at ho
  exact PySem.W.kia_tup (nI c) I.kIn ok.1 ho e (fun z=>nomatch z) fin
def nB {a:Addr} {b:Bool} (ha:H a=some (kU a D)) (c:XCls K D) (e:D4 K (.ref D) (.ref C)=some b) (q:Q (.bl b) H):lD K [.ref a,.ref C] H Q:=⟨a,D,b,ha,c,.inl ⟨C,rfl,e⟩,q⟩
def AK {a:Addr} {T:String} {b:Bool} (ha:H a=some (kU a D)) (c:XCls K D) (e:D4 K (.ref D) (.type T)=some b) (q:Q (.bl b) H):lD K [.ref a,.ty T] H Q:=⟨a,D,b,ha,c,.inr (.inl ⟨T,rfl,e⟩),q⟩
end
structure RoomS (k:Nat) (A:Around):Prop where
 dp:A.depth+3 * k+5<Jp
 un:A.units+16 * k+200<cLine
structure FnOkS (P:Dz) (w:World) (K:cy) (mg:Str→Option Value) (base:Heap) (CX:CXT) (k:Nat) (f:Addr) (fd:DU) (ps:List Str) (sp:Sp):Prop where
 len:∀ vs H Q E,sp vs H Q E→vs.length=ps.length
 run:∀ (A:Around) (outer:List Env) (s:Shared) (H:Hp) (args:Args) (us:List Value) (vs:List V) (Q:VK) (E:XK),RoomS k A→Env0 P w K mg base A outer s H→IS s fd args (ps.zip us)→Vals vs us→sp vs H Q E →
  GH (model P w) A (.call (.ref f) args) (CR CX outer P w H s Q E) s
structure CalS (P:Dz) (w:World) (K:cy) (mg:Str→Option Value) (base:Heap) (CX:CXT) (x:Str) (k:Nat) (ps:List Str) (sp:Sp):Prop where
 ex:∃ f fd,FnOkS P w K mg base CX k f fd ps sp∧Binds K fd ps []∧Es K (.ref f)=true∧mg x=some (.ref f)
noncomputable abbrev Cx.any (X:Cx) (A:Around):Cx:={ X with A:=A,calm:=false }
def Inv.any (I:Inv X pins σ H s) (hf:A.frames=some X.stack):Inv (X.any A) pins σ H s :=
 ⟨⟨I.ok.mod,I.ok.kind,I.ok.glob,I.ok.blt,I.ok.above,I.ok.inj,I.ok.has,I.ok.cab,(fun z=>nomatch z),hf,I.ok.stk,I.ok.exf,I.ok.bs,I.ok.bsz,I.ok.noex,I.ok.exfs,I.ok.funs,I.ok.frf⟩,I.os,I.bare,I.base,I.loc,I.cell,I.free,I.freeC,I.pin,I.hok,I.len⟩
noncomputable def noStar:Expr→Bool
 | .Starred _ _=>false
 | _=>true
def aN {e:Expr} {es:List Expr} (h:noStar e=true):DK (e::es) env=(false,eval e env)::DK es env:=by
 cases e <;> first | rfl | cases h
def star1' {e:Expr} (h:noStar e=true):DK [e] env=[(false,eval e env)]:=by rw[aN h]; rfl
def star2' {e e2:Expr} (h:noStar e=true) (h2:noStar e2=true):DK [e,e2] env=[(false,eval e env),(false,eval e2 env)]:=by rw[aN h,star1' h2]
def aW:(backTo pos (DK [] env)).any (·.1)=false:=rfl
def cg {e:Expr} {es:List Expr} (h:noStar e=true) (r:(backTo pos (DK es env)).any (·.1)=false):(backTo pos (DK (e::es) env)).any (·.1)=false:=by
 rw[aN h]
 show (false || (backTo pos (DK es env)).any (·.1))=false
 rw[r]
 rfl
noncomputable def plainT:Expr→Bool
 | .UnaryOp _ _ _=>false
 | .BoolOp _ _ _=>false
 | .IfExp _ _ _ _=>false
 | .Compare _ _ _ _=>false
 | _=>true
def fZ {e:Expr} (h:plainT e=true):∀ whole,isTrue e env whole=(do let v ← whole; standAt e.pos; JK [v] (truthy v)):=by
 intro whole
 cases e <;> first | rfl | cases h
noncomputable def yq:Expr→Bool
 | .ListComp _ _ _ _=>false
 | .SetComp _ _ _ _=>false
 | .DictComp _ _ _ _ _=>false
 | _=>true
def fV {e:Expr} {tg:Option Expr} {n:Nat} (h:yq e=true):Ia e tg n env=pure false:=by
 cases e <;> first | rfl | cases h
theorem ints_are:∀ {ns:List Int} {its:List Value},Vals (ns.map V.int) its→GL its ns
 | [],_,.nil=>.nil
 | n::ns,_,.cons ⟨t,e⟩ r=>by subst e; exact .cons n t (ints_are r)
section
variable {X:Cx}
def jm (hc:X.calm=true):gU X (.builtin "all") (fun xs H Q=>∃ (p:Addr) (bs:List Bool),xs=[.ref p]∧SqL X.K H p (bs.map V.bl)∧Q (.bl (bs.all id)) H):=by
 intro pins s σ H xs us Q I r h
 obtain⟨p,bs,rfl,hq,q⟩:=h
 obtain⟨u,rfl,rx⟩:=vals1 r
 cases rx
 obtain⟨its,r',pl,hz⟩:=I.list hq
 have hl:=pl.isList
 have hlt:p<s.heap.objs.size:=by obtain⟨_,e,_⟩:=hl; exact Dy e
 have len:=r'.length
 rw[iz] at len
 refine call_all_walk (Ge hl ⟨_,_,_,_,_,_,fun i=>bs.getD i true,rfl,Walks.list (A:=X.A.in1) (I.ok.hd hc) s.heap.objs.size p (Nat.ne_of_lt hlt) its.toArray,⟨⟨_,Dr _ rfl,rfl,rfl⟩,hl.push _⟩,?_,?_⟩)
 ·intro i v s' Q' E' hP hQ
  have hP':its[i]?=some v:=by simpa using hP
  have li:i<bs.length:=by
   have:=(yp.mp hP').1
   exact Oz101 len this
  obtain⟨u,e1,e2⟩:=r'.get (i:=i) (x:=.bl (bs.getD i true)) (by simp [Er,li])
  rw[hP'] at e1
  cases e1
  obtain rfl:v=Value.bool (bs.getD i true):=e2
  exact EE hQ
 ·intro h' tk hk
  have:(DJ its.toArray.size).all (fun i=>bs.getD i true)=bs.all id:=by
   rw[Dk,← len]
   clear len hq q r' hz
   induction bs with
   | nil=>rfl
   | cons b bs ih =>
    rw[DF,IM,GK,HS,GK]
    exact congrArg _ ih
  rw[this]
  exact⟨.bl _,H,I.kept (old_kept hk),rfl,q⟩
end
structure Apart (z TI TO i1 i2:Addr) (f1 f2:List Addr):Prop where
 zTI:z≠TI
 zTO:z≠TO
 TITO:TI≠TO
 TI1:TI≠i1
 TI2:TI≠i2
 m1:i1∈f1
 m2:i2∈f2
 z1:z ∉ f1
 z2:z ∉ f2
 t1:TO ∉ f1
 t2:TO ∉ f2
 i12:i1 ∉ f2
 i21:i2 ∉ f1
def mQ {X:Cx} {K:cy} {es:List Expr} {k n:Nat} {t:TGs} {pos:Pos} (hK:X.K=K) (hc:X.calm=true) (h:PGs X es t) (hn:(GU es X.env).length=n) (hst:(GU es X.env).findIdx? (·.1)=none):PG X (.Tuple es k pos) (Ac K n t):=by
 subst hK
 exact rY hc h hn hst
section
variable {X:Cx}
def k9 (r:Vals (ns.map V.int) its) {j:Nat} (h:j<its.length):∃ t,its[j]=.int (ns.getD j 0) t:=by
 obtain⟨x,e,rv⟩:=Be r h
 have hl:j<ns.length:=by have:=r.length; rw[iz] at this; exact Oz20 h this
 rw[Dq,Dm hl] at e
 cases e
 obtain⟨t,e⟩:=rv
 exact⟨t,by rw[e]; simp [Er,hl]⟩
def uv (h:0<ns.length):ns.getD (Jz (fun i j=>decide (ns.getD i 0 > ns.getD j 0)) (ns.length-1)) 0∈ns∧(∀ a∈ns,a≤ns.getD (Jz (fun i j=>decide (ns.getD i 0 > ns.getD j 0)) (ns.length-1)) 0)∧Jz (fun i j=>decide (ns.getD i 0 > ns.getD j 0)) (ns.length-1)<ns.length:=by
 obtain⟨h1,h2⟩:=argBest_gt (fun i=>ns.getD i 0) (ns.length-1)
 have hb:Jz (fun i j=>decide (ns.getD i 0 > ns.getD j 0)) (ns.length-1)<ns.length:=by
  have:Jz (fun i j=>decide (ns.getD i 0 > ns.getD j 0)) (ns.length-1)≤ns.length-1:=h1
  omega
 refine⟨?_,fun a ha=>?_,hb⟩
 ·generalize Jz _ _=k at hb
  have e:ns.getD k 0=ns[k]:=by simp [Er,hb]
  rw[e]
  exact Gu hb
 ·obtain⟨j,hj,rfl⟩:=Hw ha
  have:=h2 j (by omega)
  have e:ns.getD j 0=ns[j]:=by simp [Er,hj]
  rw[← e]
  exact this
def yV (hc:X.calm=true):gU X (.builtin "max") (fun xs H Q=>∃ (p:Addr) (ns:List Int),xs=[.ref p]∧(SqL X.K H p (ns.map V.int)∨SqT X.K H p (ns.map V.int))∧0<ns.length∧∀ m,m∈ns→(∀ a∈ns,a≤m)→Q (.int m) H):=by
 intro pins s σ H xs us Q I r h
 obtain⟨p,ns,rfl,hq,hn,q⟩:=h
 obtain⟨u,rfl,rx⟩:=vals1 r
 cases rx
 obtain⟨b1,b2,b3⟩:=uv hn
 rcases hq with hq | hq
 ·obtain⟨its,r',pl,hz⟩:=I.list hq
  have hl:=pl.isList
  have hlt:p<s.heap.objs.size:=by obtain⟨_,e,_⟩:=hl; exact Dy e
  have len:=r'.length
  rw[iz] at len
  refine call_max_walk (Ge hl ⟨_,_,_,_,_,_,(fun i j=>decide (ns.getD i 0 > ns.getD j 0)),rfl,Walks.list (A:=X.A.in1) (I.ok.hd hc) s.heap.objs.size p (Nat.ne_of_lt hlt) its.toArray,⟨⟨_,Dr _ rfl,rfl,rfl⟩,hl.push _⟩,?_,?_,?_,?_⟩)
  ·intro b hb
   show b<(s.heap.push _).objs.size
   rw[Fi]
   rcases Du.mp hb with rfl | hb
   ·exact Nat.lt_succ_self _
   ·rcases Du.mp hb with rfl | hb
    ·exact Nat.lt_succ_of_lt hlt
    ·cases hb
  ·rw[Dk,← len]
   exact hn
  ·refine CmpOf.ints_gt (fun i=>ns.getD i 0) fun i v hP=>?_
   have hP':its[i]?=some v:=by simpa using hP
   obtain⟨hi,e⟩:=yp.mp hP'
   rw[← e]
   exact k9 r' hi
  ·intro v h' tk hP hk
   have hP':its[Jz (fun i j=>decide (ns.getD i 0 > ns.getD j 0)) (ns.length-1)]?=some v:=by
    rw[Dk,← len] at hP
    simpa using hP
   obtain⟨hi,e⟩:=yp.mp hP'
   obtain⟨t,e2⟩:=k9 r' hi
   exact⟨.int _,H,I.kept (old_kept hk),⟨t,by rw[← e,e2]⟩,q _ b1 b2⟩
 ·obtain⟨its,r',pl,hz⟩:=I.tuple hq
  have hlt:p<s.heap.objs.size:=by obtain⟨_,e,_⟩:=pl; exact Dy e
  have len:=r'.length
  rw[iz] at len
  refine call_max_walk (E3 pl ⟨_,_,_,_,_,_,(fun i j=>decide (ns.getD i 0 > ns.getD j 0)),rfl,Walks.tuple (A:=X.A.in1) (I.ok.hd hc) s.heap.objs.size p (Nat.ne_of_lt hlt) its.toArray,⟨⟨_,Dr _ rfl,rfl,rfl⟩,pl.push _⟩,?_,?_,?_,?_⟩)
  ·intro b hb
   show b<(s.heap.push _).objs.size
   rw[Fi]
   rcases Du.mp hb with rfl | hb
   ·exact Nat.lt_succ_self _
   ·rcases Du.mp hb with rfl | hb
    ·exact Nat.lt_succ_of_lt hlt
    ·cases hb
  ·rw[Dk,← len]
   exact hn
  ·refine CmpOf.ints_gt (fun i=>ns.getD i 0) fun i v hP=>?_
   have hP':its[i]?=some v:=by simpa using hP
   obtain⟨hi,e⟩:=yp.mp hP'
   rw[← e]
   exact k9 r' hi
  ·intro v h' tk hP hk
   have hP':its[Jz (fun i j=>decide (ns.getD i 0 > ns.getD j 0)) (ns.length-1)]?=some v:=by
    rw[Dk,← len] at hP
    simpa using hP
   obtain⟨hi,e⟩:=yp.mp hP'
   obtain⟨t,e2⟩:=k9 r' hi
   refine⟨.int _,H,I.kept (fun b o e=>?_),⟨t,by rw[← e,e2]⟩,q _ b1 b2⟩
   refine hk b o (fun hm=>?_) (Dl _ e)
   rcases Du.mp hm with e1 | hm
   ·exact absurd (e1 ▸ Dy e) (Nat.lt_irrefl _)
   ·cases hm
abbrev Sq (K:cy) (H:Hp) (a:Addr) (xs:List V):Prop:=SqL K H a xs∨SqT K H a xs
def uZ {a:Addr} (e:Same H H') (h:Sq K H a xs):Sq K H' a xs:=by
 rcases h with h | h
 ·exact .inl (e.seq h)
 ·right
  rcases h with (h | ⟨o,h⟩) | h
  ·exact .inl (.inl (e _ _ h))
  ·exact .inl (.inr ⟨o,e _ _ h⟩)
  ·exact .inr h
def Co (K:cy) (tl:TE):TI:=fun σ H R=>tl σ H fun x H1=>∃ a,x=.ref a∧(((∃ xs,SqL K H1 a xs)∧R (Itl K a) H1)∨((∃ xs,SqT K H1 a xs)∧R (Itt K a) H1))
def yf {tg l:Expr} {tl:TE} (hl:PE X l tl):PI X tg l (Co X.K tl):=by
 intro pins s σ H R I h
 refine thn (hl pins s σ H _ I h) fun v s1 ⟨x,H1,I1,r1,q1⟩=>?_
 obtain⟨a,e,q1⟩:=q1
 subst e
 cases r1
 rcases q1 with ⟨⟨xs,hq⟩,q⟩ | ⟨⟨xs,hq⟩,q⟩
 ·obtain⟨its,rv,p,hz⟩:=I1.list hq
  refine Ge p.isList ?_
  refine⟨s1.heap.objs.size,[s1.heap.objs.size],_,_,H1,rfl,I1.kept (t':=s1.toks) fun b o e=>Dl _ e,qF a _,⟨_,Dr _ rfl,rfl,rfl⟩,fun b hb=>?_,q⟩
  have e:b=s1.heap.objs.size:=by simpa using hb
  subst e
  exact I1.fpOk (Nat.le_refl _) (I1.hok.fresh (Nat.le_refl _))
 ·obtain⟨its,rv,p,hz⟩:=I1.tuple hq
  refine E3 (show s1.heap.IsTuple a its.toArray from p) ?_
  refine⟨s1.heap.objs.size,[s1.heap.objs.size],_,_,H1,rfl,I1.kept (t':=s1.toks) fun b o e=>Dl _ e,oQ a _,⟨_,Dr _ rfl,rfl,rfl⟩,fun b hb=>?_,q⟩
  have e:b=s1.heap.objs.size:=by simpa using hb
  subst e
  exact I1.fpOk (Nat.le_refl _) (I1.hok.fresh (Nat.le_refl _))
section
variable {K:cy} {D a:Addr} {g:TG} {tt:TT} {te:TE} {Q:VK} {τ:St} {H:Hp}
def qy (xs:List V) (hq:Sq K H a xs) (ix:St) (Pv:Addr→Nat→St→Hp→Prop) (h0:∀ D,H D=none→Pv D 0 ix (upd H D (.lst []))) (hl:∀ D i τ H',H D=none→Pv D i τ H'→Same H H')
  (hs:∀ D i x τ H' (R:St→Hp→Prop),H D=none→xs[i]?=some x→Pv D i τ H'→(∀ τ' H',Pv D (i+1) τ' H'→R τ' H')→jT D g tt te x τ H' R) (hd:∀ D τ H',H D=none→Pv D xs.length τ H'→Q (.ref D) H') :
  ((∃ xs,SqL K H a xs)∧∀ D,H D=none→jf D (Itl K a) g tt te Q ix (upd H D (.lst [])))∨((∃ xs,SqT K H a xs)∧∀ D,H D=none→jf D (Itt K a) g tt te Q ix (upd H D (.lst []))):=by
 rcases hq with hq | hq
 ·exact .inl ⟨⟨_,hq⟩,fun D hD=>fR xs (Pv D) (h0 D hD) (fun i τ H' _ p=>(hl D i τ H' hD p).seq hq) (fun i x τ H' R=>hs D i x τ H' R hD) (fun τ H'=>hd D τ H' hD)⟩
 ·have tp:∀ {H'},Same H H'→SqT K H' a xs:=fun e=>by
   rcases hq with (h | ⟨o,h⟩) | h
   ·exact .inl (.inl (e _ _ h))
   ·exact .inl (.inr ⟨o,e _ _ h⟩)
   ·exact .inr h
  exact .inr ⟨⟨_,hq⟩,fun D hD=>mG xs (Pv D) (h0 D hD) (fun i τ H' _ p=>tp (hl D i τ H' hD p)) (fun i x τ H' R=>hs D i x τ H' R hD) (fun τ H'=>hd D τ H' hD)⟩
end
def AN (h:X.K=K):IxR X (rIx K):=by subst h; exact BX
end
noncomputable abbrev sgn (c:Nat):V:=.str ⟨#[c]⟩
abbrev txt (cs:List Nat):Str:=⟨cs.toArray⟩
def Its (cs:List Nat):It:=⟨fun i _=>i<cs.length,fun i H v H'=>H'=H∧∃ c,cs[i]?=some c∧v=sgn c,fun i _=>cs.length≤i⟩
def zL {P:Dz} (it:Addr) (cs:List Nat) (t:Tok):Turn P w K tg (Its cs) [it] it (fun i h=>h.IsStrIter it "str_ascii_iterator" (txt cs) t i) where
 mem:=by simp
 obj:=fun i h st b hb=>by
  have e:b=it:=by simpa using hb
  subst e
  obtain⟨o,e,c,d⟩:=st
  exact⟨o,e,fun v z=>by rw[d] at z; cases z⟩
 keep:=fun i h h' st k=>by
  obtain⟨o,e,r⟩:=st
  exact⟨o,k it (by simp) o e,r⟩
 item:=by
  intro X hP hw hK hc i pins s σ H E I hf st hg
  subst hP hw hK
  obtain⟨f0,f1,f2,f3,f4,f5⟩:=hf it (by simp)
  have W:=Walks.strAscii (prog:=X.prog) (w:=X.w) (I.ok.hd hc) it (txt cs) t
  have hg':i<(txt cs).cps.size:=by simpa using (show i<cs.length from hg)
  refine W.item i s _ _ hg' st fun v h' tk hv st' kk=>?_
  obtain⟨c,u,hcp,rfl⟩:=hv
  have I1:Inv X pins σ H { s with heap:=h',toks:=tk }:=I.turned (fun b o hb e=>kk b o (by simpa using hb) e) f0 f1 f3 f4 f5
  obtain⟨o,e,c',d⟩:=id st'
  exact⟨_,rfl,qU (s:={ s with heap:=h',toks:=tk }) e c' d (by decide) ⟨sgn c,H,I1,⟨u,rfl⟩,⟨rfl,c,by simpa using hcp,rfl⟩,st',fun b hb=>(hf b hb).1⟩⟩
 done:=by
  intro X hP hw hK hc i pins s σ H E I hf st hg
  subst hP hw hK
  obtain⟨f0,f1,f2,f3,f4,f5⟩:=hf it (by simp)
  have hg':cs.length≤i:=hg
  exact wpAny_pyNext_ascii_end (I.ok.hd hc) st (by simp; exact Oz25 hg') fun h' eb=>⟨rfl,I.turned (t':=s.toks) (fun b o hb e=>eb b o hb e) f0 f1 f3 f4 f5⟩
 self:=fun _ _ _ _ _ st h=>wpAny_pyIter_striter_ascii st h
section
variable {X:Cx} {tg:Expr}
def CG (tl:TE):TI:=fun σ H R=>tl σ H fun x H1=>∃ cs,x=.str (txt cs)∧cs.all (fun c=>decide (c<128))=true∧R (Its cs) H1
def BI {l:Expr} {tl:TE} (hl:PE X l tl):PI X tg l (CG tl):=by
 intro pins s σ H R I h
 refine thn (hl pins s σ H _ I h) fun v s1 ⟨x,H1,I1,r1,q1⟩=>?_
 obtain⟨cs,e,ha,q⟩:=q1
 subst e
 obtain⟨t,rfl⟩:=r1
 refine wpAny_pyIter_ascii (by simpa using ha) ?_
 refine⟨s1.heap.objs.size,[s1.heap.objs.size],_,_,H1,rfl,I1.kept (t':=s1.toks) fun b o e=>Dl _ e,zL _ cs t,⟨_,Dr _ rfl,rfl,rfl⟩,fun b hb=>?_,q⟩
 have e:b=s1.heap.objs.size:=by simpa using hb
 subst e
 exact I1.fpOk (Nat.le_refl _) (I1.hok.fresh (Nat.le_refl _))
end
section
variable {g:TG} {tb:TS} {D:Ends} {σ:St} {H:Hp}
end
section
variable {D:Addr} {g:TG} {tt:TT} {te:TE} {Q:VK} {τ:St} {H:Hp}
def yy (cs:List Nat) (Pv:Nat→St→Hp→Prop) (h0:Pv 0 τ H)
  (hs:∀ i c τ H (R:St→Hp→Prop),cs[i]?=some c→Pv i τ H→(∀ τ' H',Pv (i+1) τ' H'→R τ' H')→jT D g tt te (sgn c) τ H R) (hd:∀ τ H,Pv cs.length τ H→Q (.ref D) H):jf D (Its cs) g tt te Q τ H:=by
 refine⟨fun i m τ H=>m=cs.length-i∧i≤cs.length∧Pv i τ H,⟨cs.length,by simp,Nat.zero_le _,h0⟩,?_⟩
 rintro i m τ H2 ⟨rfl,hi,p⟩
 by_cases hlt:i<cs.length
 ·refine .inr ⟨hlt,fun x H' y=>?_⟩
  obtain⟨e,c,hc,rfl⟩:=y
  subst e
  exact hs i c τ _ (fun τ' H'=>∃ m',m'<cs.length-i∧m'=cs.length-(i+1)∧i+1≤cs.length∧Pv (i+1) τ' H') hc p fun τ' H' p'=>⟨_,by exact Oz1 hlt,rfl,hlt,p'⟩
 ·have e:i=cs.length:=by exact Oz10 hi hlt
  subst e
  exact .inl ⟨Nat.le_refl _,hd τ H2 p⟩
end
section
variable {X:Cx}
def Cb:R2:=fun x y H Q=>∃ c d:Nat,x=sgn c∧y=sgn d∧Q (.bl (decide (c≤d))) H
def yi:OpR X (EJ .LtE) Cb:=by
 intro pins s σ H x y v u Q I rx ry h
 obtain⟨c,d,rfl,rfl,q⟩:=h
 obtain⟨t,rfl⟩:=rx
 obtain⟨t',rfl⟩:=ry
 refine P.le_str (fz I q ?_)
 have e:(([d]:List Nat) < [c])↔d<c:=by simp [List.cons_lt_cons_iff]
 show decide (c≤d) = !decide (([d]:List Nat) < [c])
 by_cases h:c≤d
 ·rw[decide_eq_true h,decide_eq_false (fun z=>absurd (e.mp z) (by omega))]
  rfl
 ·rw[decide_eq_false h,decide_eq_true (e.mpr (by exact Oz98 h))]
  rfl
theorem sE:∀ cs:List Nat,Str.join "" (cs.map fun c=>(⟨#[c]⟩:Str))=txt cs
 | []=>rfl
 | [c]=>rfl
 | c::d::cs=>by
  have ih:=sE (d::cs)
  show (⟨#[c]⟩:Str)++""++Str.join "" ((d::cs).map fun c=>(⟨#[c]⟩:Str))=txt (c::d::cs)
  rw[ih]
  apply Str.ext'
  simp [Str.cps_append]
  rfl
theorem uU:∀ {ts:List Str} {its:List Value},Vals (ts.map V.str) its→∃ l:List (Str×Tok),its=strValues l∧l.map (·.1)=ts
 | [],_,.nil=>⟨[],rfl,rfl⟩
 | z::ts,_,.cons ⟨t,e⟩ r=>by
  subst e
  obtain⟨l,e1,e2⟩:=uU r
  exact⟨(z,t)::l,by rw[e1]; rfl,by rw[D8,e2]⟩
def rJoin (K:cy):V→List V→Hp→VK→Prop:=fun x vs H Q=>∃ (p:Addr) (cs:List Nat),x=.str ""∧vs=[.ref p]∧SqL K H p (cs.map sgn)∧cs.length≤1000∧Q (.str (txt cs)) H
theorem rW:∀ (ts:List Str) (n:Nat),(∀ z∈ts,z.length=1)→ts.foldl (fun a p=>a+p.length+("":Str).length) n=n+ts.length
 | [],n,_=>rfl
 | z::ts,n,h=>by
  rw[FO,rW ts _ fun y hy=>h y (DI _ hy),h z (DX ..),DF,show ("":Str).length=0 from rfl]
  omega
def Bp:MtR X "str.join" (rJoin X.K):=by
 intro pins s σ H x vs v us Q I rx rv h
 obtain⟨p,cs,rfl,rfl,hq,hz,q⟩:=h
 obtain⟨t,rfl⟩:=rx
 obtain⟨u,rfl,ru⟩:=vals1 rv
 cases ru
 obtain⟨its,r,pl,_⟩:=I.list hq
 have r':Vals ((cs.map fun c=>(⟨#[c]⟩:Str)).map V.str) its:=by rw[JV]; exact r
 obtain⟨l,e1,e2⟩:=uU r'
 have hl:=pl.isList
 rw[e1] at hl
 have one:∀ z∈cs.map (fun c=>(⟨#[c]⟩:Str)),z.length=1:=fun z hz=>by
  obtain⟨c,_,rfl⟩:=DZ.mp hz
  rfl
 have tot:Hx ((l.map (·.1)).toArray.foldl (· + ·.length+("":Str).length) 0)=false:=by
  rw[e2,List.foldl_toArray,rW _ _ one,iz]
  unfold Hx
  rw[EL]
  simp
  exact Oz43 hz
 refine Gh IZ (typeIs_str s _ t) PySem.F.entry_str_join (PySem.F.args_str_join_2 _ _) (meets_str_join_list "" t p l tot) ⟨hl,?_⟩
 have fin:∀ (tk':Tok) (s':Shared),Inv X pins σ H s'→EP X pins σ Q (.str (txt cs) tk') s':=fun tk' s' I'=>⟨.str (txt cs),H,I',⟨tk',rfl⟩,q⟩
 have gl:Builtin.Str.glued "" (l.map (·.1))=txt cs:=by
  rw[StrLaws.glued_eq_join,e2,sE]
 have sz:(txt cs).length≤sizeLine:=by
  show cs.toArray.size≤sizeLine
  rw[Dk,EL]
  exact Oz43 hz
 match l,e2,gl with
 | [p1],e2,gl =>
  obtain⟨z,tz⟩:=p1
  have:z=txt cs:=gl
  subst this
  exact fin tz s I
 | [],e2,gl =>
  refine⟨by rw[gl]; exact sz,?_⟩
  rw[gl]
  exact fin _ _ (I.tok _)
 | p1::p2::r2,e2,gl =>
  refine⟨by rw[gl]; exact sz,?_⟩
  rw[gl]
  exact fin _ _ (I.tok _)
noncomputable def kO (c:Nat):Bool:=decide (97≤c) && decide (c≤122)
end
deriving instance DecidableEq for Kn
section
variable {X:Cx}
def kT:gU X (.type "tuple") (fun xs H Q=>∃ p ys,xs=[.ref p]∧SqL X.K H p ys∧∀ l,H l=none→Q (.ref l) (upd H l (.tup ys))):=by
 intro pins s σ H xs us Q I r h
 obtain⟨p,ys,rfl,hq,q⟩:=h
 exact jV pins s σ H _ us Q I r ⟨p,ys,rfl,.inl ⟨hq,q⟩⟩
end
end _l
namespace PySem
open Sem (wp)
namespace _setl
def jY:plainId "set.update.loop"=true:=by decide +kernel
def lR:entryFor table "set.update.loop"=some Gx.«set.update.loop»:=entryFor_of_tree (by kernel_rfl)
noncomputable def addS (p:(Int→Bool)×Nat) (k:Int):(Int→Bool)×Nat:=(fun k'=>p.1 k' || decide (k'=k),if p.1 k=true then p.2 else p.2+1)
def A3 (p:(Int→Bool)×Nat) (k:Int):(addS p k).2≤p.2+1:=by
 show (if p.1 k=true then p.2 else p.2+1)≤_
 split <;> omega
section
variable {prog:Dz} {w:World} {A:Around} {R:Result→Shared→Prop} {I:Addr} {fp wr:List Addr} {n:Nat} {P:Nat→Value→Prop} {St:Nat→Heap→Prop}
def nK (W:Walks prog w A.in1 I fp wr n P St) (a:Addr) (ha:a ∉ fp) (hw:a ∉ wr) (val:Nat→Int) (hval:∀ i v,P i v→∃ t,v=.int (val i) t):∀ (k i:Nat) (s:Shared) (p:(Int→Bool)×Nat),n-i=k→i≤n→St i s.heap →
  s.heap.SetOf (Il prog w) a p.1 p.2→p.2+k<scanBound →
  (∀ h' tk,h'.SetOf (Il prog w) a (((DJ n).drop i).foldl (fun q j=>addS q (val j)) p).1 (((DJ n).drop i).foldl (fun q j=>addS q (val j)) p).2→(∀ b o,b ∉ a::wr→s.heap.get? b=some o→h'.get? b=some o)→R (.ok (.ret .none)) { s with heap:=h',toks:=tk }) →
  GH (model prog w) A (.builtin "set.update.loop" ⟨[.ref a,.ref I],[]⟩) R s:=by
 intro k
 induction k with
 | zero =>
  intro i s p hk hi hst hS hb hR
  have hin:i=n:=by omega
  subst hin
  refine GN lR ?_
  rw[Ho jY _]
  show wpAny _ A.in1 (pyNext (.ref I) >>= _) _ _ s
  refine wo (W.done s _ _ hst fun h' tk hk'=>?_)
  refine Do ?_
  obtain⟨o,es,ep,t,ho,r⟩:=hS
  refine hR h' tk ?_ fun b o hbw e=>hk' b o (fun z=>hbw (DI _ z)) e
  rw[Ft (by simp)]
  exact⟨o,es,ep,t,hk' a o hw ho,r⟩
 | succ k ih =>
  intro i s p hk hi hst hS hb hR
  have hlt:i<n:=by omega
  have hd:(DJ n).drop i=i::(DJ n).drop (i+1):=by
   rw[Gp (by simpa using hlt)]; simp
  refine GN lR ?_
  rw[Ho jY _]
  show wpAny _ A.in1 (pyNext (.ref I) >>= _) _ _ s
  refine wo (W.item i s _ _ hlt hst fun v h' tk hP hst' hk'=>?_)
  obtain⟨t,rfl⟩:=hval i v hP
  obtain⟨o,es,ep,tt,ho,r⟩:=hS
  have hS':h'.SetOf (Il prog w) a p.1 p.2:=⟨o,es,ep,tt,hk' a o hw ho,r⟩
  refine wo (EK ?_)
  unfold setAdd
  refine wo ((Il prog w).pyHash (k:=val i) (by simp [Il,Js]) ?_)
  refine wpAny_setAddHashed_of (knd:=Il prog w) (k:=val i) (S:=p.1) (n:=p.2) (by simp [Il,Js]) rfl hS' (by omega) fun h2 hsb hS2=>?_
  refine Do ⟨plainId_quiet jY _,ih (i+1) _ (addS p (val i)) (by omega) hlt ?_ hS2 (by have:=A3 p (val i); omega) fun h3 tk3 hS3 hk3=>?_⟩
  ·exact W.frame _ _ _ hst' fun b hbf o e=>hsb.extBut b o (fun z=>ha (z ▸ hbf)) e
  ·have:=hR h3 tk3
   rw[hd,FO] at this
   refine this hS3 fun b o hbw e=>hk3 b o hbw (hsb.extBut b o (fun z=>hbw (z ▸ DX ..)) (hk' b o (fun z=>hbw (DI _ z)) e))
end
def typeCall_set_1 (x:Value):checkTypeCall "set" ⟨[x],[]⟩=pure ():=by kernel_rfl
def newCall_set_1 (x:Value):Fb "set.__new__" ⟨[.type "set",x],[]⟩=pure ():=by kernel_rfl
def sub_list_set:isSubtype (.type "list") (.type "set")=pure false:=by rw[Jq]; kernel_rfl
def sub_list_frozenset:isSubtype (.type "list") (.type "frozenset")=pure false:=by rw[Jq]; kernel_rfl
section
variable {prog:Dz} {w:World} {A:Around} {E:Value→Shared→Prop} {s:Shared}
def qS {x:Value} {Q₁:Value→Shared→Prop}
  (h:∀ led:Bool,Q₁ (.ref s.heap.objs.size) { s with heap:=s.heap.push { cls:=.type "set",dict:=none,data:=.set #[] 0 (.fresh 0 0 led) } }) :
  GH (model prog w) A (.call (.builtin "set.__new__") ⟨[.type "set",x],[]⟩) (wants Q₁ E) s:=by
 refine codeAny_of_tree ?_
 show wpAny _ A.in1 (do Fb "set.__new__" ⟨[.type "set",x],[]⟩; again (.builtin "set.__new__" ⟨[.type "set",x],[]⟩)) _ _ s
 refine wo (wpAny_of_eq (newCall_set_1 x) (Do ⟨plainId_quiet F.plain_set_new _,GN F.entry_set_new ?_⟩))
 rw[Ho F.plain_set_new _]
 unfold Gx.«set.__new__» Builtin.Frozenset.newClass
 have hsub:=sub_set_self
 obtain⟨hp,g,d,tk,os⟩:=s
 dsimp only
 wp_walk
 refine wpAny_askSetting (Do ?_)
 dsimp only
 simp only [newObj]
 refine wo (wpAny_alloc (Do ?_))
 exact Do (h _)
def oO {self x:Value} {Q:Unit→Shared→Prop} (hT:s.TypeIs self "set") (hQ:Q () s) :
  wpAny M A (Fb "set.__init__" ⟨[self,x],[]⟩) Q E s:=by
 simp only [Fb,kind_set_init,split_set_init,sig_set_init]
 refine wo (wpAny_isInstance hT sub_set_self ?_)
 simp only [Bool.not_true,E5,if_false]
 unfold Bind.checkArgs
 dsimp only
 refine wo (m:=Bind.printed "set" true _ _) (PyProof.Rows.printed_name (by decide) ?_)
 refine wo (m:=Bind.printed "*" false _ _) (PyProof.Rows.printed_star (self:=self) rfl hT fun short=>?_)
 have hrn:(Manifest.Receiver.self == Manifest.Receiver.none)=false:=by decide
 have hn:(if (Manifest.Receiver.self == Manifest.Receiver.none)=true then [self,x].length else [self,x].length-1)=1:=by simp [hrn]
 rw[hn]
 simp only [IX]
 have hc:Bind.check ⟨.positional,"set","*",.self,[⟨"iterable",.posOnly,false⟩]⟩ "set" short 1 []=pure ():=by
  simp [Bind.check,Bind.checkCount,Bind.isPositional]
  intro h
  exact absurd h (by decide)
 rw[hc]
 exact Do hQ
set_option maxHeartbeats 4000000 in
def call_set_1 {l:Addr} {Q:Value→Shared→Prop} (hh:A.handled=none) (hl:s.heap.IsList l its.toArray) (hi:∀ (j:Nat) (v:Value),its[j]?=some v→∃ t,v=.int (ns.getD j 0) t) (hn:its.length=ns.length) (hb:ns.length<1000)
  (h:∀ h' tk,h'.SetOf (Il prog w) s.heap.objs.size (ns.foldl addS (fun _=>false,0)).1 (ns.foldl addS (fun _=>false,0)).2→(∀ b o,s.heap.get? b=some o→h'.get? b=some o)→Q (.ref s.heap.objs.size) { s with heap:=h',toks:=tk }) :
  wpAny (model prog w) A (call (.type "set") [.ref l]) Q E s:=by
 obtain⟨c,tl,hmro⟩:=F.called_set.mro
 have hmade:=F.called_set.made
 have hsub:=F.called_set.sub
 refine Gg (codeAny_of_tree ?_)
 show wpAny _ _ (callAny (.type "set") _) _ _ _
 refine Do ⟨Code.quiet_builtin _ (by decide +kernel),GN F.entry_type_call ?_⟩
 rw[Around.under_plain (weight_type_call_type "set" [.ref l] []) rfl]
 have h1:=F.called_set.notType
 have h2:=F.called_set.canCreate
 have hct:=typeCall_set_1 (.ref l)
 repeat (any_goals (first | assumption | wp_step))
 refine F0 (qS (E:=E) (Q₁:=fun obj s₁=>∃ led:Bool,obj=.ref s.heap.objs.size∧s₁={ s with heap:=s.heap.push { cls:=.type "set",dict:=none,data:=.set #[] 0 (.fresh 0 0 led) } }) fun led=>⟨led,rfl,rfl⟩) fun r s₁ hr=>?_
 cases r with
 | error e=>exact hr
 | ok fl =>
  cases fl with
  | ret obj =>
   obtain⟨led,rfl,rfl⟩:=hr
   have hS:(s.heap.push { cls:=.type "set",dict:=none,data:=.set #[] 0 (.fresh 0 0 led) }).get? s.heap.objs.size=some { cls:=.type "set",dict:=none,data:=.set #[] 0 (.fresh 0 0 led) }:=Dr _ rfl
   have hT:Shared.TypeIs { s with heap:=s.heap.push { cls:=.type "set",dict:=none,data:=.set #[] 0 (.fresh 0 0 led) } } (.ref s.heap.objs.size) "set":=⟨_,hS,rfl⟩
   have hli:=F.called_set.init.lookup
   have hbi:=F.called_set.init.bind (.ref s.heap.objs.size)
   repeat (any_goals (first | assumption | wp_step))
   refine F0 (Ff (R:=wants (fun r s₂=>r=.none∧Q (.ref s.heap.objs.size) s₂) E) F.called_set.init.plain F.entry_set_init (oO hT ?_)) fun r₂ s₂ hr₂=>?_
   ·obtain⟨⟨cls,dd,data,sl⟩,ho,hc,nn,hd⟩:=hl.push { cls:=.type "set",dict:=none,data:=.set #[] 0 (.fresh 0 0 led) }
    simp only at hc hd
    subst hc hd
    have f1:=sub_list_set
    have f2:=sub_list_frozenset
    unfold Gx.«set.__init__» noKeywords
    have hl':Heap.IsList (s.heap.push { cls:=.type "set",dict:=none,data:=.set #[] 0 (.fresh 0 0 led) }) l its.toArray:=hl.push _
    wp_walk using FN ho,Ge hl'
    have hlt:l<s.heap.objs.size:=by obtain⟨_,e,_⟩:=hl; exact Dy e
    have hsz:(s.heap.push { cls:=.type "set",dict:=none,data:=.set #[] 0 (.fresh 0 0 led) }).objs.size=s.heap.objs.size+1:=Fi ..
    have hS0:Heap.SetOf (Il prog w) (s.heap.push { cls:=.type "set",dict:=none,data:=.set #[] 0 (.fresh 0 0 led) }) s.heap.objs.size (fun _=>false) 0 :=
     ⟨_,#[],0,_,Dr _ rfl,⟨rfl,rfl,rfl⟩,rfl,fun e he=>by simp at he,fun k=>by simp,by decide,by rfl,rfl⟩
    refine nK (Walks.list (A:=A.in1.in1.in1) hh _ l (by show l≠(s.heap.push _).objs.size; rw[hsz]; exact Nat.ne_of_lt (Nat.lt_succ_of_lt hlt)) its.toArray) s.heap.objs.size ?_ ?_ (fun j=>ns.getD j 0) (fun j v hP=>hi j v (by simpa using hP)) its.toArray.size 0 _ (fun _=>false,0) (Nat.sub_zero _) (Nat.zero_le _) ⟨⟨_,Dr _ rfl,rfl,rfl⟩,hl'.push _⟩ ?_ ?_ ?_
    ·show s.heap.objs.size ∉ [(s.heap.push _).objs.size,l]
     rw[hsz]
     intro hm
     rcases Du.mp hm with e | hm
     ·exact absurd e (Nat.ne_of_lt (Nat.lt_succ_self _))
     ·exact absurd (DA.mp hm) (Nat.ne_of_gt hlt)
    ·show s.heap.objs.size ∉ [(s.heap.push _).objs.size]
     rw[hsz]
     simp
    ·obtain⟨o,es,ep,t,ho',r⟩:=hS0
     exact⟨o,es,ep,t,Dl _ ho',r⟩
    ·show 0+its.toArray.size<scanBound
     rw[Dk,hn]
     exact Nat.lt_of_lt_of_le (m:=1000) (by omega) (by decide)
    ·intro h' tk hS' hk
     have fe:((DJ its.toArray.size).drop 0).foldl (fun q j=>addS q (ns.getD j 0)) (fun _=>false,0)=ns.foldl addS (fun _=>false,0):=by
      rw[FF,Dk,hn,← List.foldl_map (f:=fun j=>ns.getD j 0)]
      congr 1
      apply List.ext_getElem (by simp)
      intro i h1 h2
      simp [Er,h2]
     rw[fe] at hS'
     refine Do (Do ⟨rfl,h h' tk hS' fun b o e=>hk b o (fun hm=>?_) (Dl _ (Dl _ e))⟩)
     have lb:=Dy e
     have hm':b∈[s.heap.objs.size,(s.heap.push { cls:=.type "set",dict:=none,data:=.set #[] 0 (.fresh 0 0 led) }).objs.size]:=hm
     rw[hsz] at hm'
     rcases Du.mp hm' with z | z
     ·exact absurd lb (by rw[z]; exact Nat.lt_irrefl _)
     ·exact absurd lb (by rw[DA.mp z]; exact Nat.not_lt.mpr (Nat.le_succ _))
   ·cases r₂ with
    | error e=>exact hr₂
    | ok fl₂ =>
     cases fl₂ with
     | ret r =>
      obtain⟨rfl,hq⟩:=hr₂
      repeat (any_goals (first | assumption | wp_step))
     | _=>exact hr₂.elim
  | _=>exact hr.elim
end
end _setl
end PySem
namespace _l
open PySem PySem.Spec PyProof.Rows
section
variable {X:Cx}
def uo (hc:X.calm=true):gU X (.type "set") (fun xs H Q=>∃ (p:Addr) (ns:List Int),xs=[.ref p]∧SqL X.K H p (ns.map V.int)∧ns.length<1000∧∀ l,H l=none→Q (.ref l) (upd H l (.set (ns.foldl PySem._setl.addS (fun _=>false,0)).1 (ns.foldl PySem._setl.addS (fun _=>false,0)).2))):=by
 intro pins s σ H xs us Q I r h
 obtain⟨p,ns,rfl,hq,hb,q⟩:=h
 obtain⟨u,rfl,rx⟩:=vals1 r
 cases rx
 obtain⟨its,r',pl,hz⟩:=I.list hq
 have len:=r'.length
 rw[iz] at len
 refine PySem._setl.call_set_1 (I.ok.hd hc) pl.isList (fun j v e=>?_) len.symm hb fun h' tk hS hk=>?_
 ·obtain⟨hj,e'⟩:=yp.mp e
  rw[← e']
  exact k9 r' hj
 ·exact⟨.ref s.heap.objs.size,_,I.laid (o:=.set _ _) hk (Nat.le_refl _) hS,rfl,q _ (I.hok.fresh (Nat.le_refl _))⟩
def qR:gU X (.builtin "len") (fun xs H Q=>∃ (p:Addr) (S:Int→Bool) (n:Nat),xs=[.ref p]∧H p=some (.set S n)∧Q (.int n) H):=by
 intro pins s σ H xs us Q I r h
 obtain⟨p,S,n,rfl,hp,q⟩:=h
 obtain⟨u,rfl,rx⟩:=vals1 r
 cases rx
 obtain⟨o,es,ep,t,ho,hex,hd,hel,hmem,hb,hf,hn⟩:=(show ObjOk X.prog X.w H s.heap p (.set S n) from I.hok p _ hp)
 refine PySem.call_len_set ho hex hd hf ?_ ⟨.int n,H,I.tok _,⟨_,by rw[hn]⟩,q⟩
 have:es.size<4096:=hb
 omega
end
mutual
inductive Rep (K:cy) (H:Hp):V→PyData→Prop
 | non:Rep K H .non .none
 | bl (b:Bool):Rep K H (.bl b) (.bool b)
 | int (i:Int):Rep K H (.int i) (.int i)
 | str (z:Str):Rep K H (.str z) (.str z)
 | lst {a:Addr} {xs:List V} {ds:List PyData}:SqL K H a xs→RepAll K H xs ds→Rep K H (.ref a) (.list ds)
 | tup {a:Addr} {xs:List V} {ds:List PyData}:SqT K H a xs→RepAll K H xs ds→Rep K H (.ref a) (.tuple ds)
inductive RepAll (K:cy) (H:Hp):List V→List PyData→Prop
 | nil:RepAll K H [] []
 | cons {x:V} {d:PyData} {xs:List V} {ds:List PyData}:Rep K H x d→RepAll K H xs ds→RepAll K H (x::xs) (d::ds)
end
def sX {a:Addr} (e:Same H H') (h:SqT K H a xs):SqT K H' a xs:=by
 rcases h with (h | ⟨o,h⟩) | h
 ·exact .inl (.inl (e _ _ h))
 ·exact .inl (.inr ⟨o,e _ _ h⟩)
 ·exact .inr h
mutual
theorem Rep.same {K:cy} {H H':Hp} (e:Same H H'):∀ {v:V} {d:PyData},Rep K H v d→Rep K H' v d
 | _,_,.non=>.non
 | _,_,.bl b=>.bl b
 | _,_,.int i=>.int i
 | _,_,.str z=>.str z
 | _,_,.lst h r=>.lst (e.seq h) (RepAll.same e r)
 | _,_,.tup h r=>.tup (sX e h) (RepAll.same e r)
theorem RepAll.same {K:cy} {H H':Hp} (e:Same H H'):∀ {xs:List V} {ds:List PyData},RepAll K H xs ds→RepAll K H' xs ds
 | _,_,.nil=>.nil
 | _,_,.cons h r=>.cons (Rep.same e h) (RepAll.same e r)
end
section
variable {X:Cx} {pins:List (Addr×Obj)} {σ:St} {H:Hp} {s:Shared}
mutual
theorem Rep.reads (I:Inv X pins σ H s):∀ {v:V} {d:PyData} {u:Value},Rep X.K H v d→RelV v u→∃ as,Reads s.heap u d as
 | _,_,u,.non,r=>by
  obtain rfl:u=Value.none:=r
  exact⟨[],.none⟩
 | _,_,u,.bl b,r=>by
  obtain rfl:u=Value.bool b:=r
  exact⟨[],.bool b⟩
 | _,_,u,.int i,r=>by
  obtain⟨t,rfl⟩:=r
  exact⟨[],.int i t⟩
 | _,_,u,.str z,r=>by
  obtain⟨t,rfl⟩:=r
  exact⟨[],.str z t⟩
 | _,_,u,.lst (a:=a) h ra,r=>by
  obtain rfl:u=Value.ref a:=r
  obtain⟨its,rv,⟨o,n,e,c,_,dt⟩,_⟩:=I.list h
  obtain⟨as,ra'⟩:=RepAll.reads I ra rv
  exact⟨a::as,.list e c dt (by simpa using ra')⟩
 | _,_,u,.tup (a:=a) h ra,r=>by
  obtain rfl:u=Value.ref a:=r
  obtain⟨its,rv,⟨o,e,c,n,dt⟩,_⟩:=I.tuple h
  obtain⟨as,ra'⟩:=RepAll.reads I ra rv
  exact⟨as,.tuple e c dt (by simpa using ra')⟩
theorem RepAll.reads (I:Inv X pins σ H s):∀ {xs:List V} {ds:List PyData} {us:List Value},RepAll X.K H xs ds→Vals xs us→∃ as,ReadsAll s.heap us ds as
 | _,_,_,.nil,.nil=>⟨[],.nil⟩
 | _,_,_,.cons h r,.cons rv rs=>by
  obtain⟨as,h1⟩:=Rep.reads I h rv
  obtain⟨bs,h2⟩:=RepAll.reads I r rs
  exact⟨as++bs,.cons h1 h2⟩
end
end
def iC (d:PyData):Prop:=d.canLay0=true∧d.depth≤40
def jk {k:Nat} (hr:Room k A):A.units+60<cLine:=Nat.lt_of_le_of_lt (Nat.add_le_add_left (by decide:60≤64) _) hr.units
section
variable {X:Cx}
def pq (K:cy) (neg:Bool):R2:=fun x y H Q=>∃ d e,Rep K H x d∧Rep K H y e∧iC d∧iC e∧Q (.bl (if neg then !PyData.eqv d e else Eu d e)) H
def nY (hu:X.A.units+60<cLine):OpR X (EJ .Eq) (pq X.K false):=by
 intro pins s σ H x y v u Q I rx ry h
 obtain⟨d,e,hd,he,fd,fe,q⟩:=h
 obtain⟨as,r1⟩:=hd.reads I rx
 obtain⟨bs,r2⟩:=he.reads I ry
 exact SeqAt.compareEq_reads r1 r2 fd.1 fe.1 (by have:=fd.2; have:=fe.2; omega) ⟨.bl _,H,I,rfl,q⟩
def rV (hu:X.A.units+60<cLine):OpR X (EJ .NotEq) (pq X.K true):=by
 intro pins s σ H x y v u Q I rx ry h
 obtain⟨d,e,hd,he,fd,fe,q⟩:=h
 obtain⟨as,r1⟩:=hd.reads I rx
 obtain⟨bs,r2⟩:=he.reads I ry
 exact SeqAt.compareNe_reads r1 r2 fd.1 fe.1 (by have:=fd.2; have:=fe.2; omega) ⟨.bl _,H,I,rfl,q⟩
def rP (K:cy) (neg:Bool):R2:=fun x y H Q=>∃ (p:Addr) (d:PyData) (ds:List PyData),y=.ref p∧Rep K H x d∧(Rep K H (.ref p) (.list ds)∨Rep K H (.ref p) (.tuple ds))∧iC d∧iC (.list ds)∧Q (.bl (if neg then !(ds.any fun y=>Eu y d) else ds.any fun y=>Eu y d)) H
def BW (hu:X.A.units+60<cLine):OpR X (EJ .In) (rP X.K false):=by
 intro pins s σ H x y v u Q I rx ry h
 obtain⟨p,d,ds,rfl,hd,he,fd,fe,q⟩:=h
 obtain⟨as,r1⟩:=hd.reads I rx
 have dp:DO ds+1≤40:=fe.2
 have fe1:Ea ds=true:=fe.1
 rcases he with he | he
 ·obtain⟨bs,r2⟩:=he.reads I ry
  exact SeqAt.in_list_reads r2 r1 fe1 fd.1 (by have:=fd.2; exact Oz4 hu this) ⟨.bl _,H,I,rfl,q⟩
 ·obtain⟨bs,r2⟩:=he.reads I ry
  exact SeqAt.in_tuple_reads r2 r1 fe1 fd.1 (by have:=fd.2; exact Oz4 hu this) ⟨.bl _,H,I,rfl,q⟩
def qI (hu:X.A.units+60<cLine):OpR X (EJ .NotIn) (rP X.K true):=by
 intro pins s σ H x y v u Q I rx ry h
 obtain⟨p,d,ds,rfl,hd,he,fd,fe,q⟩:=h
 obtain⟨as,r1⟩:=hd.reads I rx
 have dp:DO ds+1≤40:=fe.2
 have fe1:Ea ds=true:=fe.1
 rcases he with he | he
 ·obtain⟨bs,r2⟩:=he.reads I ry
  exact SeqAt.notIn_list_reads r2 r1 fe1 fd.1 (by have:=fd.2; exact Oz4 hu this) ⟨.bl _,H,I,rfl,q⟩
 ·obtain⟨bs,r2⟩:=he.reads I ry
  exact SeqAt.notIn_tuple_reads r2 r1 fe1 fd.1 (by have:=fd.2; exact Oz4 hu this) ⟨.bl _,H,I,rfl,q⟩
end
end _l
namespace _ht
open PySem PyProof.Rows
noncomputable def resC (z:Bool):List (Bool×Bool)→Bool
 | []=>z
 | (e,c)::P=>if e=true then resC z P else c
def BH (op:CmpOp) (A:Around) (s:Shared) (y x:Value) (b:Bool):Prop :=
 ∀ (prog:Dz) (w:World) (E:Value→Shared→Prop) (Q:Value→Shared→Prop),Q (.bool b) s→wpAny (model prog w) A (richCompare op y x) Q E s
section
open PySem.SeqAt
open PySem.AutoSeq1 (wpAny_loadPart')
open PySem.MeetsSeq PySem.MeetsSeq2 PySem.MeetsSeq3
def pG (l b:Addr) (items items2:Array Value) (n n2:Nat) (dd dd2:Option Addr) (sl sl2:Array (Option Value)) (P:List (Bool×Bool)) (hlen:P.length=min items.size items2.size) :
  Meets (Gx.«tuple.__lt__» ⟨[.ref l,.ref b],[]⟩)
   (fun A R s=>s.heap.get? l=some { cls:=.type "tuple",dict:=dd,data:=.seq items n,slots:=sl }∧s.heap.get? b=some { cls:=.type "tuple",dict:=dd2,data:=.seq items2 n2,slots:=sl2 } ∧
    (∀ j (h1:j<items.size) (h2:j<items2.size),EqAt A.in1 s items[j] items2[j] (P.getD j (true,true)).1∧((P.getD j (true,true)).1=false→BH .Lt A.in1 s items[j] items2[j] (P.getD j (true,true)).2)) ∧
    R (.ok (.ret (.bool (resC (decide (items.size<items2.size)) P)))) s) :=
 .of_wp fun prog w A R s h=>by
  obtain⟨hp,g,d,tk,os⟩:=s; obtain⟨hl,hb,he,h⟩:=h
  have f2:=AutoSeq1.sub_tuple_tuple
  have hZ:(items.toList.zip items2.toList).length=min items.size items2.size:=by simp
  wp_walk using FN hl,FN hb,wpAny_forIn_list _ (fun rest b s'=>b.1=none∧s'=⟨hp,g,d,tk,os⟩∧∃ i,rest=(items.toList.zip items2.toList).drop i∧i≤min items.size items2.size ∧
   R (.ok (.ret (.bool (resC (decide (items.size<items2.size)) (P.drop i))))) ⟨hp,g,d,tk,os⟩) _
  case turn =>
   rintro⟨y,x⟩ rest b s' ⟨hb',rfl,i,hz,hi,hR⟩
   have hlt:i<(items.toList.zip items2.toList).length:=by
    rcases Nat.lt_or_ge i (items.toList.zip items2.toList).length with h | h
    ·exact h
    ·rw[Ft h] at hz; cases hz
   rw[Gp hlt] at hz
   injection hz with hyx hrest
   have h1:i<items.size:=by omega
   have h2:i<items2.size:=by omega
   have ey:y=items[i]:=by
    have:=congrArg Prod.fst hyx
    simpa using this
   have ex:x=items2[i]:=by
    have:=congrArg Prod.snd hyx
    simpa using this
   subst ey ex
   have hP:i<P.length:=by omega
   have ePd:P.drop i=P.getD i (true,true)::P.drop (i+1):=by
    rw[Gp hP]
    congr 1
    simp [Er,hP]
   rw[ePd] at hR
   obtain⟨q1,q2⟩:=he i h1 h2
   refine wo (q1 prog w _ _ ?_)
   generalize P.getD i (true,true)=p at *
   obtain⟨e,c⟩:=p
   cases e with
   | true =>
    have hR':R (.ok (.ret (.bool (resC (decide (items.size<items2.size)) (P.drop (i+1)))))) ⟨hp,g,d,tk,os⟩:=hR
    wp_walk
    exact⟨rfl,rfl,i+1,hrest,by omega,hR'⟩
   | false =>
    have hR':R (.ok (.ret (.bool c))) ⟨hp,g,d,tk,os⟩:=hR
    have hri:=q2 rfl prog w
    wp_walk using hri
    exact⟨_,rfl,by simpa using hR'⟩
  case fin =>
   rintro⟨b1,b2⟩ s' ⟨hb',rfl,i,hz,hi,hR⟩
   simp only at hb'
   subst hb'
   have:i=min items.size items2.size:=by
    have:=congrArg Jv hz
    rw[List.length_nil,ED,hZ] at this
    omega
   rw[Ft (by omega)] at hR
   wp_walk
   exact⟨_,rfl,by simpa [Builtin.Tuple.tupleCompareSizes,resC] using hR⟩
  case h =>
   exact⟨rfl,rfl,0,by simp,Nat.zero_le _,by simpa using h⟩
end
end _ht
namespace _ht
open PySem PyProof.Rows PySem.SeqAt
theorem eqvAll_ints:∀ ns ms:List Int,PyData.eqvAll (ns.map PyData.int) (ms.map PyData.int)=decide (ns=ms)
 | [],[]=>rfl
 | [],_::_=>rfl
 | _::_,[]=>rfl
 | n::ns,m::ms=>by
  show (n == m && PyData.eqvAll (ns.map PyData.int) (ms.map PyData.int))=_
  rw[eqvAll_ints ns ms]
  by_cases h:n=m
  ·subst h
   by_cases h2:ns=ms <;> simp [h2]
  ·simp [h]
theorem canLay_ints:∀ ns:List Int,Ea (ns.map PyData.int)=true
 | []=>rfl
 | n::ns=>canLay_ints ns
theorem depth_ints:∀ ns:List Int,DO (ns.map PyData.int)=0
 | []=>rfl
 | n::ns=>by
  show max 0 (DO (ns.map PyData.int))=0
  rw[depth_ints ns]
  rfl
theorem lA {h:Heap}:∀ {ns:List Int} {its:List Value},GL its ns→∃ as,ReadsAll h its (ns.map PyData.int) as
 | [],_,.nil=>⟨[],.nil⟩
 | n::ns,_,.cons _ t r=>by
  obtain⟨as,q⟩:=lA (h:=h) r
  exact⟨[]++as,.cons (.int n t) q⟩
def eqAt_tups {l b:Addr} {its2:List Value} (hl:IsTup s.heap l its.toArray) (hb:IsTup s.heap b its2.toArray) (hi:GL its ns) (hj:GL its2 ms) (hu:A.units+1<cLine) :
  EqAt A s (.ref l) (.ref b) (decide (ns=ms)):=by
 obtain⟨o,e,c,n,d⟩:=hl
 obtain⟨o2,e2,c2,n2,d2⟩:=hb
 obtain⟨as,r1⟩:=lA (h:=s.heap) hi
 obtain⟨bs,r2⟩:=lA (h:=s.heap) hj
 have R1:Reads s.heap (.ref l) (.tuple (ns.map PyData.int)) as:=.tuple e c d (by simpa using r1)
 have R2:Reads s.heap (.ref b) (.tuple (ms.map PyData.int)) bs:=.tuple e2 c2 d2 (by simpa using r2)
 have:=eqAt_reads _ _ A s _ _ _ _ R1 R2 (canLay_ints ns) (canLay_ints ms) (by
  show A.units+min (DO _+1) (DO _+1)<cLine
  rw[depth_ints,depth_ints]
  simpa using hu)
 have e3:Eu (.tuple (ns.map PyData.int)) (.tuple (ms.map PyData.int))=decide (ns=ms):=eqvAll_ints ns ms
 rwa [e3] at this
theorem mj:∀ {ns:List Int} {its:List Value},GL its ns→∀ j (h:j<its.length),∃ t,its[j]=.int (ns.getD j 0) t
 | [],_,.nil,j,h=>by simp at h
 | n::ns,_,.cons _ t r,0,h=>⟨t,rfl⟩
 | n::ns,_,.cons _ t r,j+1,h=>by
  obtain⟨u,e⟩:=mj r j (by simpa using h)
  exact⟨u,by simpa using e⟩
noncomputable def lz (ns ms:List Int):List (Bool×Bool):=(ns.zip ms).map fun p=>(p.1 == p.2,decide (p.1<p.2))
noncomputable def lexC_lt (ns ms:List Int):Bool:=resC (decide (ns.length<ms.length)) (lz ns ms)
def rc_ints_lt {l b:Addr} {its2:List Value} (hl:IsTup s.heap l its.toArray) (hb:IsTup s.heap b its2.toArray) (hi:GL its ns) (hj:GL its2 ms) (hu:A.units<cLine) :
  BH .Lt A s (.ref l) (.ref b) (lexC_lt ns ms):=by
 intro prog w E Q h
 obtain⟨⟨cls,dd,data,sl⟩,ho,hc,n,hd⟩:=id hl
 obtain⟨⟨cls2,dd2,data2,sl2⟩,ho2,hc2,n2,hd2⟩:=id hb
 simp only at hc hd hc2 hd2
 subst hc hd hc2 hd2
 have z1:=hi.length
 have z2:=hj.length
 have hlen:(lz ns ms).length=min its.toArray.size its2.toArray.size:=by
  unfold lz
  rw[iz,GO,Dk,Dk,z1,z2]
 refine richCompare_meets_room (op:=.Lt) ⟨_,ho,rfl⟩ ⟨_,ho2,rfl⟩ PySem.F.slot_tuple_lt PySem.F.entry_tuple_lt (PySem.F.args_tuple_lt_2 _ _) (pG l b its.toArray its2.toArray n n2 dd dd2 sl sl2 (lz ns ms) hlen)
  ⟨ho,ho2,?_,?_⟩ hu
 ·intro j h1 h2
  rw[Dk] at h1 h2
  obtain⟨t,e1⟩:=mj hi j h1
  obtain⟨u,e2⟩:=mj hj j h2
  have ep:(lz ns ms).getD j (true,true)=(ns.getD j 0 == ms.getD j 0,decide (ns.getD j 0<ms.getD j 0)):=by
   unfold lz
   have h3:j<ns.length:=by exact Oz13 z1 h1
   have h4:j<ms.length:=by exact Oz13 z2 h2
   have hz:(ns.zip ms)[j]?=some (ns[j],ms[j]):=by
    rw[Dm (by rw[GO]; omega),List.getElem_zip]
   simp [Er,h3,h4,hz]
  rw[ep]
  have f1:its.toArray[j]=.int (ns.getD j 0) t:=by simpa using e1
  have f2:its2.toArray[j]=.int (ms.getD j 0) u:=by simpa using e2
  rw[f1,f2]
  exact⟨EqAt.int_int _ t _ u,fun _ prog w E Q q=>(lt_int q:wpAny (model prog w) _ (EJ .Lt (.int _ t) (.int _ u)) Q E s)⟩
 ·have es:decide (its.toArray.size<its2.toArray.size)=decide (ns.length<ms.length):=by rw[Dk,Dk,z1,z2]
  rw[es]
  exact⟨(fun x=>nomatch x),h⟩
noncomputable def key_lt (x y:Int×List Int×List Int):Bool:=resC (decide (3<3)) [(x.1 == y.1,decide (x.1<y.1)),(decide (x.2.1=y.2.1),lexC_lt x.2.1 y.2.1),(decide (x.2.2=y.2.2),lexC_lt x.2.2 y.2.2)]
section
variable {l b:Addr}
def mw (r:_l.Vals (ns.map _l.V.int) its):GL its ns:=_l.ints_are r
end
end _ht
namespace _l
open PySem PySem.Spec PyProof.Rows
def vals3 {i:Int} {a b:Addr} (r:Vals [.int i,.ref a,.ref b] its):∃ t,its=[.int i t,.ref a,.ref b]:=by
 cases r with
 | cons h1 r =>
  cases r with
  | cons h2 r =>
   cases r with
   | cons h3 r =>
    cases r
    obtain⟨t,rfl⟩:=h1
    cases h2
    cases h3
    exact⟨t,rfl⟩
def vz (h:X.K=K) (hu:X.A.units+60<cLine):OpR X (EJ .Eq) (pq K false):=by subst h; exact nY hu
def oj (h:X.K=K) (hu:X.A.units+60<cLine):OpR X (EJ .NotIn) (rP K true):=by subst h; exact qI hu
def iOr (w1 w2:TI):TI:=fun σ H R=>w1 σ H R∨w2 σ H R
def qY {X:Cx} {tg l:Expr} {w1 w2:TI} (h1:PI X tg l w1) (h2:PI X tg l w2):PI X tg l (iOr w1 w2):=fun pins s σ H R I h=>by
 rcases h with h | h
 ·exact h1 pins s σ H R I h
 ·exact h2 pins s σ H R I h
section
variable {K:cy} {a:Addr} {g:TG} {tt:TT} {te:TE} {Q:VK} {H:Hp}
def qx {τ:St} {sq:Hp→List V→Prop} (xs:List V) (Pv:Nat→St→Hp→Prop) (h0:Pv 0 τ H) (hl:∀ i τ H,i≤xs.length→Pv i τ H→sq H xs)
  (hs:∀ i x T τ H (R:St→Hp→Prop),xs[i]?=some x→Pv i τ H→H T=none→(∀ τ' H',Pv (i+1) τ' H'→R τ' H')→jT D g tt te (.ref T) τ (upd H T (.tup [.int i,x])) R) (hd:∀ τ H,Pv xs.length τ H→Q (.ref D) H):jf D (Ite sq) g tt te Q τ H:=by
 refine⟨fun i m τ H=>m=xs.length-i∧i≤xs.length∧Pv i τ H,⟨xs.length,by simp,Nat.zero_le _,h0⟩,?_⟩
 rintro i m τ H2 ⟨rfl,hi,p⟩
 have q:=hl i τ H2 hi p
 by_cases hlt:i<xs.length
 ·have hx:xs[i]?=some xs[i]:=by simp [hlt]
  refine .inr ⟨⟨xs,_,q,hx⟩,fun x H' y=>?_⟩
  obtain⟨T,v,hT,e1,e2,y1⟩:=y
  subst e1 e2
  exact hs i _ T τ _ (fun τ' H'=>∃ m',m'<xs.length-i∧m'=xs.length-(i+1)∧i+1≤xs.length∧Pv (i+1) τ' H') (y1 xs q) p hT fun τ' H' p'=>⟨_,by exact Oz1 hlt,rfl,hlt,p'⟩
 ·have e:i=xs.length:=by exact Oz10 hi hlt
  subst e
  exact .inl ⟨⟨xs,q,Nat.le_refl _⟩,hd τ H2 p⟩
def jG (xs:List V) (hq:Sq K H a xs) (ix:St) (Pv:Addr→Nat→St→Hp→Prop) (h0:∀ D,H D=none→Pv D 0 ix (upd H D (.lst []))) (hl:∀ D i τ H',H D=none→Pv D i τ H'→Same H H')
  (hs:∀ D i x T τ H' (R:St→Hp→Prop),H D=none→xs[i]?=some x→Pv D i τ H'→H' T=none→(∀ τ' H',Pv D (i+1) τ' H'→R τ' H')→jT D g tt te (.ref T) τ (upd H' T (.tup [.int i,x])) R) (hd:∀ D τ H',H D=none→Pv D xs.length τ H'→Q (.ref D) H') :
  ((∃ xs,SqL K H a xs)∧∀ D,H D=none→jf D (Ite fun H xs=>SqL K H a xs) g tt te Q ix (upd H D (.lst [])))∨((∃ xs,SqT K H a xs)∧∀ D,H D=none→jf D (Ite fun H xs=>SqT K H a xs) g tt te Q ix (upd H D (.lst []))):=by
 rcases hq with hq | hq
 ·exact .inl ⟨⟨_,hq⟩,fun D hD=>qx xs (Pv D) (h0 D hD) (fun i τ H' _ p=>(hl D i τ H' hD p).seq hq) (fun i x T τ H' R hx p hT nx=>hs D i x T τ H' R hD hx p hT nx) (fun τ H'=>hd D τ H' hD)⟩
 ·exact .inr ⟨⟨_,hq⟩,fun D hD=>qx xs (Pv D) (h0 D hD) (fun i τ H' _ p=>sX (hl D i τ H' hD p) hq) (fun i x T τ H' R hx p hT nx=>hs D i x T τ H' R hD hx p hT nx) (fun τ H'=>hd D τ H' hD)⟩
end
section
variable {X:Cx}
def Vals.takeN:∀ {xs:List V} {us:List Value} (k:Nat),Vals xs us→Vals (xs.take k) (us.take k)
 | _,_,0,_=>by rw[FW,FW]; exact .nil
 | _,_,_+1,.nil=>.nil
 | _,_,k+1,.cons r t=>.cons r (Vals.takeN k t)
def Vals.dropN:∀ {xs:List V} {us:List Value} (k:Nat),Vals xs us→Vals (xs.drop k) (us.drop k)
 | _,_,0,h=>h
 | _,_,_+1,.nil=>.nil
 | _,_,k+1,.cons _ t=>Vals.dropN k t
def vG:V→List V→Hp→VK→Prop:=fun x vs H Q=>∃ (l:Addr) (xs:List V) (k:Nat) (y:V),x=.ref l∧vs=[.int k,y]∧H l=some (.lst xs)∧k≤xs.length∧xs.length<sizeLine∧Q .non (upd H l (.lst (xs.take k++y::xs.drop k)))
def mH:MtM X "list.insert" vG:=by
 intro pins s σ H x vs v us Q I rx rv h
 obtain⟨l,xs,k,y,rfl,rfl,hH,hk,hz1,q⟩:=h
 cases rx
 have sl:(k:Int)<2 ^ 63:=by
  have:=jQ
  omega
 have hf:¬(!Builtin.List.listFitsIndex (k:Int))=true:=by rw[fitsIndex_both (by omega) sl]; exact DC
 have h0:¬ (k:Int)<0:=by exact Oz85
 have hn:(k:Int).toNat=k:=EA k
 generalize (k:Int)=ki at rv hf h0 hn
 cases rv with
 | @cons _ u1 _ _ r1 rv =>
  cases rv with
  | @cons _ u2 _ _ r2 rv =>
   cases rv
   obtain⟨t,rfl⟩:=r1
   obtain⟨z,its,n,r,hl,e⟩:=I.lstM hH
   have hs1:its.toArray.size≤sizeLine:=by rw[Dk]; exact Oz80 hz1 hl
   have M:=AutoSeq1.list_insert_list_int_val_1 l its.toArray n ki t u2 hf hs1
   refine Gh F.slot_list_insert ⟨_,e,rfl⟩ F.entry_list_insert (F.args_list_insert_3 _ _ _) M ⟨e,?_⟩
   refine⟨.non,_,I.lset (its':=its.take k++u2::its.drop k) hH e ?_ (Vals.append (Vals.takeN k r) (.cons r2 (Vals.dropN k r))) ?_,rfl,q⟩
   ·show (Array.extract its.toArray 0 (if ki<0 then (ki+(its.toArray.size:Int)).toNat else min ki.toNat its.toArray.size)).push u2++Array.extract its.toArray (if ki<0 then (ki+(its.toArray.size:Int)).toNat else min ki.toNat its.toArray.size)=_
    rw[if_neg h0,hn,Dk,Nat.min_eq_left (by omega)]
    apply Array.toList_inj.mp
    simp
    exact Dw (by rw[ED]; exact Nat.le_refl _)
   ·simp only [Dp,DF,Dt,ED]
    omega
end
section
variable {X:Cx}
def AB:R2:=fun x y H Q=>∃ (c:Nat) (n:Nat),x=.str (txt [c])∧y=.int n∧1≤n∧n≤1000∧Q (.str (txt (Ez n c))) H
theorem sG (c:Nat):∀ (n:Nat) (a:List Nat),Jh (fun x y:Array Nat=>x++y) a.toArray (Ez n #[c])=(a++Ez n c).toArray
 | 0,a=>by simp
 | n+1,a=>by
  rw[JA,FO]
  have:=sG c n (a++[c])
  have e:a.toArray++#[c]=(a++[c]).toArray:=by simp
  rw[e,this,List.append_assoc,JA]
  rfl
def A6:OpR X (FG .Mult) AB:=by
 intro pins s σ H x y v u Q I rx ry h
 obtain⟨c,n,rfl,rfl,h1,hn,q⟩:=h
 obtain⟨t,rfl⟩:=rx
 obtain⟨t',rfl⟩:=ry
 have l1:(txt [c]).length=1:=rfl
 refine PySem.P.mul_str (by rw[decide_eq_false (by omega),decide_eq_false (by omega)]; rfl) (fun _ _=>?_) (fun _ _=>?_) ?_
 ·rw[l1]
  have:(1:Int)≤(2 ^ 63-1) / (n:Int):=by
   apply (Int.le_ediv_iff_mul_le (by omega)).mpr
   omega
  omega
 ·rw[l1,EA,Nat.one_mul]
  unfold Hx
  rw[EL]
  simp
  exact Oz43 hn
 ·rw[if_neg (by omega)]
  by_cases e:((n:Int) == 1 || (txt [c]).length == 0)=true
  ·rw[if_pos e]
   have:n=1:=by
    rw[l1,Bool.or_eq_true] at e
    rcases e with e | e
    ·have:=eq_of_beq e
     exact Oz78 this
    ·exact absurd e (by decide)
   subst this
   exact⟨.str (txt [c]),H,I,⟨_,rfl⟩,q⟩
  ·rw[if_neg e]
   have ef:Jh (fun x y:Array Nat=>x++y) #[] (Ez (n:Int).toNat (txt [c]).cps)=(Ez n c).toArray:=by
    rw[EA]
    have:=sG c n []
    rw[List.nil_append] at this
    exact this
   rw[ef]
   exact⟨Nat.le_trans (show (Ez n c).toArray.size≤1000 by rw[Dk,G2]; exact Oz83 hn) (by decide),.str (txt (Ez n c)),H,I.tok _,⟨_,rfl⟩,q⟩
def AC:R2:=fun x y H Q=>∃ cs ds:List Nat,x=.str (txt cs)∧y=.str (txt ds)∧cs.length+ds.length≤1000∧Q (.str (txt (cs++ds))) H
def vJ:OpR X (FG .Add) AC:=by
 intro pins s σ H x y v u Q I rx ry h
 obtain⟨cs,ds,rfl,rfl,hz,q⟩:=h
 refine wm pins s σ H _ _ v u Q I rx ry ⟨_,_,rfl,rfl,Nat.le_trans (show cs.toArray.size+ds.toArray.size≤1000 by rw[Dk,Dk]; omega) (by decide),?_⟩
 have:(txt cs++txt ds:Str)=txt (cs++ds):=by
  apply Str.ext'
  simp [Str.cps_append]
 rw[this]
 exact q
end
def vC (K:cy):V→List V→Hp→VK→Prop:=fun x vs H Q=>∃ (l:Addr) (y:V) (d:PyData) (ds:List PyData),x=.ref l∧vs=[y]∧Rep K H y d∧Rep K H (.ref l) (.list ds)∧iC d∧iC (.list ds)∧Q (.int (ds.countP fun z=>Eu z d)) H
def qH (hK:X.K=K) (hu:X.A.units+60<cLine):MtR X "list.count" (vC K):=by
 subst hK
 intro pins s σ H x vs v us Q I rx rv h
 obtain⟨l,y,d,ds,rfl,rfl,hd,he,fd,fe,q⟩:=h
 cases rx
 cases rv with
 | @cons _ u1 _ _ r1 rv =>
  cases rv
  obtain⟨as,R1⟩:=hd.reads I r1
  obtain⟨bs,R2⟩:=he.reads I (show RelV (.ref l) (.ref l) from rfl)
  have dp:DO ds+1≤40:=fe.2
  have fe1:Ea ds=true:=fe.1
  cases R2 with
  | @list _ o its n _ as' e1 e2 e3 e4 =>
   have M:=SeqAt.list_countAt l its n o.dict o.slots u1 (fun z=>Eu (G4 s.heap z) d)
   have eo:s.heap.get? l=some { cls:=.type "list",dict:=o.dict,data:=.seq its n,slots:=o.slots }:=by
    rw[e1,← e2,← e3]
   refine Gh F.slot_list_count ⟨_,e1,e2⟩ F.entry_list_count (F.args_list_count_2 _ _) M ⟨eo,fun z hz=>?_,?_⟩
   ·obtain⟨d',as2,R3,c3,dp3⟩:=JI ds its.toList as' fe1 e4 z (by simpa using hz)
    have er:G4 s.heap z=d':=by
     have:=GP [d'] [z] _ (by show (DN d' && true)=true; rw[c3]; rfl) (.cons R3 .nil)
     simpa using this
    rw[er]
    refine SeqAt.eqAt_reads d' d _ s z u1 as2 as R3 R1 c3 fd.1 ?_
    have:=fd.2
    show X.A.units+1+min d'.depth d.depth<cLine
    exact Oz4 hu this
   ·refine⟨.int _,H,I.tok _,⟨_,rfl⟩,?_⟩
    have ec:its.toList.countP (fun z=>Eu (G4 s.heap z) d)=ds.countP fun z=>Eu z d:=by
     rw[← GP ds its.toList as' fe1 e4,List.countP_map]
     rfl
    rw[ec]
    exact q
def BG {X:Cx} {K:cy} {T:String} {o e:Expr} {es:List Expr} {to:TE} {t:TA} {name:Str} {apos cpos:Pos} {id:String} {r:V→List V→Hp→VK→Prop} (hK:X.K=K) (pa:PlainAttrs T) (slot:Slot T name id) (hty:typeOf (.builtin id)=pure (.type "method_descriptor")) (hm:MtR X id r) (ho:PE X o to) (ha:PA X (e::es) t)
  (hbase:Gf o name X.env (eval o X.env)=eval o X.env:=by rfl)
  (hfew:((backTo cpos (DK (e::es) X.env)).all (fun x=>!x.1) && (backToKw cpos (Iq [] X.env)).all (fun x=>x.1.isSome)
   && decide ((e::es).length+([]:List IT).length+(if ([]:List IT).isEmpty then 0 else 1)<30))=true:=by rfl)
  (hline:(apos.endLine == cpos.line)=true:=by rfl) (hs:DK (e::es) X.env=(false,eval e X.env)::DK es X.env:=by rfl) (hplain:(backTo cpos (DK es X.env)).any (·.1)=false:=by rfl) :
  PE X (.Call (.Attribute o name apos) (e::es) [] cpos) (tBM K T r to t):=by
 subst hK
 exact iG pa slot hty hm ho ha hbase hfew hline hs hplain
structure Mk0 (K:cy) (C:Addr):Prop where
 makes:GG K C=true
 init:DG K (.ref C) "__init__"=some (some (.builtin "object.__init__"))
 kp:Es K (.ref C)=true
def yN (C:Addr):TE:=fun _ H Q=>∀ x dx,H x=none→H dx=none→dx≠x→Q (.ref x) (upd (upd H dx (.own x)) x (.ins C dx []))
section
variable {X:Cx} {C:Addr} {x:Str} {p pos apos:Pos}
def yu (M:Mk0 X.K C) (I:Inv X pins σ H s)
  (h:∀ x dx,H x=none→H dx=none→dx≠x→Q (.ref x) (upd (upd H dx (.own x)) x (.ins C dx []))) :
  wpAny (model X.prog X.w) X.A (call (.ref C) []) (EP X pins σ Q) X.xe s:=by
 have hq:=h (s.heap.objs.size+1) s.heap.objs.size (I.hok.fresh (Nat.le_succ _)) (I.hok.fresh (Nat.le_refl _)) (Nat.ne_of_lt (Nat.lt_succ_self _))
 have I2:=Inv.made (C:=C) I
 have Y:=IG (M:=model X.prog X.w) I.kIn M.makes
 have hx:((s.heap.push Ej).push (Ey C s.heap.objs.size)).get? (s.heap.objs.size+1)=some (Ey C s.heap.objs.size):=by
  have:=Dr (s.heap.push Ej) (o:=Ey C s.heap.objs.size) rfl
  rwa [Fi] at this
 refine Gg (x8 I.kIn M.makes M.init (fun self=>G5 (PySem.W.oi_bind self)) ?_)
 refine Ff PySem.W.oi_plain PySem.W.entry_oi (PySem.W.check_slot PySem.W.oi_kind PySem.W.oi_split (Ja (Ja (PySem.W.Looks.ld hx) PySem.W.Looks.now) (PySem.W.Looks.keeps Y.top fun b o e=>Dl (Ey C s.heap.objs.size) (Dl Ej e))) (PySem.W.oi_args (Value.ref (s.heap.objs.size+1))) ?_)
 rw[PySem.W.oi_run]
 exact Do ⟨rfl,⟨V.ref (s.heap.objs.size+1),_,I2,rfl,hq⟩⟩
def zF (M:Mk0 X.K C) (hg:Gl X x) (hm:X.mg x=some (.ref C)) (hdb:(x == ("__debug__":Str))=false:=by decide):PE X (.Call (.Name x p) [] [] pos) (yN C):=by
 intro pins s σ H Q I h
 refine E4 (jl I hg hm ?_ hdb)
 exact PySem.W.callWith_K0 I.kIn M.kp (yu M I h)
end
structure MkC (P:Dz) (w:World) (K:cy) (mg:Str→Option Value) (base:Heap) (x:Str) (C:Addr) (k:Nat) (ps:List Str) (sp:Sp):Prop where
 ex:∃ f fd,Mk K C f∧FnOk P w K mg base CX0 k f fd ps sp∧Binds K fd ps []
 at_:mg x=some (.ref C)
section
variable {X:Cx} {C:Addr} {x:Str} {j k:Nat} {ps:List Str} {sp:Sp} {p pos apos:Pos} {e o:Expr} {es:List Expr} {t:TA} {ta:TE} {m:Str}
def ji (M:MkC X.prog X.w X.K X.mg X.base x C j ps sp) (hr:Room k X.A) (hg:Gl X x) (ha:PA X (e::es) t) (hj:j+1≤k:=by decide) (hdb:(x == ("__debug__":Str))=false:=by decide)
  (he:DK (e::es) X.env=(false,eval e X.env)::DK es X.env:=by rfl) (hpl:(backTo pos (DK es X.env)).any (·.1)=false:=by rfl) :
  PE X (.Call (.Name x p) (e::es) [] pos) (xo C sp [] E0 t):=by
 obtain⟨f,fd,Mk,F,b⟩:=M.ex
 exact AV Mk F (hr.mono hj) hg M.at_ b .nil vP ha hdb he hpl
structure Disp (P:Dz) (w:World) (K:cy) (mg:Str→Option Value) (base:Heap) (m:Str) (k:Nat) (ps:List Str) (C:Addr) (sp:Sp):Prop where
 cls:Cls K C
 ex:∃ f fd,Meth K C m f∧FnOk P w K mg base CX0 k f fd ps sp∧Binds K fd ps []
def yM (D:Addr→Sp→Prop) (m:Str) (ta:TE) (t:TA):TE:=fun σ H Q=>ta σ H fun x H1=>∃ a C dx fs sp,x=.ref a∧H1 a=some (.ins C dx fs)∧fs.lookup m=none∧D C sp∧t σ H1 fun vs H2=>sp (.ref a::vs) H2 Q E0
def AS (F:FnOk X.prog X.w X.K X.mg X.base CX0 k f fd ps sp) (hr:Room k X.A) (hb:Binds X.K fd ps [])
  (I:Inv X pins σ H s) (r:Vals vs us) (h:sp vs H Q E0):wpAny (model X.prog X.w) X.A (call (.ref f) us) (EP X pins σ Q) X.xe s:=by
 have:=yx F hr hb .nil vP I r (by rw[D9]; exact h)
 exact this
def iX {D:Addr→Sp→Prop} {pl:Sem Bool} (he:PE X o ta) (hD:∀ C sp,D C sp→Disp X.prog X.w X.K X.mg X.base m j ps C sp) (hr:Room k X.A) (ha:PA X (e::es) t) (hj:j≤k:=by decide)
  (hst:DK (e::es) X.env=(false,eval e X.env)::DK es X.env:=by rfl) (hpl:(backTo pos (DK es X.env)).any (·.1)=false:=by rfl)
  (ht:eval (.Call (.Attribute o m apos) (e::es) [] pos) X.env=(do
   let ov ← eval o X.env
   standAt apos.atName
   let (f,first) ← JK [ov] (getMethod ov m pl)
   callWith pos f first (backTo pos (DK (e::es) X.env)) (backToKw pos (Iq [] X.env))):=by rfl) :
  PE X (.Call (.Attribute o m apos) (e::es) [] pos) (yM D m ta t):=by
 intro pins s σ H Q I h
 refine PySem.W.methodCall_KW (pl:=pl) (thn (he pins s σ H _ I h) fun u s1 ⟨x,H1,I1,rx,a,C,dx,fs,sp,ex,ea,l,d,q⟩=>?_) ht
 subst ex
 obtain rfl:u=Value.ref a:=rx
 obtain⟨c,f,fd,hm,F,hb⟩:=hD C sp d
 refine xB I1 ea c hm l ?_
 refine GI (first:=[.ref a]) (h₀:=X.base) I.ok.mod.kin hm.kp (thn (ha pos pins s1 σ H1 _ I1 q) fun us s2 ⟨vs,H2,I2,r,q2⟩=>⟨I2.kIn,?_⟩) hst hpl
 exact AS (us:=.ref a::us) (vs:=.ref a::vs) F (hr.mono hj) hb I2 (.cons rfl r) q2
end
structure ICls (K:cy) (C:Addr):Prop where
 cl:Cls K C
 ha:DG K (.ref C) "__class__"=some (some (.builtin "object.__class__"))
 hn:EY K (.builtin "object.__class__") "__get__"=some (some (.builtin "getset_descriptor.__get__"))
 htk:FZ K (.builtin "object.__class__")=some true
 hm:EG K C (.type "object")=some true
def Aj (K:cy):V→Option Int→Option Int→Hp→VK→Prop:=fun x lo hi H Q=>∃ a xs,x=.ref a∧SqT K H a xs∧∀ p H',Same H H'→SqT K H' p (gC xs lo hi)→Q (.ref p) H'
def kE (h:X.K=K):SlR X (Aj K):=by
 subst h
 intro pins s σ H x v vl vu lo hi sl Q I rx hs pl pu h
 obtain⟨a,xs,rfl,T,q⟩:=h
 refine uW pins s σ H _ v vl vu lo hi sl Q I rx hs pl pu ⟨a,xs,rfl,T,fun e=>q _ _ (Same.refl _) (by rw[e]; exact T),fun p hp=>q _ _ (fun b u z=>?_) (SqT.of aT)⟩
 rw[aZ (bZ z hp)]
 exact z
def rX (K:cy):R2:=fun x y H Q=>∃ a b xs ys,x=.ref a∧y=.ref b∧SqT K H a xs∧SqT K H b ys∧xs.length+ys.length≤sizeLine∧∀ p H',Same H H'→SqT K H' p (xs++ys)→Q (.ref p) H'
def zQ:OpR X (FG .Add) (rX X.K):=by
 intro pins s σ H x y v u Q I rx ry h
 obtain⟨a,b,xs,ys,rfl,rfl,ha,hb,hz,q⟩:=h
 have sn:∀ p,H p=none→Same H (upd H p (.tup (xs++ys))):=fun p hp b u z=>by rw[aZ (bZ z hp)]; exact z
 by_cases hx:xs=[]
 ·subst hx
  cases rx
  cases ry
  obtain⟨its,r1,p1,_⟩:=I.tuple ha
  obtain⟨its2,r2,p2,_⟩:=I.tuple hb
  have e0:=r1.nil_iff.mpr rfl
  obtain⟨⟨cls,dd,data,sl⟩,ho,hc,n,hd⟩:=id p1
  obtain⟨⟨cls2,dd2,data2,sl2⟩,ho2,hc2,n2,hd2⟩:=id p2
  simp only at hc hd hc2 hd2
  subst hc hd hc2 hd2
  exact IV ⟨_,ho,rfl⟩ ⟨_,ho2,rfl⟩ Hh Io FY FS (FJ _ _)
   (tuple_addW0 a b its.toArray its2.toArray n n2 dd dd2 sl sl2 (by simp [e0])) ⟨ho,ho2,⟨.ref b,H,I,rfl,q _ _ (Same.refl _) hb⟩⟩
 ·refine vo pins s σ H _ _ v u Q I rx ry ⟨a,b,xs,ys,rfl,rfl,ha,hb,hx,hz,fun e=>q _ _ (Same.refl _) (by rw[e,D9]; exact ha),fun _ p hp=>q _ _ (sn p hp) (SqT.of aT)⟩
def CY:V→Option Int→Option Int→Hp→VK→Prop:=fun x lo hi H Q=>∃ a xs,x=.ref a∧H a=some (.tup xs)∧∀ p H',Same H H'→H' p=some (.tup (gC xs lo hi))→Q (.ref p) H'
def vm:SlR X CY:=by
 intro pins s σ H x v vl vu lo hi sl Q I rx hs pl pu h
 obtain⟨a,xs,rfl,T,q⟩:=h
 refine uW pins s σ H _ v vl vu lo hi sl Q I rx hs pl pu ⟨a,xs,rfl,SqT.of T,fun e=>q _ _ (Same.refl _) (by rw[e]; exact T),fun p hp=>q _ _ (fun b u z=>?_) aT⟩
 rw[aZ (bZ z hp)]
 exact z
def By:R2:=fun x y H Q=>∃ a b xs ys,x=.ref a∧y=.ref b∧H a=some (.tup xs)∧H b=some (.tup ys)∧xs.length+ys.length≤sizeLine∧∀ p H',Same H H'→H' p=some (.tup (xs++ys))→Q (.ref p) H'
def zW:OpR X (FG .Add) By:=by
 intro pins s σ H x y v u Q I rx ry h
 obtain⟨a,b,xs,ys,rfl,rfl,ha',hb',hz,q⟩:=h
 have ha:SqT X.K H a xs:=SqT.of ha'
 have hb:SqT X.K H b ys:=SqT.of hb'
 have sn:∀ p,H p=none→Same H (upd H p (.tup (xs++ys))):=fun p hp b u z=>by rw[aZ (bZ z hp)]; exact z
 by_cases hx:xs=[]
 ·subst hx
  cases rx
  cases ry
  obtain⟨its,r1,p1,_⟩:=I.tuple ha
  obtain⟨its2,r2,p2,_⟩:=I.tuple hb
  have e0:=r1.nil_iff.mpr rfl
  obtain⟨⟨cls,dd,data,sl⟩,ho,hc,n,hd⟩:=id p1
  obtain⟨⟨cls2,dd2,data2,sl2⟩,ho2,hc2,n2,hd2⟩:=id p2
  simp only at hc hd hc2 hd2
  subst hc hd hc2 hd2
  exact IV ⟨_,ho,rfl⟩ ⟨_,ho2,rfl⟩ Hh Io FY FS (FJ _ _)
   (tuple_addW0 a b its.toArray its2.toArray n n2 dd dd2 sl sl2 (by simp [e0])) ⟨ho,ho2,⟨.ref b,H,I,rfl,q _ _ (Same.refl _) hb'⟩⟩
 ·refine vo pins s σ H _ _ v u Q I rx ry ⟨a,b,xs,ys,rfl,rfl,ha,hb,hx,hz,fun e=>q _ _ (Same.refl _) (by rw[e,D9]; exact ha'),fun _ p hp=>q _ _ (sn p hp) aT⟩
def z5 {X:Cx} {K:cy} {tg l:Expr} {tl:TE} (h:X.K=K) (hl:PE X l tl):PI X tg l (wH K tl):=by subst h; exact gw hl
structure CompOkC (X:Cx) (scope:Scope) (y:Str) (cl:List (Str×Addr)) (N':List Str) (ix:List Nat) (nl:Nat):Prop where
 clos:closureFor scope X.env=pure cl
 sub:∀ z c,cl.lookup z=some c→X.env.cells.lookup z=some c
 has:∀ p∈(F4 scope X.env).names,(p.2=.cell∨p.2=.free)→(((y,0)::cl).lookup p.1).isSome=true
 lay:∀ n,cellsFrom n scope.names cl=(y,n)::cl
 push:∀ h:Heap,pushCells h scope.names=h.push { cls:=.type "cell",data:=.cell none }
 kind:scope.kind=.function
 names:∀ z∈scope.names,z.2=.local→scope.names.lookup z.1=some .local
 len:N'.length=ix.length+nl
 out:∀ (i j:Nat) (x:Str),ix[i]?=some j→N'[i]?=some x→(x == y)=false∧X.N[j]?=some x∧(X.env.kindOf x=some .cell∨X.env.kindOf x=some .free)∧((F4 scope X.env).names.lookup x=some .cell∨(F4 scope X.env).names.lookup x=some .free)
def OutsOkC (X:Cx) (scope:Scope) (y:Str):List Nat→List Str→Prop
 | [],_=>True
 | j::r,x::t=>((x == y)=false∧X.N[j]?=some x∧(X.env.kindOf x=some .cell∨X.env.kindOf x=some .free)∧((F4 scope X.env).names.lookup x=some .cell∨(F4 scope X.env).names.lookup x=some .free))∧OutsOkC X scope y r t
 | _::_,[]=>False
theorem OutsOkC.at {X:Cx} {scope:Scope} {y:Str}:∀ {ix:List Nat} {N:List Str},OutsOkC X scope y ix N→∀ (i j:Nat) (x:Str),ix[i]?=some j→N[i]?=some x→(x == y)=false∧X.N[j]?=some x∧(X.env.kindOf x=some .cell∨X.env.kindOf x=some .free)∧((F4 scope X.env).names.lookup x=some .cell∨(F4 scope X.env).names.lookup x=some .free)
 | [],_,_,i,j,y,h1,_=>by simp at h1
 | _::_,[],h,_,_,_,_,_=>h.elim
 | _::_,_::_,h,0,j,y,h1,h2=>by
  simp at h1 h2
  subst h1 h2
  exact h.1
 | _::_,_::_,h,i+1,j,y,h1,h2=>OutsOkC.at h.2 i j y (by simpa using h1) (by simpa using h2)
def IsRvd (h:Heap) (a l:Addr) (i:Int):Prop:=∃ o,h.get? a=some o∧o.cls=.type "reversed"∧o.data=.fields #[.ref l,rawInt i]
section
variable {prog:Dz} {w:World} {A:Around} {E:Value→Shared→Prop} {s:Shared}
def IsRvd.at {a l:Addr} {i:Int} (x:IsRvd h a l i) (e:∀ o,h.get? a=some o→h'.get? a=some o):IsRvd h' a l i:=let ⟨o,ho,r⟩:=x; ⟨o,e _ ho,r⟩
end
def Ba (K:cy):V→List V→Hp→VK→Prop:=fun x vs H Q=>∃ (l:Addr) (y:V) (d:PyData) (ds:List PyData) (j:Nat),x=.ref l∧vs=[y]∧j<1000∧Rep K H y d∧Rep K H (.ref l) (.list ds)∧iC d∧iC (.list ds) ∧
 (∃ z,ds[j]?=some z∧Eu z d=true)∧(∀ m z,m<j→ds[m]?=some z→Eu z d=false)∧Q (.int j) H
def zh (hK:X.K=K) (hu:X.A.units+60<cLine):MtR X "list.index" (Ba K):=by
 subst hK
 intro pins s σ H x vs v us Q I rx rv h
 obtain⟨l,y,d,ds,j,rfl,rfl,hj9,hd,he,fd,fe,⟨z0,hz0,ez0⟩,hno,q⟩:=h
 cases rx
 cases rv with
 | @cons _ u1 _ _ r1 rv =>
  cases rv
  obtain⟨as,R1⟩:=hd.reads I r1
  obtain⟨bs,R2⟩:=he.reads I (show RelV (.ref l) (.ref l) from rfl)
  have dp:DO ds+1≤40:=fe.2
  have fe1:Ea ds=true:=fe.1
  cases R2 with
  | @list _ o its n _ as' e1 e2 e3 e4 =>
   have emap:=GP ds its.toList as' fe1 e4
   have at_:∀ (m:Nat) (hm:m<its.size),ds[m]?=some (G4 s.heap its[m]):=fun m hm=>by
    rw[← emap,Dq]
    simp [hm]
   have hj:j<its.size:=by
    have:=(yp.mp hz0).1
    have hl:ds.length=its.size:=by rw[← emap]; simp
    exact Oz93 this hl
   have M:=SeqAt.list_indexAt l its n o.dict o.slots u1 (fun z=>Eu (G4 s.heap z) d) j hj (by omega) (by
    have:=at_ j hj
    rw[hz0] at this
    cases this
    exact ez0) (fun m hm hlt=>hno m _ hlt (at_ m hm))
   have eo:s.heap.get? l=some { cls:=.type "list",dict:=o.dict,data:=.seq its n,slots:=o.slots }:=by
    rw[e1,← e2,← e3]
   refine Gh F.slot_list_index ⟨_,e1,e2⟩ F.entry_list_index (F.args_list_index_2 _ _) M ⟨eo,fun z hz=>?_,?_⟩
   ·obtain⟨d',as2,R3,c3,dp3⟩:=JI ds its.toList as' fe1 e4 z (by simpa using hz)
    have er:G4 s.heap z=d':=by
     have:=GP [d'] [z] _ (by show (DN d' && true)=true; rw[c3]; rfl) (.cons R3 .nil)
     simpa using this
    rw[er]
    refine SeqAt.eqAt_reads d' d _ s z u1 as2 as R3 R1 c3 fd.1 ?_
    have:=fd.2
    show X.A.units+1+min d'.depth d.depth<cLine
    exact Oz4 hu this
   ·exact⟨.int _,H,I.tok _,⟨_,rfl⟩,q⟩
section
variable {κ:Type} [DecidableEq κ]
noncomputable def valV (kvs:List (κ×V)) (k:κ):Option V:=(kvs.find? fun kv=>decide (kv.1=k)).map (·.2)
noncomputable def putK (kvs:List (κ×V)) (k:κ) (v:V):List (κ×V) :=
 if (kvs.any fun kv=>decide (kv.1=k))=true then kvs.map (fun kv=>if kv.1=k then (kv.1,v) else kv) else kvs++[(k,v)]
def gM {p:κ×V} {r:List (κ×V)} {k:κ} (e:p.1=k):valV (p::r) k=some p.2:=by simp [valV,F7,e]
def gS {p:κ×V} {r:List (κ×V)} {k:κ} (e:¬ p.1=k):valV (p::r) k=valV r k:=by simp [valV,F7,e]
theorem lI (k:κ):∀ kvs:List (κ×V),(kvs.any fun kv=>decide (kv.1=k))=(valV kvs k).isSome
 | []=>rfl
 | p::r=>by
  rw[FT]
  by_cases e:p.1=k
  ·simp only [gM e,decide_eq_true e,Bool.true_or,Option.isSome_some]
  ·rw[gS e,decide_eq_false e,Ir]; exact lI k r
theorem sy (k j:κ) (y:V):∀ kvs:List (κ×V),valV (kvs.map fun kv=>if kv.1=k then (kv.1,y) else kv) j=(valV kvs j).map fun x=>if j=k then y else x
 | []=>rfl
 | p::r=>by
  have ih:=sy k j y r
  rw[D8]
  by_cases h:p.1=k
  ·rw[if_pos h]
   by_cases e:p.1=j
   ·rw[gM (p:=(p.1,y)) e,gM e,Hy,if_pos (e.symm.trans h)]
   ·rw[gS (p:=(p.1,y)) e,gS e,ih]
  ·rw[if_neg h]
   by_cases e:p.1=j
   ·rw[gM (p:=p) e,gM e,Hy,if_neg (fun z=>h (e.trans z))]
   ·rw[gS (p:=p) e,gS e,ih]
theorem qA (k j:κ) (y:V):∀ kvs:List (κ×V),valV kvs k=none→valV (kvs++[(k,y)]) j=if j=k then some y else valV kvs j
 | [],_=>by
  by_cases e:k=j
  ·rw[if_pos e.symm]; exact gM (p:=(k,y)) e
  ·rw[if_neg (fun z=>e z.symm)]; exact gS (p:=(k,y)) e
 | p::r,hn=>by
  rw[List.cons_append]
  have hk:¬ p.1=k:=fun z=>by rw[gM z] at hn; cases hn
  rw[gS hk] at hn
  have ih:=qA k j y r hn
  by_cases e:p.1=j
  ·rw[gM e,gM e,if_neg (fun z=>hk (e.trans z))]
  ·rw[gS e,gS e,ih]
def lG (kvs:List (κ×V)) (k j:κ) (y:V):valV (putK kvs k y) j=if j=k then some y else valV kvs j:=by
 unfold putK
 by_cases a:(kvs.any fun kv=>decide (kv.1=k))=true
 ·rw[if_pos a,sy]
  rw[lI] at a
  by_cases e:j=k
  ·obtain⟨x,hx⟩:=EN.mp a
   rw[if_pos e,e,hx,Hy,if_pos rfl]
  ·rw[if_neg e]
   cases valV kvs j with
   | none=>rfl
   | some x=>rw[Hy,if_neg e]
 ·rw[if_neg a]
  refine qA k j y kvs ?_
  rw[lI] at a
  cases q:valV kvs k with
  | none=>rfl
  | some x=>rw[q] at a; exact (a rfl).elim
def ja (kvs:List (κ×V)) (k:κ) (v:V):(putK kvs k v).length≤kvs.length+1:=by
 unfold putK
 split
 ·rw[iz]; omega
 ·rw[Dp,DF,List.length_nil]; omega
def RelO.isSome_eq {o:Option V} {u:Option Value} (r:RelO o u):o.isSome=u.isSome:=by
 cases o with
 | none=>cases u with
  | none=>rfl
  | some _=>exact (show False from r).elim
 | some _=>cases u with
  | none=>exact (show False from r).elim
  | some _=>rfl
def RelO.getD {o:Option V} {u:Option Value} {d:V} {d':Value} (r:RelO o u) (rd:RelV d d'):RelV (o.getD d) (u.getD d'):=by
 cases o with
 | none=>cases u with
  | none=>exact rd
  | some _=>exact (show False from r).elim
 | some _=>cases u with
  | none=>exact (show False from r).elim
  | some _=>exact r
def KV.val {kvs:List (κ×V)} {vs:List (κ×Value)} (r:KV kvs vs) (k:κ):RelO (valV kvs k) (JO vs k):=by
 unfold KV at r
 induction r with
 | nil=>exact DY
 | @cons p q ps qs h t ih =>
  obtain⟨h1,h2⟩:=h
  by_cases e:p.1=k
  ·have e':q.1=k:=h1.symm.trans e
   have b:JO (q::qs) k=some q.2:=by simp [JO,F7,e']
   rw[gM e,b]; exact h2
  ·have e':¬ q.1=k:=fun z=>e (h1.trans z)
   have b:JO (q::qs) k=JO qs k:=by simp [JO,F7,e']
   rw[gS e,b]; exact ih
def KV.any {kvs:List (κ×V)} {vs:List (κ×Value)} (r:KV kvs vs) (k:κ):(kvs.any fun kv=>decide (kv.1=k))=vs.any fun kv=>decide (kv.1=k):=by
 unfold KV at r
 induction r with
 | nil=>rfl
 | cons h t ih=>rw[FT,FT,ih,h.1]
def KV.repl {kvs:List (κ×V)} {vs:List (κ×Value)} (r:KV kvs vs) (k:κ) {y:V} (ry:RelV y u) :
  KV (kvs.map fun kv=>if kv.1=k then (kv.1,y) else kv) (vs.map fun kv=>if kv.1=k then (kv.1,u) else kv):=by
 unfold KV at r ⊢
 induction r with
 | nil=>exact .nil
 | @cons p q ps qs h t ih =>
  rw[D8,D8]
  refine .cons ?_ ih
  obtain⟨h1,h2⟩:=h
  by_cases e:p.1=k
  ·rw[if_pos e,if_pos (h1.symm.trans e)]; exact⟨h1,ry⟩
  ·rw[if_neg e,if_neg (fun z=>e (h1.trans z))]; exact⟨h1,h2⟩
def KV.put {kvs:List (κ×V)} {vs:List (κ×Value)} (r:KV kvs vs) (k:κ) {y:V} (ry:RelV y u):KV (putK kvs k y) (stored vs k u):=by
 unfold putK stored
 rw[r.any k]
 by_cases e:(vs.any fun kv=>decide (kv.1=k))=true
 ·rw[if_pos e,if_pos e]; exact r.repl k ry
 ·rw[if_neg e,if_neg e]; exact Paired.snoc r ⟨rfl,ry⟩
def KV.length {kvs:List (κ×V)} {vs:List (κ×Value)} (r:KV kvs vs):kvs.length=vs.length:=DT r
end
def wu {P:Dz} {k:Key} (r:RelV (kV k) u):(gI P w).is k u=true:=by
 cases k with
 | inl i=>obtain⟨t,e⟩:=(show ∃ t,u=Value.int i t from r); subst e; exact tU P w i t
 | inr x=>obtain⟨t,e⟩:=(show ∃ t,u=Value.str x t from r); subst e; exact uK P w x t
theorem qo {P:Dz} {w:World}:∀ {ks:List Key} {us:List Value},Vals (ks.map kV) us→ItemsAre (gI P w) ks us
 | [],_,r=>by rw[IX] at r; cases r; exact .nil
 | k::ks,_,r=>by
  rw[D8] at r
  cases r with
  | cons h t=>exact .cons (wu h) (qo t)
abbrev KT (H:Hp):List (List Key×V)→List (List Key×Addr×Value)→Prop:=Paired fun p q=>p.1=q.1∧H q.2.1=some (.tup (p.1.map kV))∧RelV p.2 q.2.2
def KT.val {kvs:List (List Key×V)} {xs:List (List Key×Addr×Value)} (r:KT H kvs xs) (k:List Key):RelO (valV kvs k) ((atKey xs k).map (·.2)):=by
 induction r with
 | nil=>exact DY
 | @cons p q ps qs h t ih =>
  obtain⟨h1,_,h2⟩:=h
  by_cases e:p.1=k
  ·have e':q.1=k:=h1.symm.trans e
   have b:atKey (q::qs) k=some q.2:=by simp [atKey,F7,e']
   rw[gM e,b]; exact h2
  ·have e':¬ q.1=k:=fun z=>e (h1.trans z)
   have b:atKey (q::qs) k=atKey qs k:=by simp [atKey,F7,e']
   rw[gS e,b]; exact ih
def KT.repl {kvs:List (List Key×V)} {xs:List (List Key×Addr×Value)} (r:KT H kvs xs) (k:List Key) {y:V} (ry:RelV y u) :
  KT H (kvs.map fun kv=>if kv.1=k then (kv.1,y) else kv) (xs.map (putAt k u)):=by
 induction r with
 | nil=>exact .nil
 | @cons p q ps qs h t ih =>
  rw[D8,D8]
  refine .cons ?_ ih
  obtain⟨h1,h2,h3⟩:=h
  unfold putAt
  by_cases e:p.1=k
  ·rw[if_pos e,if_pos (h1.symm.trans e)]; exact⟨h1,h2,ry⟩
  ·rw[if_neg e,if_neg (fun z=>e (h1.trans z))]; exact⟨h1,h2,h3⟩
def KT.put {kvs:List (List Key×V)} {xs:List (List Key×Addr×Value)} (r:KT H kvs xs) (k:List Key) {b:Addr} {y:V} (hb:H b=some (.tup (k.map kV))) (ry:RelV y u) :
  KT H (putK kvs k y) (storedH xs k b u):=by
 have e:(kvs.any fun kv=>decide (kv.1=k))=(atKey xs k).isSome:=by
  rw[lI,(r.val k).isSome_eq,Option.isSome_map]
 unfold putK storedH
 rw[e]
 by_cases q:(atKey xs k).isSome=true
 ·rw[if_pos q,if_pos q]; exact r.repl k ry
 ·rw[if_neg q,if_neg q]; exact Paired.snoc r ⟨rfl,hb,ry⟩
def KT.keeps {kvs:List (List Key×V)} {xs:List (List Key×Addr×Value)} (r:KT H kvs xs) (ht:∀ b ys,H b=some (.tup ys)→H' b=some (.tup ys)):KT H' kvs xs :=
 Paired.mapP r fun _ _ z=>⟨z.1,ht _ _ z.2.1,z.2.2⟩
section
variable {P:Dz} {w:World} {H:Hp} {h:Heap} {a:Addr}
def Am {u:HO} (ok:HOk P w H h) (e:Rd H a u):ObjOk P w H h a u:=e.ok ok
def xr {kvs:List (Key×V)} (ok:HOk P w H h) (e:Rd H a (.dK kvs)):kvs.length≤sizeLine∧(a == Gc)=false∧∃ vs,KV kvs vs∧h.DictOf (gI P w) a vs :=
 show ObjOk P w H h a (.dK kvs) from Am ok e
def C6 {kvs:List (Key×V)} (ok:HOk P w H h) (e:H a=some (.dK kvs)):kvs.length≤sizeLine∧(a == Gc)=false∧∃ vs,KV kvs vs∧h.DictOf (gI P w) a vs:=xr ok (.inl e)
def oH {ks:List Key} (ok:HOk P w H h) (e:H a=some (.tup (ks.map kV))):(IQ (gI P w)).is h ks a:=by
 obtain⟨_,its,r,⟨o,h1,h2,n,h3⟩,_⟩:=(show ObjOk P w H h a (.tup (ks.map kV)) from ok a _ e)
 exact⟨o,its.toArray,n,h1,h2,h3,by simpa using qo r⟩
def w4 {kvs:List (List Key×V)} (ok:HOk P w H h) (e:Rd H a (.dT kvs)):kvs.length≤sizeLine∧(a == Gc)=false ∧
  ∃ xs,KT H kvs xs∧h.DictOfH (IQ (gI P w)) a xs:=by
 obtain⟨z,y,xs,r,o,es,ep,h1,h2,h3,h4,h5⟩:=(show ObjOk P w H h a (.dT kvs) from Am ok e)
 refine⟨z,y,xs,r,o,es,ep,h1,h2,h3,h4,fun x hx=>?_,h5⟩
 have all:∀ {l:List (List Key×V)} {m:List (List Key×Addr×Value)},KT H l m→∀ x∈m,(IQ (gI P w)).is h x.1 x.2.1:=by
  intro l m q
  induction q with
  | nil=>intro x hx; exact nomatch hx
  | @cons p q ps qs hq t ih =>
   intro x hx
   rcases Du.mp hx with e | hx
   ·subst e
    exact oH ok (by rw[← hq.1]; exact hq.2.1)
   ·exact ih x hx
 exact all r x hx
def Ar {kvs:List (List Key×V)} (ok:HOk P w H h) (e:H a=some (.dT kvs)):kvs.length≤sizeLine∧(a == Gc)=false ∧
  ∃ xs,KT H kvs xs∧h.DictOfH (IQ (gI P w)) a xs:=w4 ok (.inl e)
end
def DGet (H:Hp) (a:Addr) (y:V) (r:Option V):Prop :=
 (∃ kvs k,Rd H a (.dK kvs)∧y=kV k∧r=valV kvs k)∨∃ kvs k b,Rd H a (.dT kvs)∧y=.ref b∧H b=some (.tup (k.map kV))∧r=valV kvs k
def DPut (H:Hp) (a:Addr) (y v:V) (H':Hp):Prop :=
 (∃ kvs k,H a=some (.dK kvs)∧y=kV k∧kvs.length<sizeLine∧H'=upd H a (.dK (putK kvs k v))) ∨
 ∃ kvs k b,H a=some (.dT kvs)∧y=.ref b∧H b=some (.tup (k.map kV))∧kvs.length<sizeLine∧H'=upd H a (.dT (putK kvs k v))
theorem DGet.k {H:Hp} {a:Addr} {kvs:List (Key×V)} {k:Key} (e:H a=some (.dK kvs)):DGet H a (kV k) (valV kvs k):=.inl ⟨kvs,k,.inl e,rfl,rfl⟩
def DGet.t {a b:Addr} {kvs:List (List Key×V)} {k:List Key} (e:H a=some (.dT kvs)) (eb:H b=some (.tup (k.map kV))):DGet H a (.ref b) (valV kvs k):=.inr ⟨kvs,k,b,.inl e,rfl,eb,rfl⟩
theorem DPut.k {H:Hp} {a:Addr} {kvs:List (Key×V)} {k:Key} {v:V} (e:H a=some (.dK kvs)) (hl:kvs.length<sizeLine):DPut H a (kV k) v (upd H a (.dK (putK kvs k v))):=.inl ⟨kvs,k,e,rfl,hl,rfl⟩
def DPut.t {a b:Addr} {kvs:List (List Key×V)} {k:List Key} (e:H a=some (.dT kvs)) (eb:H b=some (.tup (k.map kV))) (hl:kvs.length<sizeLine) :
  DPut H a (.ref b) v (upd H a (.dT (putK kvs k v))):=.inr ⟨kvs,k,b,e,rfl,eb,hl,rfl⟩
section
variable {X:Cx} {pins:List (Addr×Obj)} {σ:St} {H:Hp} {s:Shared} {a:Addr} {y v:V} {u r:Value} {o:Option V} {A:Around} {E:Value→Shared→Prop}
def Inv.big (I:Inv X pins σ H s):Gc<s.heap.objs.size:=by
 have h:DR<s.heap.objs.size:=(I.mod.glob.keeps I.bk).lt
 exact Nat.lt_trans (by decide) h
def xT {Q:Value→Shared→Prop} (hu:A.units+1<cLine) (I:Inv X pins σ H s) (g:DGet H a y (some v)) (ry:RelV y u) (h:∀ w' s',Inv X pins σ H s'→RelV v w'→Q w' s') :
  wpAny (model X.prog X.w) A (Ip (.ref a) u) Q E s:=by
 rcases g with ⟨kvs,k,e,ey,l⟩ | ⟨kvs,k,b,e,ey,eb,l⟩
 ·subst ey
  obtain⟨z,hd,vs,rel,dd⟩:=xr I.hok e
  obtain⟨w',hw,rw'⟩:=RelO.some_of (v:=v) (o:=JO vs k) (by rw[l]; exact rel.val k)
  exact wpAny_getItem_of (wu ry) dd.mapOf hw (h w' _ (I.tok _) rw')
 ·subst ey
  cases (show u=Value.ref b from ry)
  obtain⟨z,hd,xs,rel,dd⟩:=w4 I.hok e
  obtain⟨w',hw,rw'⟩:=RelO.some_of (v:=v) (o:=(atKey xs k).map (·.2)) (by rw[l]; exact rel.val k)
  obtain⟨p,hp,hp2⟩:=EB.mp hw
  refine wpAny_getItem_heap (tupleKind_room_in1 hu) (oH I.hok eb) dd hp ?_
  rw[hp2]
  exact h w' _ (I.tok _) rw'
def o9 {ob:HO} (I:Inv X pins σ H s) (mu:Mut (H a)) (hs:Gy a s.heap h') (he:∃ q,h'.get? a=some q) (new:ObjOk X.prog X.w (upd H a ob) h' a ob) :
  Inv X pins σ (upd H a ob) { s with heap:=h',toks:=t' } :=
 I.write (x:=a) (e:=a) mu (.inl rfl) (fun b q hb z=>(hs.2 b hb).trans z) he new
def BE {P:Dz} {kvs:List (Key×V)} {vs:List (Key×Value)} (z:kvs.length≤sizeLine) (hd:(a == Gc)=false) (rel:KV kvs vs) (dd:h'.DictOf (gI P w) a vs) :
  ObjOk P w H' h' a (.dK kvs):=⟨z,hd,vs,rel,dd⟩
def yT {Q:Unit→Shared→Prop} (hu:A.units+1<cLine) (I:Inv X pins σ H s) (g:DPut H a y v H') (ry:RelV y u) (rv:RelV v r) (h:∀ s',Inv X pins σ H' s'→Q () s') :
  wpAny (model X.prog X.w) A (setItem (.ref a) u r) Q E s:=by
 rcases g with ⟨kvs,k,e,ey,l,eH⟩ | ⟨kvs,k,b,e,ey,eb,l,eH⟩
 ·subst ey eH
  obtain⟨z,hd,vs,rel,dd⟩:=C6 I.hok e
  have hz:vs.length≤sizeLine:=by rw[← rel.length]; exact z
  have hl:(putK kvs k v).length≤sizeLine:=by have:=ja kvs k v; exact Oz84 l this
  refine wpAny_setItem_pairs (hsz:=hz) (wu ry) dd fun h' dd' hs=>h _ ?_
  have he:∃ q,h'.get? a=some q:=let ⟨q,_,_,hq,_⟩:=dd'; ⟨q,hq⟩
  exact o9 I (by rw[e]; exact DY) hs he (BE hl hd (rel.put k rv) dd')
 ·subst ey eH
  cases (show u=Value.ref b from ry)
  obtain⟨z,hd,xs,rel,dd⟩:=Ar I.hok e
  have hz:xs.length≤sizeLine:=by rw[← DT rel]; exact z
  have hl:(putK kvs k v).length≤sizeLine:=by have:=ja kvs k v; exact Oz84 l this
  refine wpAny_setItem_heap (hsz:=hz) (tupleKind_room_in1 hu) (oH I.hok eb) dd fun h' dd' hs=>h _ ?_
  obtain⟨q,es,ep,hq,h2,h3,h4,_,h5⟩:=dd'
  refine o9 I (by rw[e]; exact DY) hs ⟨q,hq⟩ ⟨hl,hd,_,(rel.put k eb rv).keeps fun c ys ec=>?_,q,es,ep,hq,h2,h3,h4,h5⟩
  rw[aZ (qW ec e (fun z=>nomatch z))]
  exact ec
end
def Cd (i:Expr):Prop:=∀ ov iv,Jw i false ov iv=operate [ov,iv] (Ip ov iv)
def A9 {value slice:Expr} {T id:String} {Q:Value→Shared→Prop}
  (hl:typeLookup (.type T) "__getitem__"=pure (some (.builtin id))) (hs:Cd slice)
  (h:wpAny (model prog w) A (eval value env) (fun o s₁=>wpAny (model prog w) A (eval slice env) (fun i s₂=>s₂.TypeIs o T∧wpAny (model prog w) A (Ip o i) Q E s₂) E s₁) E s) :
  wpAny (model prog w) A (eval (.Subscript value slice pos) env) Q E s:=by
 refine JM (Eo h (fun o s₁ h₁=>Eo h₁ (fun i s₂ h₂=>?_) fun _ _ x=>x) fun _ _ x=>x)
 obtain⟨hT,h₂⟩:=h₂
 unfold subscriptTail
 refine wo ?_
 rw[getitemInPython_of_ne hT.not_modules]
 refine wo (wpAny_specialOf hT hl ?_)
 have fin:wpAny (model prog w) A (Jw slice false o i) (fun r s₃=>wpAny (model prog w) A (letTemporaryGo value o r >>= fun _=>pure r) Q E s₃) E s₂:=by
  rw[hs o i]
  exact wpAny_operating (Eo h₂ (fun r s₃ h₃=>wo (wpAny_letTemporaryGo (Do h₃))) fun _ _ x=>x)
 first
  | exact Do (wo fin)
  | exact wo (Do (wo fin))
  | exact wo fin
def um {a:Addr} {y:V} {o:Option V} (I:Inv X pins σ H s) (g:DGet H a y o):s.TypeIs (.ref a) "dict":=by
 rcases g with ⟨kvs,k,e,_,_⟩ | ⟨kvs,k,b,e,_,_,_⟩
 ·obtain⟨_,_,vs,_,dd⟩:=xr I.hok e
  exact dd.typeIs
 ·obtain⟨_,_,xs,_,dd⟩:=w4 I.hok e
  exact dd.typeIs
def Aw (td ty:TE):TE:=fun σ H Q=>td σ H fun x H1=>ty σ H1 fun y H2=>∃ a v,x=.ref a∧DGet H2 a y (some v)∧Q v H2
def Av (td ty tv:TE):TS:=fun D σ H=>tv σ H fun v H1=>td σ H1 fun x H2=>ty σ H2 fun y H3=>∃ a H4,x=.ref a∧DPut H3 a y v H4∧D.nx σ H4
section
variable {X:Cx} {o i e value:Expr} {pos pos' tpos:Pos} {td ty tv:TE}
def Bo (hu:X.A.units+1<cLine) (ho:PE X o td) (hi:PE X i ty) (hs:Cd i):PE X (.Subscript o i pos) (Aw td ty):=by
 intro pins s σ H Q I h
 refine A9 PySem.F.slot_dict_getitem.lookup hs (thn (ho pins s σ H _ I h) fun u s1 ⟨x,H1,I1,rx,q1⟩=>thn (hi pins s1 σ H1 _ I1 q1) fun iv s2 ⟨y,H2,I2,ry,a,v,ex,g,q2⟩=>?_)
 subst ex
 obtain rfl:u=Value.ref a:=rx
 exact⟨um I2 g,xT hu I2 g ry fun w' s3 I3 rw'=>⟨v,H2,I3,rw',q2⟩⟩
def pR (hu:X.A.units+1<cLine) (ho:PE X o td) (hi:PE X i ty) (hv:PE X value tv) (hs:Ia value (some (.Subscript o i pos')) pos.line X.env=pure false) :
  PS X (.Assign [.Subscript o i pos'] value pos) (Av td ty tv):=by
 intro pins s σ H D I h
 refine wpAny_Assign_Subscript (thn (hv pins s σ H _ I h) fun r s1 ⟨v,H1,I1,rv,q1⟩=>thn (ho pins s1 σ H1 _ I1 q1) fun u s2 ⟨x,H2,I2,rx,q2⟩=>thn (hi pins s2 σ H2 _ I2 q2) fun iv s3 ⟨y,H3,I3,ry,a,H4,ex,g,q3⟩=>?_) hs
 subst ex
 obtain rfl:u=Value.ref a:=rx
 exact yT hu I3 g ry rv fun s4 I4=>⟨σ,H4,I4,q3⟩
end
def tw {P:Dz} (h:Heap) (hb:Gc<h.objs.size):ObjOk P w H (h.push { cls:=.type "dict",data:=.dict #[] }) h.objs.size (.dT []) :=
 ⟨Nat.zero_le _,beq_eq_false_iff_ne.mpr (E6 (Nat.ne_of_lt hb)),[],.nil,_,#[],0,Dr _ rfl,⟨rfl,rfl,rfl⟩,rfl,rfl,List.nodup_nil⟩
def yE:TE:=fun _ H Q=>∀ p,H p=none→Q (.ref p) (upd H p (.dT []))
section
variable {X:Cx} {pos:Pos}
def rS:PE X (.Dict [] [] pos) yE:=fun pins s σ H Q I h =>
 wpAny_Dict_empty ⟨.ref s.heap.objs.size,_,I.laid (a:=s.heap.objs.size) (o:=.dT []) (t':=s.toks) (fun _ _ q=>Dl _ q) (Nat.le_refl _) (tw s.heap I.big),rfl,h _ (I.hok.fresh (Nat.le_refl _))⟩
end
structure M1 (X:Cx) (o:Expr) (m:Str) (apos:Pos) (e:Expr) (cpos:Pos):Prop where
 base:Gf o m X.env (eval o X.env)=eval o X.env
 few:((backTo cpos (DK [e] X.env)).all (fun x=>!x.1) && (backToKw cpos (Iq [] X.env)).all (fun x=>x.1.isSome)
  && decide (([e]:List Expr).length+([]:List IT).length+(if ([]:List IT).isEmpty then 0 else 1)<30))=true
 line:(apos.endLine == cpos.line)=true
 trees:backTo cpos (DK [e] X.env)=[(false,eval e X.env)]
structure M2 (X:Cx) (o:Expr) (m:Str) (apos:Pos) (e f:Expr) (cpos:Pos):Prop where
 base:Gf o m X.env (eval o X.env)=eval o X.env
 few:((backTo cpos (DK [e,f] X.env)).all (fun x=>!x.1) && (backToKw cpos (Iq [] X.env)).all (fun x=>x.1.isSome)
  && decide (([e,f]:List Expr).length+([]:List IT).length+(if ([]:List IT).isEmpty then 0 else 1)<30))=true
 line:(apos.endLine == cpos.line)=true
 trees:backTo cpos (DK [e,f] X.env)=[(false,eval e X.env),(false,eval f X.env)]
def KEnt (P:Params):List DictEntry→List (Str×V)→Prop
 | [],[]=>True
 | e::es,kv::r=>(∃ t,e.key=.str kv.1 t)∧e.hash=PyData.keyHash P kv.1∧RelV kv.2 e.val∧KEnt P es r
 | _,_=>False
structure KDct (P:Params) (K:cy) (a:Addr) (kvs:List (Str×V)):Prop where
 sm:(a == Gc)=false
 nd:(kvs.map (·.1)).Nodup
 ob:∃ es ep,K.lookup a=some ⟨.type "dict",none,.dict es ep,#[]⟩∧KEnt P es.toList kvs
end _l
namespace PySem
open Sem (wp)
namespace _dictl
def jY:plainId "dict.update.loop"=true:=by decide +kernel
def lR:entryFor table "dict.update.loop"=some Gx.«dict.update.loop»:=entryFor_of_tree (by kernel_rfl)
end _dictl
end PySem
namespace PySem
open Sem (wp)
open PyProof.Rows
namespace _sortd
section
variable {prog:Dz} {w:World} {A:Around} {E:Value→Shared→Prop} {s:Shared} {K:Type} [DecidableEq K] {knd:KeyKind prog w K}
def check_sorted {x:Value} {Q:Unit→Shared→Prop} (h:Q () s):wpAny M A (Fb "sorted" ⟨[x],[]⟩) Q E s:=by
 unfold Fb
 rw[kind_sorted]
 exact wpAny_of_eq (args_sorted1 x) h
end
end _sortd
end PySem
namespace _l
open PySem PySem.Spec PyProof.Rows
open PySem.Builtin PySem.Builtin.ObjectAttr PySem.Builtin.Getset_descriptor
open PySem.W (Frag Looks InstAt looks_findIn looks_specialIn looks_takesIn looks_mroIn looks_subIn looks_typeIn looks_clsIn)
noncomputable def yW:List Value→Bool
 | .ref _::r=>yW r
 | l=>l == bmVE
noncomputable def xOver (K:Frag) (C:Addr):Bool:=(Gi K C).any fun cd=>yW cd.mro && cd.hasDict
structure XFld (K:Frag) (C:Addr):Prop where
 sa:DG K (.ref C) "__setattr__"=some (some (.builtin "object.__setattr__"))
 ov:xOver K C=true
 xc:XCls K C
end _l
namespace _l
open PySem PySem.Spec PyProof.Rows
open PySem.W (Frag Looks InstAt looks_findIn looks_specialIn looks_takesIn looks_mroIn looks_subIn looks_typeIn looks_clsIn tailIn nsOkIn nsIn)
noncomputable def excInI (K:Frag) (C fI:Addr):Bool:=match K.lookup C with
 | some ⟨.type "type",_,.cls cd,sl⟩=>(match cd.mro,sl.toList with
  | .ref C'::bm,[_,_,_,_,some (.builtin n),_]=>C' == C && n == "ValueError.__new__" && !cd.hasDel && tailIn K bmVE bm && nsOkIn K cd.ns && nsIn K cd.ns "__init__" == some (some (.ref fI))
  | _,_=>false)
 | _=>false
end _l
namespace _l
open PySem PySem.Spec PyProof.Rows
open PySem.W (Frag)
def loose:HO→Prop
 | .ext _=>True
 | .xd _=>True
 | _=>False
structure XUp (K:Frag) (mg:Str→Option Value) (x:Str) (T:Addr):Prop where
 at_:mg x=some (.ref T)
 ga:EY K (.ref T) "__getattribute__"=some (some (.builtin "type.__getattribute__"))
 rd:PySem.W.readsIn K T (.type "type")=true
 fi:PySem.W.findCls K (.ref T) (.type "type") "__init__"=some (.val (.builtin "ValueError.__init__"))
end _l
namespace _l
open PySem PySem.Spec PyProof.Rows
open PySem.W (Frag)
structure XMk (P:Dz) (w:World) (K:Frag) (mg:Str→Option Value) (base:Heap) (x:Str) (C:Addr) (k:Nat) (ps:List Str) (sp:Sp):Prop where
 ex:∃ f fd,excInI K C f=true∧HP K (.ref f)=true∧FnOk P w K mg base CX0 k f fd ps sp∧Binds K fd ps []
 at_:mg x=some (.ref C)
 kp:Es K (.ref C)=true
end _l
namespace _l
open PySem PySem.Spec PyProof.Rows
open PySem.W (Frag envX kla_fn kla_obj)
structure LamSc (sc:Scope) (x y:Str):Prop where
 kind:sc.kind=.function
 co:sc.isCoroutine=false
 gen:sc.isGenerator=false
 own:sc.names.lookup x=some .local
 free:sc.names.lookup y=some .free
 nocell:∀ z∈sc.names,z.2≠.cell
 only:∀ z∈sc.names,z.2=.free→z.1=y
def CU (c:Addr) (qual:Str):HO:=.ext (fun h=>h.CodeRec (.ref c) qual)
def LamTab (H:Hp) (P:Addr) (pos:Pos) (qual:Str):Prop:=H P=some (.tbl #[])∨∃ c,H P=some (.tbl #[rawInt pos.line,rawInt pos.col,.ref c])∧H c=some (CU c qual)
end _l
namespace _l
open PySem PySem.Spec PyProof.Rows
open PySem.W (Frag envX kla_fn kla_obj)
def KpT (H H':Hp):Prop:=∀ b u,H b=some u→(∀ ps,u≠.tbl ps)→H' b=some u
def KpT.tup {K:Frag} {H H':Hp} {a:Addr} {xs:List V} (e:KpT H H') (h:SqT K H a xs):SqT K H' a xs:=by
 rcases h with (h | ⟨o,h⟩) | h
 ·exact .inl (.inl (e _ _ h fun _ z=>by cases z))
 ·exact .inl (.inr ⟨o,e _ _ h fun _ z=>by cases z⟩)
 ·exact .inr h
theorem KpT.none {H H':Hp} {b:Addr} (e:KpT H H') (n:H' b=none):H b=none∨∃ ps,H b=some (.tbl ps):=by
 cases q:H b with
 | none=>exact .inl rfl
 | some u =>
  by_cases z:∃ ps,u=.tbl ps
  ·obtain⟨ps,rfl⟩:=z
   exact .inr ⟨ps,rfl⟩
  ·rw[e b u q fun ps w=>z ⟨ps,w⟩] at n
   cases n
def LamTab.tbl {P:Addr} (h:LamTab H P pos qual):∃ ps,H P=some (.tbl ps):=by
 rcases h with z | ⟨c',z,_⟩
 ·exact⟨_,z⟩
 ·exact⟨_,z⟩
def LamTab.upd {H:Hp} {P l:Addr} {pos:Pos} {qual:Str} {xs:List V} {o:HO} (h:LamTab H P pos qual) (hl:H l=some (.lst xs)):LamTab (upd H l o) P pos qual:=by
 rcases h with z | ⟨c',z,zc⟩
 ·exact .inl (by rw[aZ (fun e=>by rw[e,hl] at z; cases z)]; exact z)
 ·exact .inr ⟨c',by rw[aZ (fun e=>by rw[e,hl] at z; cases z)]; exact z,by rw[aZ (fun e=>by rw[e,hl] at zc; cases zc)]; exact zc⟩
end _l
namespace _l
open PySem PySem.Spec PyProof.Rows
theorem KV.at {κ:Type}:∀ {kvs:List (κ×V)} {vs:List (κ×Value)},KV kvs vs→∀ {i:Nat} {k:κ} {v:Value},vs[i]?=some (k,v)→∃ x,kvs[i]?=some (k,x)∧RelV x v
 | _,_,.nil,_,_,_,h=>by simp at h
 | _,_,.cons (a:=p) r t,0,k,v,h=>by
  simp at h
  subst h
  have e:p.1=k:=r.1
  exact⟨p.2,by rw[← e]; rfl,r.2⟩
 | _,_,.cons r t,i+1,k,v,h=>KV.at t (by simpa using h)
def KV.len {κ:Type}:∀ {kvs:List (κ×V)} {vs:List (κ×Value)},KV kvs vs→kvs.length=vs.length
 | _,_,.nil=>rfl
 | _,_,.cons _ t=>congrArg Nat.succ (KV.len t)
end _l
namespace _srt
open PySem PyProof.Rows
structure MS where
 q:List Nat
 pd:List (Nat×Nat×Nat)
 g:Nat
structure SX where
 prog:Dz
 w:World
 A:Around
 E:Value→Shared→Prop
 s:Shared
 κ:SortKind
 item:Nat→Keyed
 cmp:Nat→Nat→Bool
 n:Nat
 lt:∀ (i j:Nat),i<n→j<n→∀ (Q:Bool→Shared→Prop) (E':Value→Shared→Prop),Q (cmp i j) s→wpAny (model prog w) A (keyLt' κ (item i).1 (item j).1) Q E' s
noncomputable def SX.arr (X:SX) (q:List Nat):Array Keyed:=(q.map X.item).toArray
noncomputable def SX.emb (X:SX) (m:MS):SortSt:=EZ X.κ (X.arr m.q) m.pd.toArray m.g none
structure FM (X:SX) {α β:Type} (c:StateT SortSt Sem α) (r:β→α) where
 p:MS→Option (β×MS)
 h:∀ m b m',p m=some (b,m')→∀ Q:α→SortSt→Prop,Q (r b) (X.emb m')→wpS (model X.prog X.w) X.A X.E X.s c Q (X.emb m)
section
variable {X:SX} {α β γ δ:Type}
noncomputable def FM.pure {r:β→α} {a:α} (b:β) (e:a=r b):FM X (Hz a) r where
 p m:=some (b,m)
 h m b' m' hp Q hq:=by
  obtain⟨rfl,rfl⟩:=Fc (DP hp)
  exact EU (e ▸ hq)
noncomputable def FM.bind {c:StateT SortSt Sem α} {k:α→StateT SortSt Sem γ} {r:β→α} {r':δ→γ} (x:FM X c r) (f:∀ b,FM X (k (r b)) r'):FM X (c >>= k) r' where
 p m:=match x.p m with
  | none=>none
  | some (b,m')=>(f b).p m'
 h m b m' hp Q hq:=by
  revert hp
  cases hx:x.p m with
  | none=>exact fun hp=>nomatch hp
  | some y =>
   obtain⟨b1,m1⟩:=y
   exact fun hp=>Ew (x.h m b1 m1 hx _ ((f b1).h m1 b m' hp Q hq))
noncomputable def FM.no {c:StateT SortSt Sem α} {r:β→α}:FM X c r where
 p _:=none
 h _ _ _ hp:=nomatch hp
noncomputable def FM.cast {c c':StateT SortSt Sem α} {r:β→α} (e:c=c') (x:FM X c' r):FM X c r where
 p:=x.p
 h:=by subst e; exact x.h
noncomputable def FM.get:FM X (MonadState.get:StateT SortSt Sem SortSt) X.emb where
 p m:=some (m,m)
 h m b m' hp Q hq:=by
  obtain⟨rfl,rfl⟩:=Fc (DP hp)
  exact JB hq
noncomputable def FM.mod {f:SortSt→SortSt} (f':MS→MS) (e:∀ m,f (X.emb m)=X.emb (f' m)):FM X (_root_.modify f:StateT SortSt Sem PUnit) (id:PUnit→PUnit) where
 p m:=some (⟨⟩,f' m)
 h m b m' hp Q hq:=by
  obtain⟨rfl,rfl⟩:=Fc (DP hp)
  exact JP (by rw[e]; exact hq)
noncomputable def FM.put {st:SortSt} (m0:MS) (e:st=X.emb m0):FM X (MonadStateOf.set st:StateT SortSt Sem PUnit) (id:PUnit→PUnit) where
 p m:=some (⟨⟩,m0)
 h m b m' hp Q hq:=by
  obtain⟨rfl,rfl⟩:=Fc (DP hp)
  subst e
  exact Do ⟨rfl,hq⟩
noncomputable def FM.rule {t:String}:FM X (liftM (PySem.rule t):StateT SortSt Sem Unit) (id:Unit→Unit) where
 p m:=some (⟨⟩,m)
 h m b m' hp Q hq:=by
  obtain⟨rfl,rfl⟩:=Fc (DP hp)
  exact wpS_lift (Ig ⟨rfl,hq⟩)
noncomputable def FM.ite {c:Prop} [d:Decidable c] {a b:StateT SortSt Sem α} {r:β→α} (x:FM X a r) (y:FM X b r):FM X (if c then a else b) r where
 p m:=if c then x.p m else y.p m
 h m b m' hp Q hq:=by
  by_cases hc:c
  ·rw[if_pos hc] at hp ⊢; exact x.h m _ m' hp Q hq
  ·rw[if_neg hc] at hp ⊢; exact y.h m _ m' hp Q hq
noncomputable def jZ (r:β→α):ForInStep β→ForInStep α
 | .done b=>.done (r b)
 | .yield b=>.yield (r b)
noncomputable def FM.loopP {r:β→α} {f:Nat→α→StateT SortSt Sem (ForInStep α)} (F:∀ i b,FM X (f i (r b)) (jZ r)):List Nat→β→MS→Option (β×MS)
 | [],b,m=>some (b,m)
 | i::l,b,m=>match (F i b).p m with
  | none=>none
  | some (.done b',m')=>some (b',m')
  | some (.yield b',m')=>FM.loopP F l b' m'
def FM.loopH {r:β→α} {f:Nat→α→StateT SortSt Sem (ForInStep α)} (F:∀ i b,FM X (f i (r b)) (jZ r)):∀ (l:List Nat) (b:β) (m:MS) (b':β) (m':MS),FM.loopP F l b m=some (b',m')→∀ Q:α→SortSt→Prop,Q (r b') (X.emb m')→wpS (model X.prog X.w) X.A X.E X.s (forIn l (r b) f) Q (X.emb m)
 | [],b,m,b',m',hp,Q,hq=>by
  obtain⟨rfl,rfl⟩:=Fc (DP hp)
  rw[Jr]; exact EU hq
 | i::l,b,m,b',m',hp,Q,hq=>by
  rw[Hv]
  unfold FM.loopP at hp
  cases hx:(F i b).p m with
  | none=>rw[hx] at hp; exact nomatch hp
  | some y =>
   obtain⟨z,m1⟩:=y
   rw[hx] at hp
   refine Ew ((F i b).h m z m1 hx _ ?_)
   cases z with
   | done b1 =>
    obtain⟨rfl,rfl⟩:=Fc (DP hp)
    exact EU hq
   | yield b1=>exact FM.loopH F l b1 m1 b' m' hp Q hq
noncomputable def FM.range {r:β→α} {a e:Nat} {a0:α} {f:Nat→α→StateT SortSt Sem (ForInStep α)} (b0:β) (e0:a0=r b0) (F:∀ i b,FM X (f i (r b)) (jZ r)):FM X (forIn [a:e] a0 f) r where
 p m:=FM.loopP F (List.range' a (e-a)) b0 m
 h m b m' hp Q hq:=by
  subst e0
  rw[Std.Legacy.Range.forIn_eq_forIn_range']
  have hsz:([a:e]:J3).size=e-a:=by simp [Std.Legacy.Range.size]
  show wpS (model X.prog X.w) X.A X.E X.s (forIn (List.range' a ([a:e]:J3).size 1) (r b0) f) Q (X.emb m)
  rw[hsz]
  exact FM.loopH F _ b0 m b m' hp Q hq
noncomputable def FM.elem (q:List Nat) (i:Nat):FM X (elem' (X.arr q) i) X.item where
 p m:=match q[i]? with
  | none=>none
  | some k=>some (k,m)
 h m b m' hp Q hq:=by
  cases hx:q[i]? with
  | none=>rw[hx] at hp; exact nomatch hp
  | some k =>
   rw[hx] at hp
   obtain⟨rfl,rfl⟩:=Fc (DP hp)
   rw[elem'_eq,show (X.arr q)[i]?=some (X.item k) by unfold SX.arr; rw[List.getElem?_toArray,Dq,hx]; rfl]
   exact EU hq
noncomputable def FM.lt (i j:Nat):FM X (lt' (X.item i) (X.item j)) (some:Bool→Option Bool) where
 p m:=if i<X.n∧j<X.n then some (X.cmp i j,m) else none
 h m b m' hp Q hq:=by
  by_cases hn:i<X.n∧j<X.n
  ·rw[if_pos hn] at hp
   obtain⟨rfl,rfl⟩:=Fc (DP hp)
   rw[lt'_eq]
   refine Ew (JB ?_)
   refine Ew (wpS_lift (GM ?_))
   refine X.lt i j hn.1 hn.2 _ _ ?_
   exact⟨rfl,EU hq⟩
  ·rw[if_neg hn] at hp; exact nomatch hp
noncomputable def FM.ltAt (i j:Nat):FM X (ltAt' i j) (some:Bool→Option Bool) :=
 FM.bind FM.get fun m=>FM.bind (FM.elem m.q i) fun a=>FM.bind (FM.elem m.q j) fun b=>FM.lt a b
noncomputable def gallop':Bool→Keyed→Array Keyed→Nat→Nat→Nat→StateT SortSt Sem (Option Nat):=sortPriv% PySem.Builtin.gallop
noncomputable def mergeLo':Array Keyed→Array Keyed→StateT SortSt Sem (Array Keyed):=sortPriv% PySem.Builtin.mergeLo
noncomputable def mergeHi':Array Keyed→Array Keyed→StateT SortSt Sem (Array Keyed):=sortPriv% PySem.Builtin.mergeHi
noncomputable def FM.beyond (left:Bool) (k:Nat) (q:List Nat) (base i:Nat):FM X (elem' (X.arr q) (base+i) >>= fun x=>if left=true then lt' x (X.item k) else lt' (X.item k) x >>= fun o=>Hz (Option.map (fun x=>!x) o)) (some:Bool→Option Bool) :=
 FM.bind (FM.elem q (base+i)) fun x=>FM.ite (FM.lt x k) (FM.bind (FM.lt k x) fun b=>FM.pure (!b) rfl)
noncomputable def FM.gallop (left:Bool) (k:Nat) (q:List Nat) (base n hint:Nat):FM X (gallop' left (X.item k) (X.arr q) base n hint) (some:Nat→Option Nat):=by
 refine FM.bind (FM.beyond left k q base hint) fun right=>?_
 refine FM.ite ?_ ?_
 all_goals
  refine FM.bind (r:=fun b:Nat×Nat=>((none:Option (Option Nat)),b.1,b.2)) (FM.range (0,1) rfl fun i b=>?_) fun b=>?_
  ·refine FM.ite (FM.pure (.done b) rfl) (FM.bind (FM.beyond left k q base _) fun more=>?_)
   exact FM.ite (FM.pure (.done b) rfl) (FM.pure (.yield (b.2,2 * b.2+1)) rfl)
  ·refine FM.bind (r:=fun b:Nat×Nat=>((none:Option (Option Nat)),b.1,b.2)) (FM.range (_,_) rfl fun i c=>?_) fun c=>FM.pure c.2 rfl
   refine FM.ite (FM.pure (.done c) rfl) (FM.bind (FM.beyond left k q base _) fun more=>?_)
   exact FM.ite (FM.pure (.yield (c.1+(c.2-c.1) / 2+1,c.2)) rfl) (FM.pure (.yield (c.1,c.1+(c.2-c.1) / 2)) rfl)
def Ad (q:List Nat) (k:Nat):(X.arr q).push (X.item k)=X.arr (q++[k]):=by
 unfold SX.arr; rw[List.push_toArray,DH]; rfl
def Bm (p q:List Nat):X.arr p++X.arr q=X.arr (p++q):=by
 unfold SX.arr; rw[List.append_toArray,DH]
def k6 (q:List Nat) (i j:Nat):(X.arr q).extract i j=X.arr ((q.drop i).take (j-i)):=by
 unfold SX.arr; rw[List.extract_toArray,List.extract_eq_take_drop,Fx,Iu]
def AY (q:List Nat):(X.arr q).reverse=X.arr q.reverse:=by
 unfold SX.arr; rw[List.reverse_toArray,List.map_reverse]
noncomputable def setG':Nat→StateT SortSt Sem Unit:=sortPriv% PySem.Builtin.setMinGallop
noncomputable def FM.setG (g:Nat):FM X (setG' g) (id:Unit→Unit):=FM.mod (fun m=>{ m with g:=g }) fun _=>rfl
noncomputable abbrev Lr (X:SX) {ρ:Type} (b:Option (List Nat)×List Nat×ρ):Option (Array Keyed)×Array Keyed×ρ:=(b.1.map X.arr,X.arr b.2.1,b.2.2)
noncomputable def FM.doneS {ρ:Type} {a o:Array Keyed} {c:ρ} (q l:List Nat) (e:a=X.arr q) (e':o=X.arr l):FM X (Hz (ForInStep.done (some a,o,c))) (jZ (Lr X)):=FM.pure (.done (some q,l,c)) (by subst e e'; rfl)
noncomputable def FM.doneN {ρ:Type} {o:Array Keyed} {c:ρ} (l:List Nat) (e':o=X.arr l):FM X (Hz (ForInStep.done ((none:Option (Array Keyed)),o,c))) (jZ (Lr X)):=FM.pure (.done (none,l,c)) (by subst e'; rfl)
noncomputable def FM.yieldN {ρ:Type} {o:Array Keyed} {c:ρ} (l:List Nat) (e':o=X.arr l):FM X (Hz (ForInStep.yield ((none:Option (Array Keyed)),o,c))) (jZ (Lr X)):=FM.pure (.yield (none,l,c)) (by subst e'; rfl)
noncomputable abbrev Hr (X:SX) {ρ:Type} (b:Option (List Nat)×Nat×Nat×List Nat×ρ):Option (Array Keyed)×Nat×Nat×Array Keyed×ρ:=(b.1.map X.arr,b.2.1,b.2.2.1,X.arr b.2.2.2.1,b.2.2.2.2)
noncomputable def FM.doneS' {ρ:Type} {a o:Array Keyed} {i j:Nat} {c:ρ} (q l:List Nat) (e:a=X.arr q) (e':o=X.arr l):FM X (Hz (ForInStep.done (some a,i,j,o,c))) (jZ (Hr X)):=FM.pure (.done (some q,i,j,l,c)) (by subst e e'; rfl)
noncomputable def FM.doneN' {ρ:Type} {o:Array Keyed} {i j:Nat} {c:ρ} (l:List Nat) (e':o=X.arr l):FM X (Hz (ForInStep.done ((none:Option (Array Keyed)),i,j,o,c))) (jZ (Hr X)):=FM.pure (.done (none,i,j,l,c)) (by subst e'; rfl)
noncomputable def FM.yieldN' {ρ:Type} {o:Array Keyed} {i j:Nat} {c:ρ} (l:List Nat) (e':o=X.arr l):FM X (Hz (ForInStep.yield ((none:Option (Array Keyed)),i,j,o,c))) (jZ (Hr X)):=FM.pure (.yield (none,i,j,l,c)) (by subst e'; rfl)
def AZ (x:Nat):#[X.item x]=X.arr [x]:=rfl
local macro_rules | `(tactic| decreasing_trivial)=>`(tactic| ((try simp only [Lr,Hr,Ad,k6,AZ,AY,Bm]) <;> with_reducible rfl))
local macro_rules | `(tactic| trivial)=>`(tactic| (repeat' first
 | refine FM.bind (FM.elem _ _) fun _=>?_
 | refine FM.bind (FM.lt _ _) fun _=>?_
 | refine FM.bind (FM.gallop _ _ _ _ _ _) fun _=>?_
 | refine FM.bind FM.rule fun _=>?_
 | refine FM.bind (FM.setG _) fun _=>?_
 | exact FM.doneS _ _ (by decreasing_trivial) (by decreasing_trivial)
 | exact FM.doneN _ (by decreasing_trivial)
 | exact FM.yieldN _ (by decreasing_trivial)
 | refine FM.ite ?_ ?_))
noncomputable def FM.mergeLo (a b:List Nat):FM X (mergeLo' (X.arr a) (X.arr b)) X.arr:=by
 refine FM.bind FM.rule fun _=>FM.bind (FM.elem b 0) fun x=>?_
 refine FM.ite (FM.pure _ (by decreasing_trivial)) (FM.ite (FM.pure _ (by decreasing_trivial)) ?_)
 refine FM.bind FM.get fun m=>?_
 refine FM.bind (r:=Lr X) (FM.range (none,[x],0,1,m.g) rfl fun i b=>?_) fun b=>?_
 ·refine FM.bind (r:=Lr X) (FM.range (none,b.2.1,b.2.2.1,b.2.2.2.1,0,0) rfl fun i b=>?_) fun c=>?_
  ·trivial
  ·obtain⟨_ | q,l,ia,ib,ac,bc⟩:=c
   ·refine FM.bind FM.rule fun _=>?_
    refine FM.bind (r:=Lr X) (FM.range (none,l,ia,ib,b.2.2.2.2+1,ac,bc) rfl fun i d=>?_) fun d=>?_
    ·trivial
    ·obtain⟨_ | q,l,z⟩:=d
     ·trivial
     ·trivial
   ·trivial
 ·obtain⟨_ | q,l,z⟩:=b
  ·exact FM.no
  ·exact FM.pure q rfl
local macro_rules | `(tactic| trivial)=>`(tactic| (repeat' first
 | refine FM.bind (FM.elem _ _) fun _=>?_
 | refine FM.bind (FM.lt _ _) fun _=>?_
 | refine FM.bind (FM.gallop _ _ _ _ _ _) fun _=>?_
 | refine FM.bind FM.rule fun _=>?_
 | refine FM.bind (FM.setG _) fun _=>?_
 | exact FM.doneS' _ _ (by decreasing_trivial) (by decreasing_trivial)
 | exact FM.doneN' _ (by decreasing_trivial)
 | exact FM.yieldN' _ (by decreasing_trivial)
 | refine FM.ite ?_ ?_))
noncomputable def FM.mergeHi (a b:List Nat):FM X (mergeHi' (X.arr a) (X.arr b)) X.arr:=by
 refine FM.bind FM.rule fun _=>FM.bind (FM.elem a _) fun x=>?_
 refine FM.ite (FM.pure _ (by decreasing_trivial)) (FM.ite (FM.pure _ (by decreasing_trivial)) ?_)
 refine FM.bind FM.get fun m=>?_
 refine FM.bind (r:=Hr X) (FM.range (none,(X.arr a).size-1,(X.arr b).size,[x],m.g) rfl fun i b=>?_) fun b=>?_
 ·refine FM.bind (r:=Hr X) (FM.range (none,b.2.1,b.2.2.1,b.2.2.2.1,0,0) rfl fun i b=>?_) fun c=>?_
  ·trivial
  ·obtain⟨_ | q,ia,ib,l,ac,bc⟩:=c
   ·refine FM.bind FM.rule fun _=>?_
    refine FM.bind (r:=Hr X) (FM.range (none,ia,ib,l,b.2.2.2.2+1,ac,bc) rfl fun i d=>?_) fun d=>?_
    ·trivial
    ·obtain⟨_ | q,i1,i2,l,z⟩:=d
     ·trivial
     ·trivial
   ·trivial
 ·obtain⟨_ | q,i1,i2,l,z⟩:=b
  ·exact FM.no
  ·exact FM.pure q rfl
def AG (q:List Nat) (i k:Nat):(X.arr q).setIfInBounds i (X.item k)=X.arr (q.set i k):=by
 unfold SX.arr; rw[List.setIfInBounds_toArray,JW]
theorem tK (sa:Nat):∀ (l:List Nat) (n:Nat) (q:List Nat),((l.map X.item).zipIdx n).foldl (fun a x=>match x with | (p,j)=>a.setIfInBounds (sa+j) p) (X.arr q)=X.arr ((l.zipIdx n).foldl (fun a x=>a.set (sa+x.2) x.1) q)
 | [],_,_=>rfl
 | k::l,n,q=>by
  rw[D8,List.zipIdx_cons,List.zipIdx_cons,FO,FO]
  show Jh _ ((X.arr q).setIfInBounds (sa+n) (X.item k)) _=_
  rw[AG]
  exact tK sa l (n+1) _
def zv (f:α→β) (xs:Array α) (i j:Nat):(xs.map f).swapIfInBounds i j=(xs.swapIfInBounds i j).map f:=by
 by_cases hi:i<xs.size
 ·by_cases hj:j<xs.size
  ·refine Array.ext_getElem? fun k=>?_
   rw[GQ,getElem?_swapIB hi hj,getElem?_swapIB (by simpa using hi) (by simpa using hj)]
   repeat' split
   all_goals rw[GQ]
  ·rw[FP,FP,dif_pos hi,dif_neg hj,dif_pos (by simpa using hi),dif_neg (by simpa using hj)]
 ·rw[FP,FP,dif_neg hi,dif_neg (by simpa using hi)]
theorem jN {α β:Type} (f:α→β) (u v:Nat→Nat):∀ (l:List Nat) (xs:Array α),l.foldl (fun a k=>a.swapIfInBounds (u k) (v k)) (xs.map f)=(l.foldl (fun a k=>a.swapIfInBounds (u k) (v k)) xs).map f
 | [],_=>rfl
 | k::l,xs=>by rw[FO,FO,zv]; exact jN f u v l _
def mT (q:List Nat):X.arr q=q.toArray.map X.item:=by unfold SX.arr; simp
def wj (q:List Nat) (i j d:Nat):mirror (X.arr q) i j d=X.arr (mirror q.toArray i j d).toList:=by
 rw[mT,mT]; exact jN X.item _ _ _ _
def v8 (q:List Nat) (i d:Nat):bubble (X.arr q) i d=X.arr (bubble q.toArray i d).toList:=by
 rw[mT,mT]; exact jN X.item _ _ _ _
noncomputable def FM.rev (i j:Nat):FM X (reverseSlice' i j) (id:Unit→Unit):=FM.mod (fun m=>{ m with q:=(mirror m.q.toArray i j ((j-i) / 2)).toList }) fun m=>by
 show EZ X.κ (mirror (X.arr m.q) i j ((j-i) / 2)) _ _ _=_
 rw[wj]; rfl
noncomputable def FM.down (i j:Nat):FM X (moveDown' i j) (id:Unit→Unit):=FM.mod (fun m=>{ m with q:=(bubble m.q.toArray i (i-j)).toList }) fun m=>by
 show EZ X.κ (bubble (X.arr m.q) i (i-j)) _ _ _=_
 rw[v8]; rfl
noncomputable def FM.puts (sa:Nat) (l:List Nat):FM X (modify fun s=>EZ (kindOf s) (Jh (fun a x=>match x with | (p,j)=>a.setIfInBounds (sa+j) p) (arrOf s) (X.arr l).toList.zipIdx) (F8 s) (gallopOf s) (failedOf s):StateT SortSt Sem PUnit) (id:PUnit→PUnit) :=
 FM.mod (fun m=>{ m with q:=l.zipIdx.foldl (fun a x=>a.set (sa+x.2) x.1) m.q }) fun m=>by
  show EZ X.κ (Jh _ (X.arr m.q) (l.map X.item).zipIdx) _ _ _=_
  rw[tK]; rfl
noncomputable def FM.mergeAt (i:Nat):FM X (mergeAt' i) (fun _:Unit=>true):=by
 refine FM.bind FM.get fun m=>?_
 generalize h1:(F8 (X.emb m))[i]?=o1
 generalize h2:(F8 (X.emb m))[i+1]?=o2
 obtain _ | ⟨sa,na,pw⟩:=o1
 ·exact FM.no
 obtain _ | ⟨sb,nb,pw2⟩:=o2
 ·exact FM.no
 refine FM.bind (FM.put { m with pd:=(m.pd.set i (sa,na+nb,pw)).eraseIdx (i+1) } ?_) fun _=>?_
 ·show EZ _ _ _ _ _=EZ _ _ _ _ _
  congr 1
  simp [SX.emb]
 refine FM.bind (FM.elem m.q sb) fun x=>FM.bind (FM.gallop _ _ m.q _ _ _) fun k=>?_
 refine FM.ite (FM.pure () rfl) (FM.bind (FM.elem m.q _) fun y=>FM.bind (FM.gallop _ _ m.q _ _ _) fun nb'=>?_)
 refine FM.ite (FM.pure () rfl) (FM.ite ?_ ?_)
 ·exact FM.bind (FM.cast (by rw[← k6,← k6]; rfl) (FM.mergeLo ((m.q.drop (sa+k)).take (sb-(sa+k))) ((m.q.drop sb).take (sb+nb' - sb)))) fun l=>FM.bind (FM.puts (sa+k) l) fun _=>FM.bind FM.get fun _=>FM.pure () rfl
 ·exact FM.bind (FM.cast (by rw[← k6,← k6]; rfl) (FM.mergeHi ((m.q.drop (sa+k)).take (sb-(sa+k))) ((m.q.drop sb).take (sb+nb' - sb)))) fun l=>FM.bind (FM.puts (sa+k) l) fun _=>FM.bind FM.get fun _=>FM.pure () rfl
noncomputable def FM.count (lo nrem:Nat):FM X (countRun' lo nrem) (some:Nat→Option Nat):=by
 refine FM.bind (r:=fun n:Nat=>((none:Option (Option Nat)),n)) (FM.range 1 rfl fun i b=>FM.bind (FM.ltAt _ _) fun c=>FM.ite (FM.pure (.done b) rfl) (FM.pure (.yield (b+1)) rfl)) fun n=>?_
 refine FM.ite (FM.pure n rfl) ?_
 refine FM.ite (FM.bind (FM.ltAt _ _) fun c=>FM.ite (FM.pure n rfl) (FM.bind (FM.rev _ _) fun _=>?_)) ?_
 all_goals
  refine FM.bind FM.rule fun _=>?_
  refine FM.bind (r:=fun b:Nat×Nat=>((none:Option (Option Nat)),b.1,b.2)) (FM.range (n+1,0) rfl fun i b=>?_) fun b=>?_
  ·exact FM.bind (FM.ltAt _ _) fun c=>FM.ite (FM.ite (FM.bind (FM.rev _ _) fun _=>FM.pure (.yield (b.1+1,0)) rfl) (FM.pure (.yield (b.1+1,0)) rfl)) (FM.bind (FM.ltAt _ _) fun d=>FM.ite (FM.pure (.done b) rfl) (FM.pure (.yield (b.1+1,b.2+1)) rfl))
  ·refine FM.ite (FM.bind (FM.rev _ _) fun _=>?_) ?_
   all_goals exact FM.bind (FM.rev _ _) fun _=>FM.bind (r:=fun n:Nat=>((none:Option (Option Nat)),n)) (FM.range b.1 rfl fun i c=>FM.bind (FM.ltAt _ _) fun d=>FM.ite (FM.pure (.done c) rfl) (FM.pure (.yield (c+1)) rfl)) fun c=>FM.pure c rfl
noncomputable def FM.bin (lo n ok:Nat):FM X (binarySort' lo n ok) (fun _:Unit=>true):=by
 refine FM.bind (r:=fun _:Unit=>((none:Option Bool),())) (FM.range () rfl fun k _=>?_) fun _=>FM.pure () rfl
 refine FM.bind (r:=fun b:Nat×Nat=>((none:Option Bool),b.1,b.2)) (FM.range (0,k) rfl fun i b=>?_) fun b=>?_
 ·refine FM.ite (FM.pure (.done b) rfl) (FM.bind (FM.ltAt _ _) fun c=>FM.ite ?_ ?_)
  ·exact FM.pure (.yield (b.1,(b.1+b.2) / 2)) rfl
  ·exact FM.pure (.yield ((b.1+b.2) / 2+1,b.2)) rfl
 ·exact FM.bind (FM.down _ _) fun _=>FM.pure (.yield ()) rfl
noncomputable def FM.pushP (x:Nat×Nat×Nat):FM X (modify fun s=>setPending s ((F8 s).push x):StateT SortSt Sem PUnit) (id:PUnit→PUnit) :=
 FM.mod (fun m=>{ m with pd:=m.pd++[x] }) fun m=>by
  show EZ _ _ (m.pd.toArray.push x) _ _=_
  rw[List.push_toArray]; rfl
noncomputable def FM.modP (pw:Nat):FM X (modify fun s=>setPending s ((F8 s).modify ((F8 s).size-1) fun x=>match x with | (st,len,_)=>(st,len,pw)):StateT SortSt Sem PUnit) (id:PUnit→PUnit) :=
 FM.mod (fun m=>{ m with pd:=m.pd.modify (m.pd.length-1) fun x=>(x.1,x.2.1,pw) }) fun m=>by
  show EZ _ _ (m.pd.toArray.modify (m.pd.toArray.size-1) _) _ _=_
  rw[List.modify_toArray]; rfl
noncomputable def FM.runs:FM X sortRuns' (id:Unit→Unit):=by
 refine FM.bind FM.get fun m=>?_
 refine FM.bind (r:=fun lo:Nat=>((none:Option Unit),lo)) (FM.range 0 rfl fun i lo=>?_) fun lo=>?_
 ·refine FM.ite (FM.pure (ForInStep.done lo) rfl) (FM.bind (FM.count _ _) fun n=>?_)
  refine FM.ite (FM.bind FM.rule fun _=>FM.bind (FM.bin _ _ _) fun _=>FM.ite FM.no ?_) ?_
  all_goals
   refine FM.bind FM.get fun m2=>?_
   generalize hb:(F8 (X.emb m2)).back?=o
   obtain _ | ⟨s1,n1,z⟩:=o
   ·exact FM.bind (FM.pushP _) fun _=>FM.pure (ForInStep.yield (lo+_)) rfl
   ·refine FM.bind (r:=fun _:Unit=>((none:Option Unit),())) (FM.range () rfl fun i _=>?_) fun _=>FM.bind (FM.modP _) fun _=>FM.bind (FM.pushP _) fun _=>FM.pure (ForInStep.yield (lo+_)) rfl
    refine FM.bind FM.get fun m3=>?_
    dsimp only
    generalize hd:(if (F8 (X.emb m3)).size > 1 then (F8 (X.emb m3))[(F8 (X.emb m3)).size-2]? else none)=o3
    obtain _ | ⟨_,_,older⟩:=o3
    ·exact FM.pure (ForInStep.done ()) rfl
    ·exact FM.ite (FM.pure (ForInStep.done ()) rfl) (FM.bind (FM.mergeAt _) fun _=>FM.ite FM.no (FM.pure (ForInStep.yield ()) rfl))
 ·refine FM.bind (r:=fun _:Unit=>((none:Option Unit),())) (FM.range () rfl fun i _=>?_) fun _=>FM.pure () rfl
  exact FM.bind FM.get fun m3=>FM.ite (FM.pure (ForInStep.done ()) rfl) (FM.bind (FM.mergeAt _) fun _=>FM.ite FM.no (FM.pure (ForInStep.yield ()) rfl))
def SortsTo (cmp:Nat→Nat→Bool) (n:Nat) (out:List Nat):Prop:=∀ X:SX,X.cmp=cmp→X.n=n→∃ m,(FM.runs (X:=X)).p ⟨DJ n,[],7⟩=some ((),m)∧m.q=out
end
end _srt
namespace _l
open PySem PySem.Spec PyProof.Rows
def Inv.heldO {a:Addr} {u0:HO} (I:Inv X pins σ H s) (hn:H a=none) (hs:X.s₀.heap.get? a=none) (hL:a≠X.env.locals) (hc:∀ x c,X.env.cells.lookup x=some c→c≠a) (hp:∀ p∈X.pn++pins,p.1≠a)
  (new:ObjOk X.prog X.w (upd H a u0) s.heap a u0):Inv X pins σ (upd H a u0) s:=by
 have ne0:∀ b o,X.s₀.heap.get? b=some o→b≠a:=fun b o e z=>by rw[z,hs] at e; cases e
 refine⟨I.ok,I.os,I.bare,⟨I.base.keep,I.base.slot,fun b o e n hx=>?_,I.base.there,fun b xs e=>?_,fun b o u e=>?_,fun b ps e=>?_⟩,I.loc,I.cell,?_,fun x c e=>?_,fun p hp'=>?_,fun b u e=>?_,I.len⟩
 ·rw[aZ (ne0 b o e)]; exact I.base.free b o e n hx
 ·rw[aZ (bZ (I.base.tups b xs e) hn)]; exact I.base.tups b xs e
 ·rw[aZ (bZ (I.base.frzs b o u e) hn)]; exact I.base.frzs b o u e
 ·obtain⟨more,z⟩:=I.base.tbls b ps e
  exact⟨more,by rw[aZ (bZ z hn)]; exact z⟩
 ·rw[aZ (E6 hL)]; exact I.free
 ·rw[aZ (hc x c e)]; exact I.freeC x c e
 ·obtain⟨e1,e2,e3⟩:=I.pin p hp'
  exact⟨e1,by rw[aZ (hp p hp')]; exact e2,e3⟩
 ·by_cases hb:b=a
  ·subst hb
   rw[aT] at e
   cases e
   exact new
  ·rw[aZ hb] at e
   exact (I.hok b u e).stay (fun _ _ _ q=>q) (fun c q=>by rw[aZ (bZ q hn)]; exact q) fun c xs q=>by rw[aZ (bZ q hn)]; exact q
abbrev K3:=Int×List Int×List Int
def iZ (K:cy) (H:Hp) (v:V) (k:K3):Prop:=∃ p a b:Addr,v=.ref p∧SqT K H p [.int k.1,.ref a,.ref b]∧SqT K H a (k.2.1.map V.int)∧SqT K H b (k.2.2.map V.int)
section
variable {X:Cx} {pins:List (Addr×Obj)} {σ:St} {H:Hp} {s:Shared}
def A5 {k:Nat} (F:FnOk X.prog X.w X.K X.mg X.base CX0 k f fd ps sp) (hr:Room k X.A.in1.in1) (hb:Binds X.K fd ps [])
  (I:Inv X pins σ H s) (r:Vals vs us) (h:sp vs H Q E0):wpAny (model X.prog X.w) X.A.in1.in1 (call (.ref f) us) (EP X pins σ Q) (fun _ _=>False) s:=by
 have hl:us.length=ps.length:=by rw[← r.length]; exact F.len _ _ _ _ h
 have hb':=hb s us I.kIn (by simpa using hl)
 rw[D9] at hb'
 refine Gg (F0 (F.run X.A.in1.in1 X.stack s H ⟨us,[]⟩ us vs Q E0 hr I.env0.in1.in1 hb' r h) fun r s' hq=>?_)
 cases r with
 | error e=>exact hq.elim
 | ok fl =>
  cases fl with
  | ret u=>exact I.after hq
  | next=>exact EF hq
  | brk=>exact EF hq
  | cont=>exact EF hq
def AI {v:Value} {x y:V} {k k':K3} (I:Inv X pins σ H s) (hu:A.units+60<cLine) (ku:iZ X.K H x k) (kv:iZ X.K H y k') (ru:RelV x u) (rv:RelV y v) (Q:Bool→Shared→Prop) (E:Value→Shared→Prop) (h:Q (_ht.key_lt k k') s) :
  wpAny (model X.prog X.w) A (keyLt' (Jb true) u v) Q E s:=by
 obtain⟨p,a,b,rfl,P1,A1,B1⟩:=ku
 obtain⟨q,c,d,rfl,P2,C1,D1⟩:=kv
 cases ru
 cases rv
 obtain⟨it1,r1,t1,_⟩:=I.tuple P1
 obtain⟨it2,r2,t2,_⟩:=I.tuple P2
 obtain⟨u1,rfl⟩:=vals3 r1
 obtain⟨u2,rfl⟩:=vals3 r2
 obtain⟨ia,ra,ta,_⟩:=I.tuple A1
 obtain⟨ib,rb,tb,_⟩:=I.tuple B1
 obtain⟨ic,rc,tc,_⟩:=I.tuple C1
 obtain⟨id',rd,td,_⟩:=I.tuple D1
 obtain⟨o1,ho1,_,n1,hd1⟩:=id t1
 obtain⟨o2,ho2,_,n2,hd2⟩:=id t2
 refine PySem.W.kat_lt ho1 hd1 ho2 hd2 ?_
 refine Hi (HQ _ u1 _ u2 _ _ _ _ ?_)
 by_cases e0:k.1=k'.1
 ·rw[show (k.1 == k'.1)=true by simp [e0]]
  refine HA (Hi (_ht.eqAt_tups ta tc (ints_are ra) (ints_are rc) (by exact Oz100 hu) _ _ _ _ ?_))
  by_cases e1:k.2.1=k'.2.1
  ·rw[decide_eq_true e1]
   refine HA (Hi (_ht.eqAt_tups tb td (ints_are rb) (ints_are rd) (by exact Oz100 hu) _ _ _ _ ?_))
   by_cases e2:k.2.2=k'.2.2
   ·rw[decide_eq_true e2]
    refine HA (HB ?_)
    have z:_ht.key_lt k k'=false:=by simp [_ht.key_lt,_ht.resC,e0,e1,e2]
    rw[z] at h
    exact h
   ·rw[decide_eq_false e2]
    have z:_ht.key_lt k k'=_ht.lexC_lt k.2.2 k'.2.2:=by simp [_ht.key_lt,_ht.resC,e0,e1,e2]
    rw[z] at h
    exact HY (Jc _ _ (_ht.rc_ints_lt tb td (ints_are rb) (ints_are rd) (by exact Oz104 hu) _ _ _ _ h))
  ·rw[decide_eq_false e1]
   have z:_ht.key_lt k k'=_ht.lexC_lt k.2.1 k'.2.1:=by simp [_ht.key_lt,_ht.resC,e0,e1]
   rw[z] at h
   exact HY (Jc _ _ (_ht.rc_ints_lt ta tc (ints_are ra) (ints_are rc) (by exact Oz104 hu) _ _ _ _ h))
 ·rw[show (k.1 == k'.1)=false by simp [e0]]
  have z:_ht.key_lt k k'=decide (k.1<k'.1):=by simp [_ht.key_lt,_ht.resC,e0]
  rw[z] at h
  exact HY (oneLt_int h)
end
def kZ (sp:Sp) (kS:Addr) (Fin:List V→Hp→Prop):List V→List V→Hp→Prop
 | [],ks,H=>Fin ks H
 | x::r,ks,H=>sp [x] H (fun k H'=>H' kS=some (.lst ks)∧kZ sp kS Fin r (ks++[k]) (upd H' kS (.lst (ks++[k])))) E0
section
variable {X:Cx} {pins:List (Addr×Obj)} {σ:St}
theorem sd {k:Nat} {f kS:Addr} {fd:DU} {ps:List Str} {sp:Sp} {Fin:List V→Hp→Prop} {E:Value→Shared→Prop} {body:Value→PUnit→Sem (ForInStep PUnit)} (F:FnOk X.prog X.w X.K X.mg X.base CX0 k f fd ps sp) (hr:Room k X.A.in1.in1) (hb:Binds X.K fd ps [])
  (hbody:∀ (x:Value) (s:Shared) (R:Shared→Prop),wpAny (model X.prog X.w) X.A.in1.in1 (call (.ref f) [x]) (fun k s'=>wpAny (model X.prog X.w) X.A.in1.in1 (Iv (.ref kS) (·.push k)) (fun _ s2=>R s2) E s') (fun _ _=>False) s →
   wpAny (model X.prog X.w) X.A.in1.in1 (body x ⟨⟩) (fun r s'=>r=.yield ⟨⟩∧R s') E s) :
  ∀ (r:List Value) (vr ks:List V) (H:Hp) (s:Shared),Vals vr r→Inv X pins σ H s→H kS=some (.lst ks)→ks.length+vr.length≤1000→kZ sp kS Fin vr ks H →
   wpAny (model X.prog X.w) X.A.in1.in1 (forIn r PUnit.unit body) (fun _ s'=>∃ ks' H',Inv X pins σ H' s'∧H' kS=some (.lst ks')∧ks'.length=ks.length+vr.length∧Fin ks' H') E s
 | [],_,ks,H,s,.nil,I,hk,hl,h=>by
  rw[Jr]
  exact Do ⟨ks,H,I,hk,by simp,h⟩
 | x::r,_,ks,H,s,.cons (a:=v) (l₁:=vr) hx hv,I,hk,hl,h=>by
  rw[Hv]
  rw[DF] at hl
  refine wo (Eo (hbody x s (fun s'=>∃ k H',Inv X pins σ (upd H' kS (.lst (ks++[k]))) s'∧kZ sp kS Fin vr (ks++[k]) (upd H' kS (.lst (ks++[k])))) ?_) (fun q s' hq=>?_) fun _ _ e=>e)
  ·refine Eo (A5 F hr hb I (.cons hx .nil) h) (fun u s' hu=>?_) fun _ _ z=>z
   obtain⟨k',H',I',rk,hk',hrun⟩:=hu
   obtain⟨hz,its,n,rv,len,ho⟩:=I'.lstM hk'
   have z:its.length≤1000:=by omega
   refine Gk ho rfl ?_ (by rw[Dk,EL]; exact Oz43 z) (by rw[Array.size_push,Dk,EL]; omega)
   refine⟨k',H',?_,hrun⟩
   exact I'.lset (t':=s'.toks) (its':=its++[u]) hk' ho (by simp) (rv.append (.cons rk .nil)) (by rw[Dp,EL]; simp; omega)
  ·obtain⟨rfl,k',H',I',hrun⟩:=hq
   show wpAny (model X.prog X.w) X.A.in1.in1 (forIn r PUnit.unit body) _ E s'
   refine Eo (sd F hr hb hbody r vr (ks++[k']) _ s' hv I' aT (by rw[Dp]; simp; omega) hrun) (fun _ s2 hs=>?_) fun _ _ e=>e
   obtain⟨ks',H2,I2,e2,l2,fin⟩:=hs
   exact⟨ks',H2,I2,e2,by rw[l2,Dp,DF]; simp; omega,fin⟩
end
def kM:∀ (a b:List Value),a.length=b.length→a.zip b=(DJ a.length).map fun i=>(a.getD i Value.none,b.getD i Value.none):=by
 intro a b h
 refine List.ext_getElem? fun i=>?_
 by_cases hi:i<a.length
 ·have hj:i<b.length:=by exact Oz13 h hi
  rw[Dq,HC hi,Dm (by rw[GO]; omega),List.getElem_zip]
  simp [hi,hj]
 ·rw[F9 (by rw[GO]; omega),F9 (by simp; exact Oz99 hi)]
section
variable {X:Cx} {pins:List (Addr×Obj)} {σ:St} {H:Hp} {s:Shared}
theorem rJ (I:Inv X pins σ H s):∀ (ks:List V) (us:List Value),Vals ks us→(∀ k∈ks,∃ z,iZ X.K H k z)→∃ fs,PySem.W.KatTups s.heap us fs∧fs.length=us.length∧∀ f∈fs,∃ n t,f=Value.int n t
 | _,_,.nil,_=>⟨[],PySem.W.KatTups.nil,rfl,fun _ h=>nomatch h⟩
 | _,_,.cons (a:=k) (l₁:=ks) rk r,h=>by
  obtain⟨fs,t,l,q⟩:=rJ I ks _ r fun k' hk'=>h k' (DI _ hk')
  obtain⟨z,p,a,b,rfl,P1,_,_⟩:=h _ DX
  cases rk
  obtain⟨it1,r1,t1,_⟩:=I.tuple P1
  obtain⟨u1,rfl⟩:=vals3 r1
  obtain⟨o1,ho1,hc1,n1,hd1⟩:=id t1
  refine⟨.int z.1 u1::fs,PySem.W.KatTups.cons ho1 hc1 hd1 rfl t,by simp [l],fun f hf=>?_⟩
  rcases Du.mp hf with rfl | hf
  ·exact⟨_,_,rfl⟩
  ·exact q f hf
theorem mz {xs:List V} {its:List Value} (rv:Vals xs its):∀ out:List Nat,Vals (out.map fun i=>xs.getD i .non) (out.map fun i=>its.getD i Value.none)
 | []=>.nil
 | i::out=>by
  have len:=rv.length
  refine .cons ?_ (mz rv out)
  by_cases hi:i<xs.length
  ·obtain⟨x,ex⟩:∃ x,xs[i]?=some x:=⟨_,Dm hi⟩
   obtain⟨u,eu,ru⟩:=rv.get ex
   show RelV (xs.getD i .non) (its.getD i Value.none)
   rw[show xs.getD i .non=x by simp [Er,ex],show its.getD i Value.none=u by simp [Er,eu]]
   exact ru
  ·show RelV (xs.getD i .non) (its.getD i Value.none)
   rw[show xs.getD i .non=.non by simp [Er,F9 (show xs.length≤i by exact Oz99 hi)],show its.getD i Value.none=Value.none by simp [Er,F9 (show its.length≤i by omega)]]
   exact rfl
def wJ {k:Nat} {l:Addr} {cmp:Nat→Nat→Bool} {out:List Nat} (I:Inv X pins σ H s) (hl:SqL X.K H l xs) (hz:xs.length≤1000)
  (F:FnOk X.prog X.w X.K X.mg X.base CX0 k f fd ps sp) (hr:Room (k+2) X.A) (hb:Binds X.K fd ps []) (hs:(xs.length<2∧out=DJ xs.length)∨(2≤xs.length∧_srt.SortsTo cmp xs.length out)) (ho:out.length≤1000)
  (h:∀ D kS H0,Same H H0→H D=none→H kS=none→D≠kS→H0 D=none→H0 kS=some (.lst [])→kZ sp kS (fun ks H'=>H' D=none→(∃ z:Nat→K3,(∀ i v,ks[i]?=some v→iZ X.K H' v (z i))∧∀ i j,i<xs.length→j<xs.length→cmp i j=_ht.key_lt (z i) (z j)) ∧
   Q (.ref D) (upd (upd H' kS (.lst [])) D (.lst (out.map fun i=>xs.getD i .non)))) xs [] H0) :
  wpAny (model X.prog X.w) X.A (call (.builtin "sorted") [.ref l] [(Dj "key",.ref f)]) (EP X pins σ Q) E s:=by
 obtain⟨its,rv,pl,hzz⟩:=I.list hl
 have len:=rv.length
 have hil:its.length≤1000:=by omega
 have hsl:its.length≤sizeLine:=by rw[EL]; omega
 have pl':s.heap.IsList l its.toArray:=pl.isList
 refine call_function_entry_kw kind_sorted plain_sorted entry_sorted (ksk_s1 _ _) ?_
 unfold Gx.«sorted»
 refine wo (m:=checkCount "sorted" 1 1 _) (Do ?_)
 refine wo (collect_list pl' ?_ hsl)
 refine wo (Iw ?_ hsl)
 have fT:FpOk X pins H s.heap.objs.size:=I.fpOk (Nat.le_refl _) (I.hok.fresh (Nat.le_refl _))
 have I0:Inv X pins σ H { s with heap:=s.heap.push (seqObj "list" #[] 0) }:=I.kept (t':=s.toks) fun b o e=>Dl _ e
 have I1:Inv X pins σ H { s with heap:=(s.heap.push (seqObj "list" #[] 0)).update s.heap.objs.size (Eh (·++its.toArray)) }:=by
  obtain⟨f0,f1,f2,f3,f4,f5⟩:=fT
  exact I0.turned (t':=s.toks) (fun b o hb e=>(En _ _ (E6 hb)).trans e) f0 f1 f3 f4 f5
 obtain⟨s1,hs1⟩:∃ s1:Shared,s1={ s with heap:=(s.heap.push (seqObj "list" #[] 0)).update s.heap.objs.size (Eh (·++its.toArray)) }:=⟨_,rfl⟩
 rw[← hs1] at I1 ⊢
 have fD:FpOk X pins H s1.heap.objs.size:=I1.fpOk (Nat.le_refl _) (I1.hok.fresh (Nat.le_refl _))
 have I2:Inv X pins σ H { s1 with heap:=s1.heap.push { cls:=.type "list",data:=.seq its.toArray } }:=I1.kept (t':=s1.toks) fun b o e=>Dl _ e
 have hoD:(s1.heap.push { cls:=.type "list",data:=.seq its.toArray }).get? s1.heap.objs.size=some (seqObj "list" its.toArray 0):=Dr _ rfl
 obtain⟨D,hD⟩:∃ D,D=s1.heap.objs.size:=⟨_,rfl⟩
 obtain⟨s2,hs2⟩:∃ s2:Shared,s2={ s1 with heap:=s1.heap.push { cls:=.type "list",data:=.seq its.toArray } }:=⟨_,rfl⟩
 have hoD':s2.heap.get? D=some (seqObj "list" its.toArray 0):=by rw[hs2,hD]; exact hoD
 rw[← hs2] at I2 ⊢
 rw[← hD] at fD ⊢
 clear hoD
 refine wo (EK (wpAny_call_entry_kw slot_list_sort ⟨_,hoD',rfl⟩ entry_list_sort ?_ (ksk_l1 _ _)))
 show wpAny (model X.prog X.w) X.A.in1.in1 (Gx.«list.sort» ⟨[.ref D],[(Dj "key",.ref f)]⟩) _ _ _
 rw[ksk_t1]
 unfold ksk_tree
 refine wo (listItems_at hoD' rfl ?_)
 obtain⟨e1,ho1⟩:∃ e1,(s2.heap.update D (Eh fun _=>(#[]:Array Value))).get? D=some (seqObj "list" #[] e1):=⟨_,HD hoD' fun _=>#[]⟩
 refine wo (Gk hoD' rfl ?_ (by rw[Dk]; exact hsl) (Nat.zero_le _))
 obtain⟨d0,d1,d2,d3,d4,d5⟩:=id fD
 have I3:Inv X pins σ H { s2 with heap:=s2.heap.update D (Eh fun _=>(#[]:Array Value)) }:=I2.turned (t':=s2.toks) (fun b o hb e=>(En _ _ (E6 hb)).trans e) d0 d1 d3 d4 d5
 refine wo (Iz ho1 rfl ?_)
 refine wo (wpAny_newTuple ?_ hsl)
 show wpAny _ _ _ _ _ { s2 with heap:=(s2.heap.update D (Eh fun _=>(#[]:Array Value))).push { cls:=.type "tuple",data:=.seq its.toArray } }
 have I4:Inv X pins σ H { s2 with heap:=(s2.heap.update D (Eh fun _=>(#[]:Array Value))).push { cls:=.type "tuple",data:=.seq its.toArray } }:=I3.kept (t':=s2.toks) fun b o e=>Dl _ e
 have ho2:=Dl { cls:=.type "tuple",data:=.seq its.toArray } ho1
 obtain⟨s4,hs4⟩:∃ s4:Shared,s4={ s2 with heap:=(s2.heap.update D (Eh fun _=>(#[]:Array Value))).push { cls:=.type "tuple",data:=.seq its.toArray } }:=⟨_,rfl⟩
 have ho3:s4.heap.get? D=some (seqObj "list" #[] e1):=by rw[hs4]; exact ho2
 rw[← hs4] at I4 ⊢
 refine wo (Iw ?_ (Nat.zero_le _))
 refine EK ?_
 have I5:Inv X pins σ (upd H s4.heap.objs.size (.lst [])) { s4 with heap:=s4.heap.push { cls:=.type "list",data:=.seq ([]:List Value).toArray } }:=I4.lnew (t':=s4.toks) .nil (Nat.zero_le _)
 have hk0:H s4.heap.objs.size=none:=I4.fresh
 have hDk:D≠s4.heap.objs.size:=Nat.ne_of_lt (Dy ho3)
 have ho4:=Dl { cls:=.type "list",data:=.seq ([]:List Value).toArray } ho3
 have I6:=I5.pins_of (pins':=pins++[(D,seqObj "list" #[] e1)]) fun p hp=>by
  rcases DV.mp hp with hp | hp
  ·exact I5.pin p (DM _ hp)
  ·rw[DA.mp hp]
   exact⟨ho4,by rw[aZ hDk]; exact d0,d1,d2,fun v z=>by cases z⟩
 have hrun:=h D _ (upd H s4.heap.objs.size (.lst [])) (fun b u q=>by rw[aZ (bZ q hk0)]; exact q) d0 hk0 hDk (by rw[aZ hDk]; exact d0) aT
 unfold ksk_rest
 refine wo (Ig ?_)
 rw[List.forIn_toArray]
 refine wo (Eo (sd F hr.in1.in1 hb (fun x s' R hx=>?_) its xs [] _ _ rv I6 aT (by simp; exact Oz83 hz) hrun) (fun _ s' hd=>?_) fun _ _ e=>e)
 ·refine wo (GM (Eo hx (fun k s'' hk=>?_) fun _ _ hF=>hF.elim))
  dsimp only
  exact wo (Eo hk (fun _ s3 hR=>Do ⟨rfl,hR⟩) fun _ _ e=>e)
 obtain⟨ks,H',I7,hkS,lks,fin⟩:=hd
 have pD:=I7.pin (D,_) (DM _ (DM _ DX))
 obtain⟨⟨z,hz1,hz2⟩,hq⟩:=fin pD.2.1
 obtain⟨_,kv,nk,rkv,lenk,hok⟩:=I7.lstM hkS
 have lk:kv.length=xs.length:=by rw[← lenk,lks]; simp
 refine wo (listItems_at hok rfl ?_)
 have tail:∀ st:SortSt,((arrOf st).map (·.2))=(out.map fun i=>its.getD i Value.none).toArray→failedOf st=none→wpAny (model X.prog X.w) X.A.in1.in1 (ksk_tail D false e1 (.ref s4.heap.objs.size) st) (fun fin s'=>∃ v,fin=Fin.done (Flow.ret v)∧wpAny (model X.prog X.w) X.A.in1 (ret (Value.ref D)) (fun fin s'=>∃ v,fin=Fin.done (Flow.ret v)∧EP X pins σ Q v s') E s') E s':=by
  intro st eo ef
  unfold ksk_tail
  dsimp only
  rw[eo]
  refine wo (Gk hok rfl ?_ (by rw[Dk,EL]; omega) (Nat.zero_le _))
  have I8:=(I7.lset (t':=s'.toks) (its':=[]) (f:=fun _=>#[]) (ys:=[]) hkS hok rfl .nil (Nat.zero_le _)).unpinned
  refine wo (wpAny_letGo ?_)
  have hoD8:(s'.heap.update s4.heap.objs.size (Eh fun _=>(#[]:Array Value))).get? D=some (seqObj "list" #[] e1):=(En _ _ (E6 hDk)).trans pD.1
  refine wo (Iz hoD8 rfl ?_)
  simp only [E5,if_false]
  refine wo (Gk hoD8 rfl ?_ (Nat.zero_le _) (by rw[Dk,iz,EL]; omega))
  rw[ef]
  simp only [bne_self_eq_false,E5,if_false]
  refine Do ⟨_,rfl,Do ⟨_,rfl,.ref D,_,?_,rfl,hq⟩⟩
  have hn8:upd H' s4.heap.objs.size (.lst []) D=none:=by rw[aZ hDk]; exact pD.2.1
  have I9:=I8.turned (t':=s'.toks) (h':=(s'.heap.update s4.heap.objs.size (Eh fun _=>(#[]:Array Value))).update D (Eh fun _=>(out.map fun i=>its.getD i Value.none).toArray)) (fun b o hb e=>(En _ _ (E6 hb)).trans e) hn8 d1 d3 d4 d5
  obtain⟨c2,hc2⟩:∃ c2,((s'.heap.update s4.heap.objs.size (Eh fun _=>(#[]:Array Value))).update D (Eh fun _=>(out.map fun i=>its.getD i Value.none).toArray)).get? D=some (seqObj "list" (out.map fun i=>its.getD i Value.none).toArray c2):=⟨_,HD hoD8 fun _=>_⟩
  refine I9.heldO hn8 (by rw[hD]; exact Hl I1.sz) d1 d4 d5 ⟨by rw[iz,EL]; exact Oz43 ho,out.map fun i=>its.getD i Value.none,c2,mz rv out,hc2⟩
 unfold ksk_end
 dsimp only
 rcases hs with ⟨h2,hou⟩ | ⟨h2,hs⟩
 ·have hp2:its.toArray.size<2:=by rw[Dk]; omega
  simp only [E5,if_false,if_pos hp2]
  refine wo (Do ?_)
  rw[StateT.run_pure]
  refine wo (Do ?_)
  refine tail _ ?_ rfl
  show (kv.toArray.zip its.toArray).map (·.2)=_
  rw[Hj,kM kv its (by exact Oz49 len lk),hou,lk]
  simp
 have hn2:¬ its.toArray.size<2:=by rw[Dk]; omega
 simp only [E5,if_false,if_neg hn2]
 have hkey:∀ i v,ks[i]?=some v→iZ X.K H' v (z i):=hz1
 obtain⟨fs,tt,lf,hf⟩:=rJ I7 ks kv rkv fun v hv=>by
  obtain⟨i,hi⟩:=Et.mp hv
  exact⟨_,hkey i v hi⟩
 refine wo (J4 tt (by omega) (fun v hv=>by obtain⟨n,t,rfl⟩:=hf v hv; exact G5 rfl) rfl ?_)
 rw[show (Value.type "int" != Value.type "tuple")=true from by decide]
 have hun:X.A.in1.in1.units+60<cLine:=by have:=hr.in1.in1.units; omega
 have hlt:∀ (i j:Nat),i<xs.length→j<xs.length→∀ (Q':Bool→Shared→Prop) (E':Value→Shared→Prop),Q' (cmp i j) s'→wpAny (model X.prog X.w) X.A.in1.in1 (keyLt' (Jb true) (kv.getD i Value.none) (kv.getD j Value.none)) Q' E' s':=by
  intro i j hi hj Q' E' hq'
  obtain⟨x,ex⟩:∃ x,ks[i]?=some x:=⟨_,Dm (by exact Oz42 lenk lk hi)⟩
  obtain⟨y,ey⟩:∃ y,ks[j]?=some y:=⟨_,Dm (by exact Oz42 lenk lk hj)⟩
  obtain⟨u,eu,ru⟩:=rkv.get ex
  obtain⟨v,ev,rv'⟩:=rkv.get ey
  have e1:kv.getD i Value.none=u:=by simp [Er,eu]
  have e2:kv.getD j Value.none=v:=by simp [Er,ev]
  rw[e1,e2]
  rw[hz2 i j hi hj] at hq'
  exact AI I7 hun (hkey i x ex) (hkey j y ey) ru rv' Q' E' hq'
 obtain⟨SXv,hSX⟩:∃ SXv:_srt.SX,SXv={ prog:=X.prog,w:=X.w,A:=X.A.in1.in1,E:=E,s:=s',κ:=Jb true,item:=fun i=>(kv.getD i Value.none,its.getD i Value.none),cmp:=cmp,n:=xs.length,lt:=hlt }:=⟨_,rfl⟩
 obtain⟨m,hm,hmq⟩:=hs SXv (by rw[hSX]) (by rw[hSX])
 have est:EZ (Jb true) (kv.toArray.zip its.toArray) #[] 7 none=SXv.emb ⟨DJ xs.length,[],7⟩:=by
  have ez:kv.toArray.zip its.toArray=SXv.arr (DJ xs.length):=by
   rw[Hj,kM kv its (by exact Oz49 len lk),lk,hSX]
   rfl
  rw[ez,hSX]
  rfl
 have hW:=(_srt.FM.runs (X:=SXv)).h _ () m hm (fun _ st=>st=SXv.emb m) rfl
 have eo:((arrOf (SXv.emb m)).map (·.2))=(out.map fun i=>its.getD i Value.none).toArray:=by
  show (SXv.arr m.q).map (·.2)=_
  rw[hmq,hSX]
  show (List.map _ out).toArray.map _=_
  simp
 rw[est]
 have hW':wpAny (model X.prog X.w) X.A.in1.in1 (sortRuns'.run (SXv.emb ⟨DJ xs.length,[],7⟩)) (fun r s2=>s2=s'∧r.2=SXv.emb m) E s':=by
  have:=hW
  rw[hSX] at this ⊢
  exact this
 refine wo (Eo hW' ?_ fun _ _ e=>e)
 rintro⟨⟨⟩,st'⟩ s'' ⟨rfl,rfl⟩
 exact tail _ eo rfl
end
section
variable {X:Cx}
def zb (hc:X.calm=true):gU X (.builtin "any") (fun xs H Q=>∃ (p:Addr) (ns:List Int),xs=[.ref p]∧SqT X.K H p (ns.map V.int)∧Q (.bl (ns.any fun n=>decide (n≠0))) H):=by
 intro pins s σ H xs us Q I r h
 obtain⟨p,ns,rfl,hq,q⟩:=h
 obtain⟨u,rfl,rx⟩:=vals1 r
 cases rx
 obtain⟨its,r',pl,hz⟩:=I.tuple hq
 have hl:s.heap.IsTuple p its.toArray:=pl
 have hlt:p<s.heap.objs.size:=by obtain⟨_,e,_⟩:=hl; exact Dy e
 have len:=r'.length
 rw[iz] at len
 refine call_any_walk (E3 hl ⟨_,_,_,_,_,_,fun i=>decide (ns.getD i 0≠0),rfl,Walks.tuple (A:=X.A.in1) (I.ok.hd hc) s.heap.objs.size p (Nat.ne_of_lt hlt) its.toArray,⟨⟨_,Dr _ rfl,rfl,rfl⟩,hl.at fun o e=>Dl _ e⟩,?_,?_⟩)
 ·intro i v s' Q' E' hP hQ
  have hP':its[i]?=some v:=by simpa using hP
  have li:i<ns.length:=by
   have:=(yp.mp hP').1
   exact Oz101 len this
  obtain⟨u,e1,e2⟩:=r'.get (i:=i) (x:=.int (ns.getD i 0)) (by simp [Er,li])
  rw[hP'] at e1
  cases e1
  obtain⟨t,rfl⟩:=e2
  refine truthy_int ?_
  rw[show (ns.getD i 0 != 0)=decide (ns.getD i 0≠0) by rw[FI]; simp]
  exact hQ
 ·intro h' tk hk
  have:(DJ its.toArray.size).any (fun i=>decide (ns.getD i 0≠0))=ns.any fun n=>decide (n≠0):=by
   rw[Dk,← len]
   clear len hq q r' hz
   induction ns with
   | nil=>rfl
   | cons b bs ih =>
    rw[DF,IM,FT,JX,FT]
    exact congrArg _ ih
  rw[this]
  exact⟨.bl _,H,I.kept (fun b o e=>hk b o (by rw[DA]; exact Nat.ne_of_lt (Dy e)) (Dl _ e)),rfl,q⟩
def v9 (h:X.K=K) (hc:X.calm=true):gU X (.builtin "any") (fun xs H Q=>∃ (p:Addr) (ns:List Int),xs=[.ref p]∧SqT K H p (ns.map V.int)∧Q (.bl (ns.any fun n=>decide (n≠0))) H):=by subst h; exact zb hc
end
def kL (h:X.K=K):OpR X (FG .Add) (rX K):=by subst h; exact zQ
def tD (cmp:Nat→Nat→Bool) (n:Nat) (out:List Nat):Prop:=(n<2∧out=DJ n)∨(2≤n∧_srt.SortsTo cmp n out)
def zg (K:cy) (sp:Sp) (ta:TA):TE:=fun σ H Q=>ta σ H fun vs H1=>∃ (l:Addr) (xs:List V) (cmp:Nat→Nat→Bool) (out:List Nat),vs=[.ref l]∧SqL K H1 l xs∧xs.length≤1000∧out.length≤1000∧tD cmp xs.length out ∧
 ∀ D kS H0,Same H1 H0→H1 D=none→H1 kS=none→D≠kS→H0 D=none→H0 kS=some (.lst [])→kZ sp kS (fun ks H'=>H' D=none→(∃ z:Nat→K3,(∀ i v,ks[i]?=some v→iZ K H' v (z i))∧∀ i j,i<xs.length→j<xs.length→cmp i j=_ht.key_lt (z i) (z j)) ∧
   Q (.ref D) (upd (upd H' kS (.lst [])) D (.lst (out.map fun i=>xs.getD i .non)))) xs [] H0
section
variable {X:Cx} {x y:Str} {p0 p1 pos kp:Pos} {e:Expr} {ta:TA} {j k:Nat} {ps:List Str} {sp:Sp}
def wg (hg:Gl X "sorted") (hm:X.mg "sorted"=none) (hv:Eg "sorted"=some (.builtin "sorted")) (ha:PA X [e] ta) (C:Cal X.prog X.w X.K X.mg X.base CX0 y j ps sp) (hr:Room k X.A) (hy:Gl X y) (hj:j+2≤k) (hdb:(y == ("__debug__":Str))=false:=by decide)
  (h1:backTo pos (DK [e] X.env)=(false,eval e X.env)::backTo pos (DK [] X.env):=by rfl) (h2:(backTo pos (DK [e] X.env)).any (·.1)=false:=by rfl) :
  PE X (.Call (.Name "sorted" p0) [e] [⟨some "key",.Name y p1,kp⟩] pos) (zg X.K sp ta):=by
 intro pins s σ H Q I h
 obtain⟨f,fd,F,b,kpp,m⟩:=C.ex
 refine E4 (jM I hg hm hv ?_ (by decide) (by decide))
 refine callWith_kw (thn (ha pos pins s σ H _ I h) fun us s1 ⟨vs,H1,I1,r1,q1⟩=>?_) h1 h2
 obtain⟨l,xs,cmp,out,rfl,hl,hz,ho,hs,hrun⟩:=q1
 obtain⟨u,rfl,ru⟩:=vals1 r1
 cases ru
 refine kws_cons (jl I1 hy m (kws_nil ?_) hdb)
 exact wJ I1 hl hz F (hr.mono hj) b hs ho hrun
end
structure Apart3 (z TI TO i1 i2 i3:Addr) (f1 f2 f3:List Addr):Prop where
 zTI:z≠TI
 zTO:z≠TO
 TITO:TI≠TO
 TI1:TI≠i1
 TI2:TI≠i2
 TI3:TI≠i3
 m1:i1∈f1
 m2:i2∈f2
 m3:i3∈f3
 z1:z ∉ f1
 z2:z ∉ f2
 z3:z ∉ f3
 t1:TO ∉ f1
 t2:TO ∉ f2
 t3:TO ∉ f3
 i12:i1 ∉ f2
 i13:i1 ∉ f3
 i21:i2 ∉ f1
 i23:i2 ∉ f3
 i31:i3 ∉ f1
 i32:i3 ∉ f2
end _l
namespace _sru
open PySem PyProof.Rows _srt
structure SY where
 prog:Dz
 w:World
 A:Around
 E:Value→Shared→Prop
 s:Shared
 κ:SortKind
 item:Nat→Keyed
 n:Nat
 rk:Nat→Int
 lt:∀ (i j:Nat),i<n→j<n→i≠j→∀ (Q:Bool→Shared→Prop) (E':Value→Shared→Prop),Q (decide (rk i<rk j)) s→wpAny (model prog w) A (keyLt' κ (item i).1 (item j).1) Q E' s
 inj:∀ i j,i<n→j<n→rk i=rk j→i=j
noncomputable def em (Y:SY) (q:Array Nat) (pd:Array (Nat×Nat×Nat)) (g:Nat):SortSt:=EZ Y.κ (q.map Y.item) pd g none
noncomputable def ky (Y:SY) (q:Array Nat) (i:Nat):Int:=Y.rk (q.getD i 0)
def Up (Y:SY) (q:Array Nat) (k:Nat):Prop:=∀ i j,i<j→j<k→ky Y q i<ky Y q j
def Dn (Y:SY) (q:Array Nat) (k:Nat):Prop:=∀ i j,i<j→j<k→ky Y q j<ky Y q i
structure Pq (Y:SY) (q:Array Nat):Prop where
 p:q.toList.Perm (DJ Y.n)
section
variable {Y:SY} {q:Array Nat} {pd:Array (Nat×Nat×Nat)} {g:Nat}
def Pq.sz (h:Pq Y q):q.size=Y.n:=by
 have:=h.p.length_eq
 simpa using this
def Pq.at (h:Pq Y q) {i:Nat} (hi:i<Y.n):q[i]?=some (q.getD i 0)∧q.getD i 0<Y.n:=by
 have hz:=h.sz
 have e:q[i]?=some (q.getD i 0):=by
  rw[EV,Array.getElem?_eq_getElem (by exact Oz20 hi hz)]
  rfl
 refine⟨e,?_⟩
 have m:q.getD i 0∈q.toList:=by
  have:=Array.mem_of_getElem? e
  simpa using this
 exact ES.mp (h.p.mem_iff.mp m)
def Pq.ne (h:Pq Y q) {i j:Nat} (hi:i<Y.n) (hj:j<Y.n) (hn:i≠j):ky Y q i≠ky Y q j:=by
 intro e
 have hz:=h.sz
 have e1:=Y.inj _ _ (h.at hi).2 (h.at hj).2 e
 have nd:q.toList.Nodup:=h.p.nodup_iff.mpr List.nodup_range
 have a1:=(h.at hi).1
 have a2:=(h.at hj).1
 rw[e1,← a2] at a1
 rw[← Fw,← Fw] at a1
 exact hn ((G0 (by simpa using (by exact Oz20 hi hz:i<q.size)) nd).mp a1)
def Pq.ne2 (h:Pq Y q) {i j:Nat} (hi:i<Y.n) (hj:j<Y.n) (hn:i≠j):q.getD i 0≠q.getD j 0:=fun e=>h.ne hi hj hn (congrArg Y.rk e)
def Pq.mirror (h:Pq Y q) (i j d:Nat):Pq Y (mirror q i j d):=⟨(HM.mp (mirror_perm q i j d)).trans h.p⟩
def Pq.bubble (h:Pq Y q) (i d:Nat):Pq Y (bubble q i d):=⟨(HM.mp (bubble_perm q i d)).trans h.p⟩
def lZ {i j:Nat} {Q:Option Bool→SortSt→Prop} (h:Pq Y q) (hi:i<Y.n) (hj:j<Y.n) (hn:i≠j) (hq:Q (some (decide (ky Y q i<ky Y q j))) (em Y q pd g)):wpS (model Y.prog Y.w) Y.A Y.E Y.s (ltAt' i j) Q (em Y q pd g):=by
 have a1:=h.at hi
 have a2:=h.at hj
 rw[ltAt'_eq]
 refine Ew (JB ?_)
 have g1:(q.map Y.item)[i]?=some (Y.item (q.getD i 0)):=by rw[GQ,a1.1]; rfl
 have g2:(q.map Y.item)[j]?=some (Y.item (q.getD j 0)):=by rw[GQ,a2.1]; rfl
 show wpS _ _ _ _ (elem' (q.map Y.item) i >>= fun x=>elem' (q.map Y.item) j >>= fun y=>lt' x y) _ _
 rw[elem'_eq,elem'_eq,g1,g2]
 refine Ew (EU (Ew (EU ?_)))
 rw[lt'_eq]
 refine Ew (JB (Ew (wpS_lift (GM (Y.lt _ _ a1.2 a2.2 (h.ne2 hi hj hn) _ _ ?_)))))
 exact⟨rfl,EU hq⟩
def w_rev {i j:Nat} {Q:Unit→SortSt→Prop} (hq:Q () (em Y (mirror q i j ((j-i) / 2)) pd g)):wpS (model Y.prog Y.w) Y.A Y.E Y.s (reverseSlice' i j) Q (em Y q pd g):=by
 refine JP ?_
 have:mirror (q.map Y.item) i j ((j-i) / 2)=(mirror q i j ((j-i) / 2)).map Y.item:=jN Y.item _ _ _ _
 show Q () (EZ Y.κ (mirror (q.map Y.item) i j ((j-i) / 2)) pd g none)
 rw[this]
 exact hq
def B6 {i j:Nat} {Q:Unit→SortSt→Prop} (hq:Q () (em Y (bubble q i (i-j)) pd g)):wpS (model Y.prog Y.w) Y.A Y.E Y.s (moveDown' i j) Q (em Y q pd g):=by
 refine JP ?_
 have:bubble (q.map Y.item) i (i-j)=(bubble q i (i-j)).map Y.item:=jN Y.item _ _ _ _
 show Q () (EZ Y.κ (bubble (q.map Y.item) i (i-j)) pd g none)
 rw[this]
 exact hq
def oF {q':Array Nat} {i j:Nat} (h:q'[i]?=q[j]?):ky Y q' i=ky Y q j:=by
 unfold ky
 rw[EV,EV,h]
def xV {n:Nat} (hz:n≤q.size) (h:Dn Y q n):Up Y (mirror q 0 n ((n-0) / 2)) n:=by
 intro i j hij hj
 have e1:ky Y (mirror q 0 n ((n-0) / 2)) i=ky Y q (n-1-i):=oF (by rw[getElem?_mirror_all hz,if_pos ⟨by exact Oz107,by omega⟩]; congr 1; exact Oz15)
 have e2:ky Y (mirror q 0 n ((n-0) / 2)) j=ky Y q (n-1-j):=oF (by rw[getElem?_mirror_all hz,if_pos ⟨by exact Oz107,by exact Oz22 hj⟩]; congr 1; exact Oz15)
 rw[e1,e2]
 exact h _ _ (by omega) (by omega)
def Bq {k:Nat} (h:Up Y q k) (hl:k=0∨ky Y q (k-1)<ky Y q k):Up Y q (k+1):=by
 intro i j hij hj
 rcases Nat.lt_or_ge j k with h1 | h1
 ·exact h i j hij h1
 ·have:j=k:=by exact Oz72 hj h1
  subst this
  rcases hl with rfl | hl
  ·exact Oz106 hij
  ·rcases Nat.lt_or_ge i (j-1) with h2 | h2
   ·exact JY (h i (j-1) h2 (by exact Oz73 hij)) hl
   ·rw[show i=j-1 by exact Oz68 hij h2]; exact hl
def vp {k:Nat} (h:Dn Y q k) (hl:ky Y q k<ky Y q (k-1)):Dn Y q (k+1):=by
 intro i j hij hj
 rcases Nat.lt_or_ge j k with h1 | h1
 ·exact h i j hij h1
 ·have:j=k:=by exact Oz72 hj h1
  subst this
  rcases Nat.lt_or_ge i (j-1) with h2 | h2
  ·exact JY hl (h i (j-1) h2 (by exact Oz73 hij))
  ·rw[show i=j-1 by exact Oz68 hij h2]; exact hl
def yC {ρ:Type} {a:Nat} {Q:Option (Option Nat)×Nat→SortSt→Prop} (hp:Pq Y q) (h1:1≤a) (ha:a≤Y.n) (hu:Up Y q a)
  (hq:∀ k,a≤k→k≤Y.n→Up Y q k→(k=Y.n∨(k<Y.n∧ky Y q k<ky Y q (k-1)))→Q (none,k) (em Y q pd g)) :
  wpS (model Y.prog Y.w) Y.A Y.E Y.s (forIn [a:Y.n] ((none:Option (Option Nat)),a) fun _ r=>do
   let some smaller ← ltAt' (0+r.2) (0+r.2-1) | pure (ForInStep.done (some none,r.2))
   if smaller=true then pure (ForInStep.done (none,r.2)) else pure (ForInStep.yield (none,r.2+1))) Q (em Y q pd g):=by
 refine G6 (I:=fun i c st=>c=(none,i)∧st=em Y q pd g∧Up Y q i) (fun i c st h2 h3 hI=>?_) (fun c st hI=>?_) ⟨rfl,rfl,hu⟩
 ·obtain⟨rfl,rfl,hu⟩:=hI
  simp only [Nat.zero_add]
  refine Ew (lZ hp (by exact Oz22 h3) (by exact Oz8 h3) (by omega) ?_)
  dsimp only
  by_cases hc:ky Y q i<ky Y q (i-1)
  ·rw[if_pos (by simpa using hc)]
   exact EU (hq i h2 (by exact Oz102 h3) hu (.inr ⟨h3,hc⟩))
  ·rw[if_neg (by simpa using hc)]
   refine EU ⟨rfl,rfl,Bq hu (.inr ?_)⟩
   have:=hp.ne (i:=i-1) (j:=i) (by exact Oz8 h3) h3 (by omega)
   exact Oz19 hc this
 ·obtain⟨rfl,rfl,hu⟩:=hI
  rw[show max a Y.n=Y.n by omega] at hu ⊢
  exact hq _ ha (Nat.le_refl _) hu (.inl rfl)
def w_count {Q:Option Nat→SortSt→Prop} (hp:Pq Y q) (h1:1≤Y.n) (hq:∀ q' k,Pq Y q'→1≤k→k≤Y.n→Up Y q' k→Q (some k) (em Y q' pd g)) :
  wpS (model Y.prog Y.w) Y.A Y.E Y.s (countRun' 0 Y.n) Q (em Y q pd g):=by
 rw[countRun'_eq]
 refine Ew (yC (ρ:=Nat) hp (Nat.le_refl 1) h1 (fun i j h2 h3=>by exact Oz88 h2 h3) fun k k1 kn hu hk=>?_)
 dsimp only
 rcases hk with rfl | ⟨kl,hd⟩
 ·rw[if_pos (by simp)]
  exact EU (hq q _ hp k1 (Nat.le_refl _) hu)
 rw[if_neg (by simp; omega)]
 by_cases k2:k > 1
 ·rw[if_pos k2]
  refine Ew (lZ hp (by omega) (by omega) (by omega) ?_)
  dsimp only
  rw[if_pos (by rw[Nat.zero_add]; simpa using hu 0 (k-1) (by omega) (by omega))]
  exact EU (hq q k hp k1 kn hu)
 rw[if_neg k2]
 have:k=1:=by omega
 subst this
 refine Ew (wpS_lift (Ig ⟨rfl,?_⟩))
 refine Ew (wpS_mono (G6 (I:=fun i c st=>c=(none,i,0)∧st=em Y q pd g∧Dn Y q i) (Q:=fun c st=>∃ k,c=(none,k,0)∧st=em Y q pd g∧Dn Y q k∧2≤k∧k≤Y.n) (fun i c st h2 h3 hI=>?_) (fun c st hI=>?_) ⟨rfl,rfl,?_⟩) ?_)
 ·obtain⟨rfl,rfl,hu⟩:=hI
  simp only [Nat.zero_add]
  refine Ew (lZ hp (by exact Oz22 h3) (by exact Oz8 h3) (by omega) ?_)
  dsimp only
  by_cases hc:ky Y q i<ky Y q (i-1)
  ·rw[if_pos (by simpa using hc),if_neg (by omega)]
   exact EU ⟨rfl,rfl,vp hu hc⟩
  ·rw[if_neg (by simpa using hc)]
   refine Ew (lZ hp (by exact Oz8 h3) (by exact Oz22 h3) (by exact Oz66 h2) ?_)
   dsimp only
   have:=hp.ne (i:=i-1) (j:=i) (by exact Oz8 h3) h3 (by exact Oz66 h2)
   rw[if_pos (by simp; exact Oz19 hc this)]
   exact EU ⟨i,rfl,rfl,hu,by omega,by exact Oz102 h3⟩
 ·obtain⟨rfl,rfl,hu⟩:=hI
  rw[show max (1+1) Y.n=Y.n by omega] at hu ⊢
  exact⟨_,rfl,rfl,hu,by omega,Nat.le_refl _⟩
 ·exact vp (fun i j h2 h3=>by exact Oz88 h2 h3) hd
 ·rintro c st ⟨k,rfl,rfl,hD,k2',kn'⟩
  dsimp only
  rw[if_neg (by omega)]
  refine Ew (w_rev ?_)
  rw[Nat.zero_add]
  have hp':=hp.mirror 0 k ((k-0) / 2)
  have hu':=xV (by rw[hp.sz]; exact kn') hD
  refine Ew (yC (ρ:=Nat) hp' (by omega) kn' hu' fun k3 k31 k3n hu3 _=>?_)
  dsimp only
  exact EU (hq _ k3 hp' (by omega) k3n hu3)
def xR {k l:Nat} (hk:k<q.size) (hl:l≤k) (hu:Up Y q k) (h1:∀ i,i<l→ky Y q i<ky Y q k) (h2:∀ i,l≤i→i<k→ky Y q k<ky Y q i):Up Y (bubble q k (k-l)) (k+1):=by
 have at':∀ i,ky Y (bubble q k (k-l)) i=if i=l then ky Y q k else if l<i∧i≤k then ky Y q (i-1) else ky Y q i:=fun i=>by
  have:=getElem?_bubble hk (k-l) (by omega) i
  rw[show k-(k-l)=l by omega] at this
  split
  ·next h=>rw[if_pos h] at this; exact oF this
  ·next h =>
   rw[if_neg h] at this
   split
   ·next h'=>rw[if_pos h'] at this; exact oF this
   ·next h'=>rw[if_neg h'] at this; exact oF this
 intro i j hij hj
 rw[at',at']
 by_cases e1:i=l
 ·rw[if_pos e1,if_neg (by omega),if_pos ⟨by omega,by exact Oz103 hj⟩]
  exact h2 _ (by omega) (by exact Oz21 hij hj)
 rw[if_neg e1]
 by_cases e2:j=l
 ·rw[if_pos e2,if_neg (by omega)]
  exact h1 i (by exact Oz93 hij e2)
 rw[if_neg e2]
 by_cases e3:l<i∧i≤k
 ·rw[if_pos e3,if_pos ⟨by omega,by exact Oz103 hj⟩]
  exact hu _ _ (by omega) (by exact Oz21 hij hj)
 rw[if_neg e3]
 by_cases e4:l<j∧j≤k
 ·rw[if_pos e4]
  exact hu _ _ (by omega) (by exact Oz21 hij hj)
 ·rw[if_neg e4]
  exact hu _ _ (by exact Oz22 hij) (by omega)
def CV {ok:Nat} {Q:Bool→SortSt→Prop} (hp:Pq Y q) (h1:1≤ok) (hok:ok≤Y.n) (hu:Up Y q ok) (hq:∀ q',Pq Y q'→Up Y q' Y.n→Q true (em Y q' pd g)) :
  wpS (model Y.prog Y.w) Y.A Y.E Y.s (binarySort' 0 Y.n ok) Q (em Y q pd g):=by
 rw[binarySort'_eq]
 refine Ew (wpS_mono (G6 (I:=fun i c st=>c=(none,())∧∃ q',st=em Y q' pd g∧Pq Y q'∧Up Y q' i) (Q:=fun c st=>c=(none,())∧∃ q',st=em Y q' pd g∧Pq Y q'∧Up Y q' Y.n) (fun k c st h2 h3 hI=>?_) (fun c st hI=>?_) ⟨rfl,q,rfl,hp,?_⟩) ?_)
 ·obtain⟨rfl,q1,rfl,hp1,hu1⟩:=hI
  simp only [Nat.zero_add]
  refine Ew (wpS_mono (G6 (I:=fun i c st=>st=em Y q1 pd g∧∃ l r:Nat,c=(none,l,r)∧l≤r∧r≤k∧r-l≤k-i∧(∀ j,j<l→ky Y q1 j<ky Y q1 k)∧∀ j,r≤j→j<k→ky Y q1 k<ky Y q1 j) (Q:=fun c st=>st=em Y q1 pd g∧∃ l r:Nat,c=(none,l,r)∧l≤k∧(∀ j,j<l→ky Y q1 j<ky Y q1 k)∧∀ j,l≤j→j<k→ky Y q1 k<ky Y q1 j) (fun i c st h4 h5 hI=>?_) (fun c st hI=>?_) ⟨rfl,0,k,rfl,Nat.zero_le _,Nat.le_refl _,by omega,(fun j hj=>by exact Oz106 hj),fun j hj hj2=>by omega⟩) ?_)
  ·obtain⟨rfl,l,r,rfl,hlr,hrk,hm,ha,hb⟩:=hI
   dsimp only
   by_cases hge:l ≥ r
   ·rw[if_pos hge]
    exact EU ⟨rfl,l,r,rfl,by exact Oz75 hlr hrk,ha,fun j hj hj2=>hb j (by omega) hj2⟩
   rw[if_neg hge]
   refine Ew (lZ hp1 (by exact Oz22 h3) (by exact Oz58 h3 hrk hge) (by omega) ?_)
   dsimp only
   by_cases hc:ky Y q1 k<ky Y q1 ((l+r) / 2)
   ·rw[if_pos (by simpa using hc)]
    refine EU ⟨rfl,l,(l+r) / 2,rfl,by omega,by omega,by omega,ha,fun j hj hj2=>?_⟩
    rcases Nat.eq_or_lt_of_le hj with e | h
    ·rw[← e]; exact hc
    ·exact JY hc (hu1 _ _ h hj2)
   ·rw[if_neg (by simpa using hc)]
    refine EU ⟨rfl,(l+r) / 2+1,r,rfl,by omega,hrk,by omega,fun j hj=>?_,hb⟩
    have ne:=hp1.ne (i:=(l+r) / 2) (j:=k) (by exact Oz58 h3 hrk hge) h3 (by omega)
    rcases Nat.eq_or_lt_of_le (show j≤(l+r) / 2 by omega) with e | h
    ·rw[e]; exact Oz19 hc ne
    ·have:=hu1 j ((l+r) / 2) h (by omega)
     omega
  ·obtain⟨rfl,l,r,rfl,hlr,hrk,hm,ha,hb⟩:=hI
   rw[show max 0 k=k by omega] at hm
   exact⟨rfl,l,r,rfl,by exact Oz75 hlr hrk,ha,fun j hj hj2=>hb j (by omega) hj2⟩
  ·rintro c st ⟨rfl,l,r,rfl,hl,ha,hb⟩
   dsimp only
   refine Ew (B6 (EU ⟨rfl,_,rfl,hp1.bubble k (k-l),xR (by rw[hp1.sz]; exact h3) hl hu1 ha hb⟩))
 ·obtain⟨rfl,q1,rfl,hp1,hu1⟩:=hI
  rw[show max (max ok 1) Y.n=Y.n by omega] at hu1
  exact⟨rfl,q1,rfl,hp1,hu1⟩
 ·rw[show max ok 1=ok by omega]
  exact hu
 ·rintro c st ⟨rfl,q1,rfl,hp1,hu1⟩
  exact EU (hq q1 hp1 hu1)
def w_runs {Q:Unit→SortSt→Prop} (hp:Pq Y q) (h1:1≤Y.n) (h64:Y.n<64) (hq:∀ q' pd' g',Pq Y q'→Up Y q' Y.n→Q () (em Y q' pd' g')) :
  wpS (model Y.prog Y.w) Y.A Y.E Y.s sortRuns' Q (em Y q #[] g):=by
 rw[sortRuns'_eq]
 refine Ew (JB ?_)
 have hsz:(arrOf (em Y q #[] g)).size=Y.n:=by
  show (q.map Y.item).size=Y.n
  rw[Array.size_map,hp.sz]
 rw[hsz]
 have hmr:minRun' Y.n Y.n 0=Y.n:=by
  obtain⟨f,hf⟩:∃ f,Y.n=f+1:=⟨Y.n-1,by omega⟩
  have:=minRun'_succ f Y.n 0
  rw[← hf,if_pos h64] at this
  exact this
 dsimp only
 rw[hmr]
 refine Ew (wpS_mono (G6 (I:=fun i c st=>(i=0∧c=(none,0)∧st=em Y q #[] g)∨(c=(none,Y.n)∧∃ q',st=em Y q' #[(0,Y.n,0)] g∧Pq Y q'∧Up Y q' Y.n)) (Q:=fun c st=>c=(none,Y.n)∧∃ q',st=em Y q' #[(0,Y.n,0)] g∧Pq Y q'∧Up Y q' Y.n) (fun i c st h2 h3 hI=>?_) (fun c st hI=>?_) (.inl ⟨rfl,rfl,rfl⟩)) ?_)
 ·rcases hI with ⟨rfl,rfl,rfl⟩ | ⟨rfl,q1,rfl,hp1,hu1⟩
  ·dsimp only
   rw[if_neg (by omega),Nat.sub_zero]
   refine Ew (w_count hp h1 fun q1 k hp1 k1 kn hu1=>?_)
   dsimp only
   have fin:∀ q2,Pq Y q2→Up Y q2 Y.n→wpS (model Y.prog Y.w) Y.A Y.E Y.s (modify (fun s=>setPending s ((F8 s).push (0,Y.n,0))) >>= fun _=>pure (ForInStep.yield ((none:Option Unit),0+Y.n))) (fun r st'=>match r with | .done c'=>c'=(none,Y.n)∧∃ q',st'=em Y q' #[(0,Y.n,0)] g∧Pq Y q'∧Up Y q' Y.n | .yield c'=>(0+1=0∧c'=(none,0)∧st'=em Y q #[] g)∨(c'=(none,Y.n)∧∃ q',st'=em Y q' #[(0,Y.n,0)] g∧Pq Y q'∧Up Y q' Y.n)) (em Y q2 #[] g):=fun q2 hp2 hu2=>by
    refine Ew (JP (EU (.inr ⟨by rw[Nat.zero_add],q2,rfl,hp2,hu2⟩)))
   by_cases hk:k<Y.n
   ·rw[if_pos hk]
    refine Ew (wpS_lift (Ig ⟨rfl,?_⟩))
    rw[show min Y.n Y.n=Y.n by omega]
    refine Ew (CV hp1 k1 kn hu1 fun q2 hp2 hu2=>?_)
    rw[if_neg (by decide)]
    refine Ew (JB ?_)
    exact fin q2 hp2 hu2
   ·rw[if_neg hk]
    have:k=Y.n:=by exact Oz10 kn hk
    rw[this] at hu1 ⊢
    refine Ew (JB ?_)
    exact fin q1 hp1 hu1
  ·dsimp only
   rw[if_pos (Nat.le_refl _)]
   exact EU ⟨rfl,q1,rfl,hp1,hu1⟩
 ·rcases hI with ⟨z,rfl,rfl⟩ | h
  ·omega
  ·exact h
 ·rintro c st ⟨rfl,q1,rfl,hp1,hu1⟩
  dsimp only
  refine Ew (wpS_mono (G6 (I:=fun i c st=>c=(none,())∧st=em Y q1 #[(0,Y.n,0)] g) (Q:=fun c st=>c=(none,())∧st=em Y q1 #[(0,Y.n,0)] g) (fun i c st h2 h3 hI=>?_) (fun c st hI=>hI) ⟨rfl,rfl⟩) ?_)
  ·obtain⟨rfl,rfl⟩:=hI
   refine Ew (JB ?_)
   rw[if_pos (show (F8 (em Y q1 #[(0,Y.n,0)] g)).size≤1 from Nat.le_refl 1)]
   exact EU ⟨rfl,rfl⟩
  ·rintro c st ⟨rfl,rfl⟩
   exact EU (hq _ _ _ hp1 hu1)
end
end _sru
namespace _sru
structure Ord (lt:Nat→Nat→Bool) (n:Nat):Prop where
 ir:∀ i,i<n→lt i i=false
 tr:∀ i j k,i<n→j<n→k<n→lt i j=true→lt j k=true→lt i k=true
 to:∀ i j,i<n→j<n→i≠j→lt i j=true∨lt j i=true
noncomputable def rank (lt:Nat→Nat→Bool) (n i:Nat):Int:=((DJ n).countP fun j=>lt j i:Nat)
def xY {l:List Nat} {p q:Nat→Bool} (h:∀ x∈l,p x=true→q x=true) {y:Nat} (hy:y∈l) (h1:p y=false) (h2:q y=true):l.countP p<l.countP q:=by
 induction l with
 | nil=>cases hy
 | cons x xs ih =>
  have hle:xs.countP p≤xs.countP q:=List.countP_mono_left fun z hz hp=>h z (.tail _ hz) hp
  rcases Du.mp hy with e | hy
  ·subst e
   rw[IA (by rw[h1]; decide),GR h2]
   omega
  ·have:=ih (fun z hz=>h z (.tail _ hz)) hy
   cases hp:p x with
   | true =>
    rw[GR hp,GR (h x (.head _) hp)]
    exact Oz108 this
   | false =>
    rw[IA (by rw[hp]; decide)]
    have:xs.countP q≤(x::xs).countP q:=List.Sublist.countP_le (List.sublist_cons_self ..)
    omega
def m7 {lt:Nat→Nat→Bool} {n i j:Nat} (o:Ord lt n) (hi:i<n) (hj:j<n) (h:lt i j=true):rank lt n i<rank lt n j:=by
 have:(DJ n).countP (fun x=>lt x i)<(DJ n).countP (fun x=>lt x j) :=
  xY (fun x hx hp=>o.tr x i j (ES.mp hx) hi hj hp h) (ES.mpr hi) (o.ir i hi) h
 unfold rank
 exact Oz44 this
def rank_iff {lt:Nat→Nat→Bool} {n i j:Nat} (o:Ord lt n) (hi:i<n) (hj:j<n):decide (rank lt n i<rank lt n j)=lt i j:=by
 cases h:lt i j with
 | true=>exact decide_eq_true (m7 o hi hj h)
 | false =>
  refine decide_eq_false fun z=>?_
  by_cases e:i=j
  ·subst e; omega
  ·rcases o.to i j hi hj e with h' | h'
   ·rw[h] at h'; cases h'
   ·have:=m7 o hj hi h'
    omega
def rank_inj {lt:Nat→Nat→Bool} {n i j:Nat} (o:Ord lt n) (hi:i<n) (hj:j<n) (h:rank lt n i=rank lt n j):i=j:=by
 by_cases e:i=j
 ·exact e
 ·rcases o.to i j hi hj e with h' | h'
  ·have:=m7 o hi hj h'; omega
  ·have:=m7 o hj hi h'; omega
noncomputable def lexI:List Int→List Int→Bool
 | _,[]=>false
 | [],_::_=>true
 | x::xs,y::ys=>if x=y then lexI xs ys else decide (x<y)
theorem qg:∀ xs,lexI xs xs=false
 | []=>rfl
 | x::xs=>by
  unfold lexI
  rw[if_pos rfl]
  exact qg xs
theorem vL:∀ {xs ys zs},lexI xs ys=true→lexI ys zs=true→lexI xs zs=true
 | _,[],_,h,_=>by unfold lexI at h; cases h
 | _,_::_,[],_,h=>by unfold lexI at h; cases h
 | [],_::_,_::_,_,_=>rfl
 | x::xs,y::ys,z::zs,h1,h2=>by
  unfold lexI at h1 h2 ⊢
  by_cases e1:x=y
  ·subst e1
   rw[if_pos rfl] at h1
   by_cases e2:x=z
   ·rw[if_pos e2] at h2 ⊢
    exact vL h1 h2
   ·rw[if_neg e2] at h2 ⊢
    exact h2
  ·rw[if_neg e1] at h1
   have h1:=of_decide_eq_true h1
   by_cases e2:y=z
   ·subst e2
    rw[if_neg e1]
    exact decide_eq_true h1
   ·rw[if_neg e2] at h2
    have h2:=of_decide_eq_true h2
    rw[if_neg (by omega)]
    exact decide_eq_true (by omega)
theorem u5:∀ {xs ys},xs≠ys→lexI xs ys=true∨lexI ys xs=true
 | [],[],h=>absurd rfl h
 | [],_::_,_=>.inl rfl
 | _::_,[],_=>.inr rfl
 | x::xs,y::ys,h=>by
  unfold lexI
  by_cases e:x=y
  ·subst e
   rw[if_pos rfl,if_pos rfl]
   exact u5 fun z=>h (by rw[z])
  ·rw[if_neg e,if_neg (E6 e)]
   rcases Int.lt_or_gt_of_ne e with h | h
   ·exact .inl (decide_eq_true h)
   ·exact .inr (decide_eq_true h)
def ord_lex {ks:List (List Int)} (nd:ks.Nodup):Ord (fun i j=>lexI (ks.getD i []) (ks.getD j [])) ks.length where
 ir:=fun i _=>qg _
 tr:=fun _ _ _ _ _ _=>vL
 to:=fun i j hi hj hn=>u5 fun e=>hn ((G0 hi nd).mp (by
  rw[Dm hi,Dm hj]
  simpa [Er,hi,hj] using e))
end _sru
namespace _l
open PySem PySem.Spec PyProof.Rows
section
variable {X:Cx} {pins:List (Addr×Obj)} {σ:St} {H:Hp} {s:Shared}
theorem nU (I:Inv X pins σ H s):∀ (ks:List V) (us:List Value),Vals ks us→(∀ k∈ks,∃ p n r,k=.ref p∧SqT X.K H p (.int n::r))→∃ fs,PySem.W.KatTups s.heap us fs∧fs.length=us.length∧∀ f∈fs,∃ n t,f=Value.int n t
 | _,_,.nil,_=>⟨[],PySem.W.KatTups.nil,rfl,fun _ h=>nomatch h⟩
 | _,_,.cons (a:=k) (l₁:=ks) rk r,h=>by
  obtain⟨fs,t,l,q⟩:=nU I ks _ r fun k' hk'=>h k' (DI _ hk')
  obtain⟨p,n,rest,rfl,P1⟩:=h _ DX
  cases rk
  obtain⟨it1,r1,t1,_⟩:=I.tuple P1
  cases r1 with
  | cons a1 a2 =>
   obtain⟨u1,rfl⟩:=a1
   obtain⟨o1,ho1,hc1,n1,hd1⟩:=id t1
   refine⟨.int n u1::fs,PySem.W.KatTups.cons ho1 hc1 hd1 rfl t,by simp [l],fun f hf=>?_⟩
   rcases Du.mp hf with rfl | hf
   ·exact⟨_,_,rfl⟩
   ·exact q f hf
def uh {l:Addr} {lt:Nat→Nat→Bool} (I:Inv X pins σ H s) (hh:X.A.handled=none) (hl:SqL X.K H l xs) (h64:xs.length<64) (o:_sru.Ord lt xs.length)
  (first:∀ k∈xs,∃ p n r,k=.ref p∧SqT X.K H p (.int n::r))
  (cmp:∀ (s':Shared),Inv X pins σ H s'→∀ (i j:Nat) (x y:V) (u v:Value),i≠j→xs[i]?=some x→xs[j]?=some y→RelV x u→RelV y v→∀ (Q':Bool→Shared→Prop) (E':Value→Shared→Prop),Q' (lt i j) s'→wpAny (model X.prog X.w) X.A.in1.in1 (keyLt' (Jb true) u v) Q' E' s')
  (h:∀ (D:Addr) (out:List Nat),H D=none→out.Perm (DJ xs.length)→(∀ (i j a b:Nat),i<j→out[i]?=some a→out[j]?=some b→lt a b=true)→Q (.ref D) (upd H D (.lst (out.map fun i=>xs.getD i .non)))) :
  wpAny (model X.prog X.w) X.A (call (.builtin "sorted") [.ref l]) (EP X pins σ Q) E s:=by
 obtain⟨its,rv,pl,hzz⟩:=I.list hl
 have len:=rv.length
 have hil:its.length≤1000:=by omega
 have hsl:its.length≤sizeLine:=by rw[EL]; omega
 have pl':s.heap.IsList l its.toArray:=pl.isList
 refine Gg (Ff plain_sorted entry_sorted (PySem._sortd.check_sorted ?_))
 unfold Gx.«sorted»
 refine wo (m:=checkCount "sorted" 1 1 _) (Do ?_)
 refine wo (collect_list pl' ?_ hsl)
 refine wo (Iw ?_ hsl)
 have fT:FpOk X pins H s.heap.objs.size:=I.fpOk (Nat.le_refl _) (I.hok.fresh (Nat.le_refl _))
 have I0:Inv X pins σ H { s with heap:=s.heap.push (seqObj "list" #[] 0) }:=I.kept (t':=s.toks) fun b o e=>Dl _ e
 have I1:Inv X pins σ H { s with heap:=(s.heap.push (seqObj "list" #[] 0)).update s.heap.objs.size (Eh (·++its.toArray)) }:=by
  obtain⟨f0,f1,f2,f3,f4,f5⟩:=fT
  exact I0.turned (t':=s.toks) (fun b o hb e=>(En _ _ (E6 hb)).trans e) f0 f1 f3 f4 f5
 obtain⟨s1,hs1⟩:∃ s1:Shared,s1={ s with heap:=(s.heap.push (seqObj "list" #[] 0)).update s.heap.objs.size (Eh (·++its.toArray)) }:=⟨_,rfl⟩
 rw[← hs1] at I1 ⊢
 have fD:FpOk X pins H s1.heap.objs.size:=I1.fpOk (Nat.le_refl _) (I1.hok.fresh (Nat.le_refl _))
 have I2:Inv X pins σ H { s1 with heap:=s1.heap.push { cls:=.type "list",data:=.seq its.toArray } }:=I1.kept (t':=s1.toks) fun b o e=>Dl _ e
 have hoD:(s1.heap.push { cls:=.type "list",data:=.seq its.toArray }).get? s1.heap.objs.size=some (seqObj "list" its.toArray 0):=Dr _ rfl
 obtain⟨D,hD⟩:∃ D,D=s1.heap.objs.size:=⟨_,rfl⟩
 obtain⟨s2,hs2⟩:∃ s2:Shared,s2={ s1 with heap:=s1.heap.push { cls:=.type "list",data:=.seq its.toArray } }:=⟨_,rfl⟩
 have hoD':s2.heap.get? D=some (seqObj "list" its.toArray 0):=by rw[hs2,hD]; exact hoD
 rw[← hs2] at I2 ⊢
 rw[← hD] at fD ⊢
 clear hoD
 refine wo (EK (Gg (Ff F.slot_list_sort.plain entry_list_sort (F.slot_list_sort.check _ _ _ _ _ _ _ _ ⟨_,hoD',rfl⟩ (args_list_sort _) ?_))))
 show wpAny (model X.prog X.w) X.A.in1.in1 (Gx.«list.sort» ⟨[.ref D],[]⟩) _ _ _
 rw[list_sort_plain]
 refine wo (listItems_at hoD' rfl ?_)
 obtain⟨e1,ho1⟩:∃ e1,(s2.heap.update D (Eh fun _=>(#[]:Array Value))).get? D=some (seqObj "list" #[] e1):=⟨_,HD hoD' fun _=>#[]⟩
 refine wo (Gk hoD' rfl ?_ (by rw[Dk]; exact hsl) (Nat.zero_le _))
 obtain⟨d0,d1,d2,d3,d4,d5⟩:=id fD
 have I3:Inv X pins σ H { s2 with heap:=s2.heap.update D (Eh fun _=>(#[]:Array Value)) }:=I2.turned (t':=s2.toks) (fun b o hb e=>(En _ _ (E6 hb)).trans e) d0 d1 d3 d4 d5
 refine wo (Iz ho1 rfl ?_)
 refine wo (wpAny_newTuple ?_ hsl)
 show wpAny _ _ _ _ _ { s2 with heap:=(s2.heap.update D (Eh fun _=>(#[]:Array Value))).push { cls:=.type "tuple",data:=.seq its.toArray } }
 have I4:Inv X pins σ H { s2 with heap:=(s2.heap.update D (Eh fun _=>(#[]:Array Value))).push { cls:=.type "tuple",data:=.seq its.toArray } }:=I3.kept (t':=s2.toks) fun b o e=>Dl _ e
 have ho2:=Dl { cls:=.type "tuple",data:=.seq its.toArray } ho1
 obtain⟨s4,hs4⟩:∃ s4:Shared,s4={ s2 with heap:=(s2.heap.update D (Eh fun _=>(#[]:Array Value))).push { cls:=.type "tuple",data:=.seq its.toArray } }:=⟨_,rfl⟩
 have ho3:s4.heap.get? D=some (seqObj "list" #[] e1):=by rw[hs4]; exact ho2
 rw[← hs4] at I4 ⊢
 refine wo (Iw ?_ (Nat.zero_le _))
 refine EK ?_
 have I5:Inv X pins σ H { s4 with heap:=s4.heap.push { cls:=.type "list",data:=.seq ([]:List Value).toArray } }:=I4.kept (t':=s4.toks) fun b o e=>Dl _ e
 have ho4:=Dl { cls:=.type "list",data:=.seq ([]:List Value).toArray } ho3
 obtain⟨s5,hs5⟩:∃ s5:Shared,s5={ s4 with heap:=s4.heap.push { cls:=.type "list",data:=.seq ([]:List Value).toArray } }:=⟨_,rfl⟩
 have ho5:s5.heap.get? D=some (seqObj "list" #[] e1):=by rw[hs5]; exact ho4
 rw[← hs5] at I5 ⊢
 have tail:∀ out:List Nat,out.Perm (DJ xs.length)→(∀ (i j a b:Nat),i<j→out[i]?=some a→out[j]?=some b→lt a b=true)→∀ (tk:Nat),∃ v H',Inv X pins σ H' { s5 with heap:=s5.heap.update D (Eh fun _=>(out.map fun i=>its.getD i Value.none).toArray),toks:=tk }∧RelV v (Value.ref D)∧Q v H':=fun out hp hs tk=>by
  have I9:=I5.turned (t':=tk) (h':=s5.heap.update D (Eh fun _=>(out.map fun i=>its.getD i Value.none).toArray)) (fun b o hb e=>(En _ _ (E6 hb)).trans e) d0 d1 d3 d4 d5
  obtain⟨c2,hc2⟩:∃ c2,(s5.heap.update D (Eh fun _=>(out.map fun i=>its.getD i Value.none).toArray)).get? D=some (seqObj "list" (out.map fun i=>its.getD i Value.none).toArray c2):=⟨_,HD ho5 fun _=>_⟩
  have lo:out.length=xs.length:=by rw[hp.length_eq,DW]
  exact⟨.ref D,_,I9.heldO (u0:=.lst (out.map fun i=>xs.getD i .non)) d0 (by rw[hD]; exact Hl I1.sz) d1 d4 d5 ⟨by rw[iz,EL]; omega,out.map fun i=>its.getD i Value.none,c2,mz rv out,hc2⟩,rfl,h D out d0 hp hs⟩
 dsimp only
 by_cases h2:its.toArray.size<2
 ·rw[if_pos h2,if_pos h2]
  refine wo (Do ?_)
  rw[StateT.run_pure]
  refine wo (Do ?_)
  dsimp only
  have eo:(its.toArray.zip its.toArray).map (·.2)=((DJ xs.length).map fun i=>its.getD i Value.none).toArray:=by
   rw[Hj,kM its its rfl,len]
   simp
  show wpAny _ _ (seqEpoch D >>= fun c=>Iv (Value.ref D) (fun _=>(its.toArray.zip its.toArray).map (·.2)) >>= _) _ _ _
  rw[eo]
  refine wo (Iz ho5 rfl ?_)
  refine wo (Gk ho5 rfl ?_ (Nat.zero_le _) (by rw[Dk,iz,DW,EL]; exact Oz63 h64))
  simp only [bne_self_eq_false,E5,if_false]
  refine Do (Do (tail _ (List.Perm.refl _) (fun i j a b hij ha hb=>?_) _))
  have h3:=(yp.mp hb).1
  rw[DW] at h3
  rw[Dk] at h2
  omega
 ·rw[if_neg h2,if_neg h2]
  rw[Dk] at h2
  obtain⟨fs,tt,lf,hf⟩:=nU I5 xs its rv first
  refine wo (J4 tt (by omega) (fun v hv=>by obtain⟨n,t,rfl⟩:=hf v hv; exact G5 rfl) rfl ?_)
  rw[show (Value.type "int" != Value.type "tuple")=true from by decide]
  have hlt:∀ (i j:Nat),i<xs.length→j<xs.length→i≠j→∀ (Q':Bool→Shared→Prop) (E':Value→Shared→Prop),Q' (decide (_sru.rank lt xs.length i<_sru.rank lt xs.length j)) s5→wpAny (model X.prog X.w) X.A.in1.in1 (keyLt' (Jb true) (its.getD i Value.none) (its.getD j Value.none)) Q' E' s5:=by
   intro i j hi hj hn Q' E' hq'
   rw[_sru.rank_iff o hi hj] at hq'
   obtain⟨x,ex⟩:∃ x,xs[i]?=some x:=⟨_,Dm hi⟩
   obtain⟨y,ey⟩:∃ y,xs[j]?=some y:=⟨_,Dm hj⟩
   obtain⟨u,eu,ru⟩:=rv.get ex
   obtain⟨v,ev,rv'⟩:=rv.get ey
   have e1:its.getD i Value.none=u:=by simp [Er,eu]
   have e2:its.getD j Value.none=v:=by simp [Er,ev]
   rw[e1,e2]
   exact cmp s5 I5 i j x y u v hn ex ey ru rv' Q' E' hq'
  obtain⟨Y,hY⟩:∃ Y:_sru.SY,Y={ prog:=X.prog,w:=X.w,A:=X.A.in1.in1,E:=E,s:=s5,κ:=Jb true,item:=fun i=>(its.getD i Value.none,its.getD i Value.none),n:=xs.length,rk:=_sru.rank lt xs.length,inj:=fun i j hi hj e=>_sru.rank_inj o hi hj e,lt:=hlt }:=⟨_,rfl⟩
  have est:EZ (Jb true) (its.toArray.zip its.toArray) #[] 7 none=_sru.em Y (JC xs.length) #[] 7:=by
   rw[hY]
   show EZ _ _ _ _ _=EZ _ _ _ _ _
   congr 1
   rw[Hj,kM its its rfl]
   show _=(JC xs.length).map fun i=>(its.getD i Value.none,its.getD i Value.none)
   rw[len,← List.toArray_range,List.map_toArray]
  have hW:=_sru.w_runs (Y:=Y) (q:=JC xs.length) (g:=7) (Q:=fun _ st=>∃ q':Array Nat,_sru.Pq Y q'∧_sru.Up Y q' Y.n∧(arrOf st).map (·.2)=(q'.toList.map fun i=>its.getD i Value.none).toArray∧failedOf st=none) ⟨by rw[hY]; simp⟩ (by rw[hY]; show 1≤xs.length; omega) (by rw[hY]; exact h64) (fun q' pd' g' hp hu=>⟨q',hp,hu,by
   show (q'.map Y.item).map (·.2)=_
   rw[hY]
   cases q'
   simp,rfl⟩)
  rw[est]
  have hW':wpAny (model X.prog X.w) X.A.in1.in1 (sortRuns'.run (_sru.em Y (JC xs.length) #[] 7)) (fun r s2=>s2=s5∧∃ q':Array Nat,_sru.Pq Y q'∧_sru.Up Y q' Y.n∧(arrOf r.2).map (·.2)=(q'.toList.map fun i=>its.getD i Value.none).toArray∧failedOf r.2=none) E s5:=by
   have:=hW
   rw[hY] at this ⊢
   exact this
  refine wo (Eo hW' ?_ fun _ _ e=>e)
  rintro⟨⟨⟩,st'⟩ s'' ⟨rfl,q',hp,hu,eo,ef⟩
  dsimp only at eo ef ⊢
  rw[eo]
  have hpp:q'.toList.Perm (DJ xs.length):=by
   have:=hp.p
   rw[hY] at this
   exact this
  refine wo (Iz ho5 rfl ?_)
  refine wo (Gk ho5 rfl ?_ (Nat.zero_le _) (by rw[Dk,iz,hpp.length_eq,DW,EL]; exact Oz63 h64))
  rw[ef]
  simp only [bne_self_eq_false,E5,if_false]
  refine Do (Do (tail _ hpp (fun i j a b hij ha hb=>?_) _))
  have hb':=(yp.mp hb).1
  rw[hpp.length_eq,DW] at hb'
  have hu':=hu i j hij (by rw[hY]; exact hb')
  have ka:_sru.ky Y q' i=_sru.rank lt xs.length a:=by
   unfold _sru.ky
   rw[EV,← Fw,ha,hY]
   rfl
  have kb:_sru.ky Y q' j=_sru.rank lt xs.length b:=by
   unfold _sru.ky
   rw[EV,← Fw,hb,hY]
   rfl
  rw[ka,kb] at hu'
  have la:a<xs.length:=ES.mp (hpp.mem_iff.mp (Ds ha))
  have lb:b<xs.length:=ES.mp (hpp.mem_iff.mp (Ds hb))
  rw[← _sru.rank_iff o la lb]
  exact decide_eq_true hu'
theorem tG {prog:Dz} {w:World} {A:Around} {b:Bool} {Q:Bool→Shared→Prop} {s:Shared}:∀ {us vs:List Value} {ks ks':List Int} (i:Nat) (fin:Bool),GL us ks→GL vs ks'→fin=decide (us.length<vs.length)→Q (_sru.lexI ks ks') s→PySem.W.KatLex prog w A b fin Q (us.zip vs) i s
 | _,_,_,_,i,_,.nil,.nil,rfl,h=>HB h
 | _,_,_,_,i,_,.nil,.cons y u h2,rfl,h=>by
  rw[List.zip_nil_left]
  refine HB ?_
  rw[decide_eq_true (by simp)]
  exact h
 | _,_,_,_,i,_,.cons x t h1,.nil,rfl,h=>by
  rw[List.zip_nil_right]
  refine HB ?_
  rw[decide_eq_false (by simp)]
  exact h
 | _,_,_,_,i,_,.cons (ns:=ks) x t h1,.cons (ns:=ks') y u h2,rfl,h=>by
  rw[HU]
  refine Hi (HQ _ t _ u _ _ _ _ ?_)
  unfold _sru.lexI at h
  by_cases e0:x=y
  ·rw[if_pos e0] at h
   rw[show (x == y)=true by simp [e0]]
   exact HA (tG (i+1) _ h1 h2 (by rw[DF,DF,decide_eq_decide]; omega) h)
  ·rw[if_neg e0] at h
   rw[show (x == y)=false by simp [e0]]
   refine HY ?_
   cases (b && i == 0) with
   | true=>exact oneLt_int h
   | false=>exact Jc _ _ (P.lt_int h)
def zR {p q:Addr} {ks ks':List Int} (I:Inv X pins σ H s) (P1:SqT X.K H p (ks.map V.int)) (P2:SqT X.K H q (ks'.map V.int)) (Q:Bool→Shared→Prop) (E:Value→Shared→Prop) (h:Q (_sru.lexI ks ks') s):wpAny (model X.prog X.w) A (keyLt' (Jb true) (.ref p) (.ref q)) Q E s:=by
 obtain⟨it1,r1,t1,_⟩:=I.tuple P1
 obtain⟨it2,r2,t2,_⟩:=I.tuple P2
 obtain⟨o1,ho1,_,n1,hd1⟩:=id t1
 obtain⟨o2,ho2,_,n2,hd2⟩:=id t2
 refine PySem.W.kat_lt ho1 hd1 ho2 hd2 ?_
 exact tG 0 _ (ints_are r1) (ints_are r2) (by rw[Dk,Dk]) h
def Nums (K:cy) (H:Hp) (xs:List V) (ks:List (List Int)):Prop:=xs.length=ks.length∧∀ (i:Nat) (x:V) (k:List Int),xs[i]?=some x→ks[i]?=some k→∃ p,x=.ref p∧SqT K H p (k.map V.int)
end
section
variable {X:Cx}
def sQ (hc:X.calm=true):gU X (.builtin "sorted") (fun xs H Q=>∃ (p:Addr) (vs:List V) (ks:List (List Int)),xs=[.ref p]∧SqL X.K H p vs∧Nums X.K H vs ks∧ks.Nodup∧(∀ k∈ks,k≠[])∧ks.length<64∧∀ (D:Addr) (out:List Nat),H D=none→out.Perm (DJ ks.length)→(out.map fun i=>ks.getD i []).Pairwise (fun a b=>_sru.lexI a b=true)→Q (.ref D) (upd H D (.lst (out.map fun i=>vs.getD i .non)))):=by
 intro pins s σ H xs us Q I r h
 obtain⟨p,vs,ks,rfl,hq,⟨ln,hn⟩,nd,ne,h64,q⟩:=h
 obtain⟨u,rfl,rx⟩:=vals1 r
 cases rx
 refine uh (lt:=fun i j=>_sru.lexI (ks.getD i []) (ks.getD j [])) I (I.ok.hd hc) hq (by omega) (by rw[ln]; exact _sru.ord_lex nd) (fun k hk=>?_) (fun s' I' i j x y u v hij ex ey ru rv Q' E' hq'=>?_) fun D out hD hp hs=>?_
 ·obtain⟨i,hi⟩:=Et.mp hk
  have li:=(yp.mp hi).1
  obtain⟨z,hz⟩:∃ z,ks[i]?=some z:=⟨_,Dm (by exact Oz13 ln li)⟩
  obtain⟨p',rfl,hp'⟩:=hn i k z hi hz
  cases z with
  | nil=>exact absurd rfl (ne _ (Ds hz))
  | cons n r=>exact⟨p',n,_,rfl,hp'⟩
 ·have li:=(yp.mp ex).1
  have lj:=(yp.mp ey).1
  obtain⟨k1,z1⟩:∃ z,ks[i]?=some z:=⟨_,Dm (by exact Oz13 ln li)⟩
  obtain⟨k2,z2⟩:∃ z,ks[j]?=some z:=⟨_,Dm (by exact Oz13 ln lj)⟩
  obtain⟨p1,rfl,h1⟩:=hn i x k1 ex z1
  obtain⟨p2,rfl,h2⟩:=hn j y k2 ey z2
  cases ru
  cases rv
  have e1:ks.getD i []=k1:=by rw[Er,z1]; rfl
  have e2:ks.getD j []=k2:=by rw[Er,z2]; rfl
  rw[e1,e2] at hq'
  exact zR I' h1 h2 Q' E' hq'
 ·refine q D out hD (by rw[← ln]; exact hp) ?_
  rw[List.pairwise_map]
  exact List.pairwise_iff_getElem.mpr fun i j hi hj hij=>hs i j _ _ hij (Dm hi) (Dm hj)
end
def vv (tk tv:TE):TE:=fun σ H Q=>∀ p,H p=none→tk σ (upd H p (.dT [])) fun x H1=>tv σ H1 fun y H2=>∃ (b:Addr) (k:List Key),x=.ref b∧H2 b=some (.tup (k.map kV))∧H2 p=some (.dT [])∧Q (.ref p) (upd H2 p (.dT [(k,y)]))
def yJ {X:Cx} {ke ve:Expr} {tk tv:TE} {pos:Pos} (hu:X.A.units+1<cLine) (hk:PE X ke tk) (hv:PE X ve tv):PE X (.Dict [some ke] [ve] pos) (vv tk tv):=by
 intro pins s σ H Q I h
 have hn:=I.hok.fresh (Nat.le_refl s.heap.objs.size)
 have I1:=I.laid (a:=s.heap.objs.size) (o:=.dT []) (h':=s.heap.push { cls:=.type "dict",data:=.dict #[] }) (t':=s.toks) (fun _ _ q=>Dl _ q) (Nat.le_refl _) (tw s.heap I.big)
 refine wpAny_Dict_any rfl rfl (by simp) (show 1≤15 by decide) (pairTrees_cons_walk ?_)
 refine thn (hk pins _ σ _ _ I1 (h _ hn)) fun u s1 ⟨x,H1,I2,rx,q1⟩=>?_
 refine thn (hv pins s1 σ H1 _ I2 q1) fun w s2 ⟨y,H2,I3,ry,b,k,ex,eb,ep,q⟩=>?_
 subst ex
 cases rx
 refine evalPairs_nil ?_
 obtain⟨z,hd,xs,rel,dd⟩:=Ar I3.hok ep
 cases rel
 unfold storeAll
 rw[Hv]
 refine wo (wo (wpAny_dictSet_heap (knd:=IQ (gI X.prog X.w)) (Nat.lt_of_succ_lt hu) (oH I3.hok eb) dd fun h' dd' hs=>Do ?_))
 show wpAny (model X.prog X.w) X.A (pure PUnit.unit) _ _ _
 refine Do ?_
 obtain⟨o',es,ep',ho',h2,h3,h4,h6,h5⟩:=dd'
 refine⟨.ref s.heap.objs.size,_,?_,rfl,q⟩
 refine o9 I3 (by rw[ep]; exact DY) hs ⟨o',ho'⟩ ⟨show 1≤sizeLine by decide,hd,_,((KT.put (H:=H2) (kvs:=[]) (xs:=[]) .nil k eb ry)).keeps fun c ys ec=>?_,o',es,ep',ho',h2,h3,h4,h5⟩
 rw[aZ (qW ec ep (fun z=>nomatch z))]
 exact ec
end _l
namespace _l
open PySem PySem.Spec PyProof.Rows
open PySem.W (Frag)
structure MkX (P:Dz) (w:World) (K:Frag) (mg:Str→Option Value) (base:Heap) (x:Str) (C:Addr) (k:Nat) (ps:List Str) (sp:Sp):Prop where
 ex:∃ f fd,Mk K C f∧FnOk P w K mg base (CXE P w) k f fd ps sp∧Binds K fd ps []
 at_:mg x=some (.ref C)
def AD (C:Addr) (sp:Sp) (t:TA) (i:Nat) (K:Frag) (CT:Addr) (ts:TS):TS:=fun D σ H=>t σ H fun vs H1=>∀ x dx,H1 x=none→H1 dx=none→dx≠x →
 sp (.ref x::vs) (upd (upd H1 dx (.own x)) x (.ins C dx [])) (fun v H2=>v=.non∧D.nx σ H2) fun c _ H2 =>
 ∃ D',c=.ref D'∧Gj K (.ref D') (.ref CT)=some true∧∀ a,H2 a=none→ts { nx:=fun _ _=>False,rt:=D.rt } (σ.set i (some (.ref a))) (upd H2 a (kU a D'))
section
variable {X:Cx} {x y n:Str} {j k i:Nat} {ps:List Str} {sp:Sp} {p pos tpos hpos np epos:Pos} {e:Expr} {es:List Expr} {t:TA} {C CT:Addr} {b₀:Stmt} {suite:List Stmt} {ts:TS}
def AJ (hcalm:X.calm=true) (hxe:X.xe=fun _ _=>False) (hstk:X.stack=X.env::X.outer) (hfr:X.env.frame=some X.env.locals)
  (M:MkX X.prog X.w X.K X.mg X.base x C j ps sp) (hr:Room k X.A) (hg:Gl X x) (ha:PA X (e::es) t) (hgy:Gl X y) (c:XCatch X.K X.mg y CT) (hN:X.N.Nodup) (hi:X.N[i]?=some n) (hlo:X.env.scope.names.lookup n=some .local) (hex:X.ex=[])
  (hsu:∀ a,PSs (X.suite a) (b₀::suite) ts) (hj:j+1≤k:=by decide) (hdb:(x == ("__debug__":Str))=false:=by decide) (hdy:(y == ("__debug__":Str))=false:=by decide)
  (he:DK (e::es) X.env=(false,eval e X.env)::DK es X.env:=by rfl) (hpl:(backTo pos (DK es X.env)).any (·.1)=false:=by rfl) (hsw:Ia (.Call (.Name x p) (e::es) [] pos) none epos.line X.env=pure false:=by rfl) :
  PS X (.Try [.Expr (.Call (.Name x p) (e::es) [] pos) epos] [.ExceptHandler (some (.Name y np)) (some n) (b₀::suite) hpos] [] [] tpos) (AD C sp t i X.K CT ts):=by
 intro pins s σ H D I h
 obtain⟨f,fd,MM,Fk,hb⟩:=M.ex
 have hr':=hr.mono hj
 refine wpAny_Try_except (IF (wpAny_Expr_any ?_ I.quiet hsw))
 refine E4 (jl I hg M.at_ ?_ hdb)
 refine GI (h₀:=X.base) I.ok.mod.kin MM.kp (Eo (ha pos pins s σ H _ I h) (fun us s0 ⟨vs,H0,I0,r,q0⟩=>⟨I0.kIn,?_⟩) (fun _ _ z=>by rw[hxe] at z; exact z.elim)) he hpl
 have q:=q0 (s0.heap.objs.size+1) s0.heap.objs.size (I0.hok.fresh (Nat.le_succ _)) (I0.hok.fresh (Nat.le_refl _)) (Nat.ne_of_lt (Nat.lt_succ_self _))
 have I1:=Inv.made (C:=C) I0
 have r2:Vals (V.ref (s0.heap.objs.size+1)::vs) (Value.ref (s0.heap.objs.size+1)::us):=.cons rfl r
 have hl:(Value.ref (s0.heap.objs.size+1)::us).length=ps.length:=by
  rw[← r2.length]
  exact Fk.len _ _ _ _ q
 have hb':=hb _ (Value.ref (s0.heap.objs.size+1)::us) I1.kIn (by rw[D9]; exact hl)
 rw[D9] at hb'
 refine Gg (sI (f:=f) I0.kIn MM.makes MM.init (beq_iff_eq.mp MM.fn) (F0 (Fk.run _ X.stack _ _ ⟨Value.ref (s0.heap.objs.size+1)::us,[]⟩ (Value.ref (s0.heap.objs.size+1)::us) _ _ _ (hr'.make C us []) (I1.env0.make C us []) hb' r2 q) fun res s' hq=>?_))
 cases res with
 | ok fl =>
  cases fl with
  | ret u =>
   obtain⟨v,H2,I2,rv,ev,q2⟩:=I1.after hq
   subst ev
   exact⟨rv,GE (GE ⟨σ,H2,I2,q2⟩)⟩
  | next=>exact EF hq
  | brk=>exact EF hq
  | cont=>exact EF hq
 | error ev =>
  obtain⟨a,D',H2,B,a0,rfl,Fl,⟨D2,hD,hsub,q2⟩⟩:=hq
  cases hD
  have hfr2:X.A.frames=some (X.env::X.outer):=by rw[← hstk]; exact I.ok.frames
  have Fl1:=Fl
  rw[hstk] at Fl1
  refine wpAny_looks_onW hfr2 hfr Fl1.fly fun h4 held4 up4=>wpAny_landsW held4 fun h5 fl5 up5=>?_
  have F5:=(by rw[hstk]; exact Fl1.on fl5 (up4.trans up5):Fly X.prog X.w X.stack _ _ B H2 a D' a0 { s' with heap:=h5 })
  have I5:=I1.caught F5
  have hsa:=Fl.fresh
  have hsa0:X.s₀.heap.get? a=none:=by
   cases q0:X.s₀.heap.get? a with
   | none=>rfl
   | some o0 =>
    obtain⟨o',e'⟩:=I1.base.there a o0 q0 (by rw[hex]; simp)
    rw[hsa] at e'
    cases e'
  refine wpAny_handleBy_cons (codeAny_handlers_test (jl (X:=X.suite a) (I5.suite a) hgy c.at_ ?_ hdy)) (by intro z; cases z)
  refine tE I5.kIn F5.excAt c.is c.ty c.mb hsub (codeAny_handlers_suite_as ?_)
  refine lands_againW F5.fly fun h6 fl6 up6=>?_
  have F6:=F5.on fl6 up6
  have I6:=I1.caught F6
  have hne:∀ {b o},Heap.get? _ b=some o→b≠a:=fun {b o} e z=>by rw[z,hsa] at e; cases e
  obtain⟨m1,⟨oL,_,_,hoL,_⟩,_⟩:=id I1.loc
  have J6:=I6.hold F6.excAt F6.new hsa0 (hne hoL).symm (fun x c e=>by
   obtain⟨v,o,ho,_⟩:=I1.cell x c e
   exact hne ho) (fun p hp=>hne (I1.pin p hp).1)
  refine nE J6 hN hi (.inl hlo) (v:=.ref a) rfl (fun s7 I7=>?_) (.inr hlo)
  refine Eo (hsu a pins s7 _ _ { nx:=fun _ _=>False,rt:=D.rt } (I7.suite a) (q2 a F6.new)) (fun fl s8 hq8=>?_) (fun _ _ z=>by
   have z':X.xe _ _:=z
   rw[hxe] at z'
   exact z'.elim)
  cases fl with
  | ret u =>
   obtain⟨v,σ8,H8,I8,r8,q8⟩:=hq8
   have I9:=I8.unsuite I.ok
   obtain⟨m8,hn8,_⟩:=id I9.loc
   exact wpAny_nameGoes hlo hn8 (by rw[I.ok.kind]; rfl) fun h9 m9 hn9 hs9=>⟨v,_,H8,I9.blank hn9 hs9,r8,q8⟩
  | next=>obtain⟨_,_,_,z⟩:=hq8; exact z.elim
  | brk=>obtain⟨_,_,_,z⟩:=hq8; exact z.elim
  | cont=>obtain⟨_,_,_,z⟩:=hq8; exact z.elim
end
end _l
namespace _l
open PySem PySem.Spec PyProof.Rows
open PySem.W (Frag)
structure ScV (N P:List Str) (st:Stmt):Prop where
 fs:FnScope N P (defScope st)
 vs:∀ x∈N,((defScope st).names.lookup x=some .local∨(defScope st).names.lookup x=some .cell)∧(x == ("__debug__":Str))=false∧(x == ("__classdict__":Str))=false
def Cr (N P:List Str) (sc:Scope):Bool:=(match sc.kind with | .function=>true | _=>false) && (!sc.isCoroutine && (!sc.isGenerator && (decide N.Nodup && (decide (N.take P.length=P) && (decide (∀ x∈P,sc.names.lookup x=some .local∨sc.names.lookup x=some .cell) && (decide (∀ y∈sc.names,y.2≠.free) && decide (∀ x∈N,(sc.names.lookup x=some .local∨sc.names.lookup x=some .cell)∧(x == ("__debug__":Str))=false∧(x == ("__classdict__":Str))=false)))))))
section
variable {N P:List Str} {st:Stmt}
def scv (h:Cr N P (defScope st)=true):ScV N P st:=by
 unfold Cr at h
 simp only [E8,decide_eq_true_eq,Bool.not_eq_true'] at h
 obtain⟨a,b,c,d,e,f,g,i⟩:=h
 have k:(defScope st).kind=.function:=by
  revert a
  cases (defScope st).kind <;> first | exact fun _=>rfl | exact fun h=>nomatch h
 exact⟨⟨k,b,c,d,e,f,g⟩,i⟩
def ScV.loc (S:ScV N P st) (i:Nat) {x:Str} (h:N[i]?=some x):Loc (defScope st) x:=(S.vs x (Ds h)).1
def ScV.nd (S:ScV N P st):N.Nodup:=S.fs.nd
def aR {X:Cx} {x:Str} {pos:Pos} (i:Nat) (S:ScV X.N P st) (h:(X.N[i]?,X.env.scope)=(some x,defScope st)):PE X (.Name x pos) (nM i):=by
 obtain⟨h1,h2⟩:=Fc h
 obtain⟨a,b,c⟩:=S.vs x (Ds h1)
 exact xZ h1 (by rw[h2]; exact a.imp id Or.inl) b c
def cM {X:Cx} {x:Str} {e:Expr} {te:TE} {pos pos':Pos} (i:Nat) (S:ScV X.N P st) (he:PE X e te) (h:(X.N[i]?,X.env.scope,yq e,X.fn x)=(some x,defScope st,true,true)):PS X (.Assign [.Name x pos'] e pos) (sS te (lB i)):=by
 obtain⟨h1,h'⟩:=Fc h
 obtain⟨h2,h'⟩:=Fc h'
 obtain⟨h3,h4⟩:=Fc h'
 exact zk S.nd h1 (by rw[h2]; exact S.loc i h1) he (fV h3) (.inl h4)
end
abbrev jy (x q:Str) (st:Stmt) (ps:List Str):Prop:=∀ (kV doc pm:Value) (an:Option Addr) (cdv ct:Value) (us:List Value),us.length=ps.length→bindArgs (Fv x q (defArgs st) (defBody st) (defScope st) .none kV doc pm an cdv ct) ⟨us,[]⟩=pure (ps.zip us)
section
variable {x q:Str} {st:Stmt} {a b c d e:Str}
abbrev Bnd (x q:Str) (st:Stmt) (us:List Value) (r:List (Str×Value)):Prop:=∀ (kV doc pm:Value) (an:Option Addr) (cdv ct:Value),bindArgs (Fv x q (defArgs st) (defBody st) (defScope st) .none kV doc pm an cdv ct) ⟨us,[]⟩=pure r
def bd1 (h:∀ u,Bnd x q st [u] [(a,u)]):jy x q st [a]:=fun _ _ _ _ _ _ us hl=>by
 cases us with
 | nil=>cases hl
 | cons u us=>cases us with
  | nil=>exact h u _ _ _ _ _ _
  | cons v us=>cases hl
def len2' {α:Type}:∀ {us:List α},us.length=2→∃ u v,us=[u,v]
 | [u,v],_=>⟨u,v,rfl⟩
def len3' {α:Type}:∀ {us:List α},us.length=3→∃ u v w,us=[u,v,w]
 | [u,v,w],_=>⟨u,v,w,rfl⟩
def bd2 (h:∀ u v,Bnd x q st [u,v] [(a,u),(b,v)]):jy x q st [a,b]:=fun _ _ _ _ _ _ us hl=>by
 obtain⟨u,v,rfl⟩:=len2' hl
 exact h u v _ _ _ _ _ _
def bd3 (h:∀ u v w,Bnd x q st [u,v,w] [(a,u),(b,v),(c,w)]):jy x q st [a,b,c]:=fun _ _ _ _ _ _ us hl=>by
 obtain⟨u,v,w,rfl⟩:=len3' hl
 exact h u v w _ _ _ _ _ _
def len4' {α:Type}:∀ {us:List α},us.length=4→∃ u v w y,us=[u,v,w,y]
 | [u,v,w,y],_=>⟨u,v,w,y,rfl⟩
def bd4 (h:∀ u v w y,Bnd x q st [u,v,w,y] [(a,u),(b,v),(c,w),(d,y)]):jy x q st [a,b,c,d]:=fun _ _ _ _ _ _ us hl=>by
 obtain⟨u,v,w,y,rfl⟩:=len4' hl
 exact h u v w y _ _ _ _ _ _
end
inductive GD (K:Frag) (x:Str) (st:Stmt) (f:Addr):Prop
 | mk {oc kV dc pm cd ct:Value} {od an:Option Addr} {sl:Array (Option Value)}:Ei K DR x=some (some (.ref f))→K.lookup f=some ⟨oc,od,.func (Fv x x (defArgs st) (defBody st) (defScope st) .none kV dc pm an cd ct),sl⟩→G1 K cd x=true→Es K (.ref f)=true→GD K x st f
inductive MD (K:Frag) (C:Addr) (x q:Str) (st:Stmt) (f:Addr):Prop
 | mk {oc kV dc pm cd ct:Value} {od an:Option Addr} {sl:Array (Option Value)}:DG K (.ref C) x=some (some (.ref f))→K.lookup f=some ⟨oc,od,.func (Fv x q (defArgs st) (defBody st) (defScope st) .none kV dc pm an cd ct),sl⟩→G1 K cd q=true→Es K (.ref f)=true→HP K (.ref f)=true→MD K C x q st f
inductive OC (K:Frag) (c:Addr):Prop
 | mk:Gr K c Str.empty=true→GV K c=true→Ic K c=true→DG K (.ref c) "__setattr__"=some (some (.builtin "object.__setattr__"))→GG K c=true→Es K (.ref c)=true→OC K c
section
variable {P:Dz} {w:World} {K:Frag} {h:Heap} {mg:Str→Option Value} {base:Heap} {CX:CXT} {x q:Str} {st:Stmt} {f C D:Addr} {k:Nat} {ps:List Str} {sp:Sp}
def OC.cls (o:OC K C):Cls K C:=by
 obtain⟨a,b,c,d,_,_⟩:=o
 exact⟨a,b,c,d⟩
def OC.mk0 (o:OC K C) (i:DG K (.ref C) "__init__"=some (some (.builtin "object.__init__"))):Mk0 K C:=by
 obtain⟨a,b,c,d,e,g⟩:=o
 exact⟨e,i,g⟩
def GD.calR (X:K.In h) (G:h.Ns DR mg) (g:GD K x st f) (ok:∀ {fd},Fun K x x st f fd→Binds K fd ps []→Es K (.ref f)=true→mg x=some (.ref f)→FnOk P w K mg base CX k f fd ps sp) (b:jy x x st ps):Cal P w K mg base CX x k ps sp:=by
 obtain⟨a,l,c,kk⟩:=g
 have F:=kW l c kk
 exact⟨⟨_,_,ok F (F.binds b) kk (IB X G a),F.binds b,kk,IB X G a⟩⟩
def GD.cal (X:K.In h) (G:h.Ns DR mg) (g:GD K x st f) (ok:∀ {fd},Fun K x x st f fd→FnOk P w K mg base CX k f fd ps sp) (b:jy x x st ps):Cal P w K mg base CX x k ps sp:=g.calR X G (fun F _ _ _=>ok F) b
def GD.top {y:Str} (X:K.In h) (G:h.Ns DR mg) (hfa:mg x=some (.ref fa)) (g:GD K x st f) (b:∀ u,Bnd x x st [u] [(y,u)]) (ok:∀ (base:Heap) {fd:DU},Fun K x x st f fd→FnOk P w K mg base CX k f fd ps sp):∃ fd:DU,(∀ (s:Shared) (v:Value),IS s fd ⟨[v],[]⟩ [(y,v)])∧∀ base:Heap,K.In base→base.Ns DR mg→FnOk P w K mg base CX k fa fd ps sp:=by
 obtain⟨a,l,c,kk⟩:=g
 have e:=hfa.symm.trans (IB X G a)
 cases e
 exact⟨_,fun s v=>.of_eq (b v _ _ _ _ _ _),fun base _ _=>ok base (kW l c kk)⟩
theorem MD.a (m:MD K C x q st f):DG K (.ref C) x=some (some (.ref f)):=by
 obtain⟨a,_⟩:=m
 exact a
def MD.exI (m:MD K D x q st f) (i:DG K (.ref C) x=some (some (.ref f))) (ok:∀ {fd},Fun K x q st f fd→FnOk P w K mg base CX k f fd ps sp) (b:jy x q st ps):∃ f fd,Meth K C x f∧FnOk P w K mg base CX k f fd ps sp∧Binds K fd ps []:=by
 obtain⟨a,l,c,kk,t⟩:=m
 have F:=kW l c kk
 exact⟨_,_,⟨i,t,kk⟩,ok F,F.binds b⟩
def MD.ex (m:MD K C x q st f) (ok:∀ {fd},Fun K x q st f fd→FnOk P w K mg base CX k f fd ps sp) (b:jy x q st ps):∃ f fd,Meth K C x f∧FnOk P w K mg base CX k f fd ps sp∧Binds K fd ps []:=m.exI m.a ok b
def MD.mkI (m:MD K D "__init__" q st f) (o:OC K C) (A:mg x=some (.ref C)) (i:DG K (.ref C) "__init__"=some (some (.ref f))) (ok:∀ {fd},Fun K "__init__" q st f fd→FnOk P w K mg base CX0 k f fd ps sp) (b:jy "__init__" q st ps):MkC P w K mg base x C k ps sp:=by
 obtain⟨_,_,_,_,e,g⟩:=o
 obtain⟨a,l,c,kk,t⟩:=m
 have F:=kW l c kk
 exact⟨⟨_,_,⟨e,i,t,g⟩,ok F,F.binds b⟩,A⟩
def MD.mkC (m:MD K C "__init__" q st f) (o:OC K C) (A:mg x=some (.ref C)) (ok:∀ {fd},Fun K "__init__" q st f fd→FnOk P w K mg base CX0 k f fd ps sp) (b:jy "__init__" q st ps):MkC P w K mg base x C k ps sp:=m.mkI o A m.a ok b
def MD.mkX (m:MD K C "__init__" q st f) (o:OC K C) (A:mg x=some (.ref C)) (ok:∀ {fd},Fun K "__init__" q st f fd→FnOk P w K mg base (CXE P w) k f fd ps sp) (b:jy "__init__" q st ps):MkX P w K mg base x C k ps sp:=by
 obtain⟨_,_,_,_,e,g⟩:=o
 obtain⟨a,l,c,kk,t⟩:=m
 have F:=kW l c kk
 exact⟨⟨_,_,⟨e,a,t,g⟩,ok F,F.binds b⟩,A⟩
end
end _l
namespace _l
open PySem PySem.Spec PyProof.Rows
open PySem.Builtin
def xq:fillsNumberSlot (.type "tuple") "mul"=pure false :=
 PySem.fillsNumberSlot_seq (id:="tuple.__mul__") (r:=some (.builtin "tuple.__rmul__")) GT.lookup (by decide +kernel) IC.lookup (by decide +kernel)
def xj:seqRepeat? (.type "tuple")=pure (some (.builtin "tuple.__mul__")):=by
 unfold seqRepeat?
 rw[PySem.seqSlot_of (T:="tuple") (name:="__mul__") (id:="tuple.__mul__") GT.lookup (by decide +kernel),PySem.seqSlot_of (T:="tuple") (name:="__rmul__") (id:="tuple.__rmul__") IC.lookup (by decide +kernel)]
 rfl
def z8 (a:Int) (t:Tok) (l:Addr) (its:Array Value) (n:Nat) (d:Option Addr) (sl:Array (Option Value)) :
  Meets (Gx.«int.__rmul__» ⟨[.int a t,.ref l],[]⟩) (fun _ R s=>s.heap.get? l=some { cls:=.type "tuple",dict:=d,data:=.seq its n,slots:=sl }∧R (.ok (.ret Value.notImplemented)) s) :=
 .of_wp fun prog w A R s h=>by
  obtain⟨hp,g,d,tk,os⟩:=s
  obtain⟨hl,h⟩:=h
  wp_walk
  exact⟨_,rfl,h⟩
def zq (l:Addr) (v:Value) (n:Nat) (d:Option Addr) (sl:Array (Option Value)) (u:Tok) :
  Meets (Gx.«tuple.__mul__» ⟨[.ref l,.int 2 u],[]⟩) (fun _ R s=>s.heap.get? l=some { cls:=.type "tuple",dict:=d,data:=.seq #[v] n,slots:=sl }∧R (.ok (.ret (Value.ref s.heap.objs.size))) { s with heap:=s.heap.push { cls:=.type "tuple",data:=.seq #[v,v] } }) :=
 .of_wp fun prog w A R s h=>by
  obtain⟨hp,g,d,tk,os⟩:=s
  obtain⟨hl,h⟩:=h
  wp_walk
  exact⟨_,rfl,h⟩
def za (K:cy):R2:=fun x y H Q=>∃ (p:Addr) (a:V),x=.ref p∧y=.int 2∧SqT K H p [a]∧∀ q,H q=none→Q (.ref q) (upd H q (.tup [a,a]))
def Aa:OpR X (FG .Mult) (za X.K):=by
 intro pins s σ H x y v u Q I rx ry h
 obtain⟨p,a,rfl,rfl,hp,q⟩:=h
 cases rx
 obtain⟨t,rfl⟩:=ry
 obtain⟨its,r,⟨⟨cls,d,data,sl⟩,ho,hc,k,hd⟩,hz⟩:=I.tuple hp
 simp only at hc hd
 subst hc hd
 cases r with
 | cons ra rn =>
  cases rn
  refine wpAny_binaryOp_repeat_ref (T:="tuple") (U:="int") (by decide) ⟨_,ho,rfl⟩ (fun s'=>typeIs_int s' 2 t) xq PySem.F.fills_int_mul Jd xj PySem.F.slot_int_index.lookup
   (Gh Jd (typeIs_int s 2 t) PySem.F.entry_int_rmul (PySem.F.args_int_rmul_2 _ _) (z8 2 t p _ k d sl)
    ⟨ho,rfl,⟨_,ho,rfl⟩,Gh GT ⟨_,ho,rfl⟩ PySem.F.entry_tuple_mul (PySem.F.args_tuple_mul_2 _ _) (zq p _ k d sl t) ⟨ho,?_⟩⟩)
  refine⟨.ref s.heap.objs.size,_,I.laid (t':=s.toks) (o:=.tup [a,a]) (fun b ob q=>Dl _ q) (Nat.le_refl _) ?_,rfl,q _ (I.hok.fresh (Nat.le_refl _))⟩
  exact⟨(show 2≤sizeLine by decide),_,.cons ra (.cons ra .nil),J5 _ _,_,Dr _ rfl,rfl⟩
end _l
namespace _tb
open PySem _l PyProof.Rows
abbrev Dc:=List (Str×Int)
noncomputable def ks (d:Dc):List Str:=d.map (·.1)
noncomputable def gt:Dc→Str→Int
 | [],_=>0
 | p::d,k=>if p.1=k then p.2 else gt d k
noncomputable def sm (d:Dc):Int:=(d.map (·.2)).sum
noncomputable def cs (rows:Dc) (s:Str):Int:=(rows.map fun p=>if p.1=s then p.2 else 0).sum
end _tb
namespace _mthl
noncomputable def pk (ws:List Int) (w:Int) (i:Nat):Bool:=decide (0<ws.getD i 0∧ws.getD i 0≤w∧∀ j,j<i→ws.getD j 0≠ws.getD i 0)
noncomputable def rk (ws:List Int) (w:Int):Nat:=((DJ ws.length).filter (pk ws w)).length
def first {w:Int} (h:w∈ws):∃ i,i<ws.length∧ws.getD i 0=w∧∀ j,j<i→ws.getD j 0≠w:=by
 induction ws with
 | nil=>cases h
 | cons a ws ih =>
  by_cases e:a=w
  ·exact⟨0,Nat.zero_lt_succ _,e,fun j hj=>absurd hj (Nat.not_lt_zero _)⟩
  ·obtain⟨i,h1,h2,h3⟩:=ih ((Du.mp h).resolve_left fun z=>e z.symm)
   refine⟨i+1,Nat.succ_lt_succ h1,h2,fun j hj=>?_⟩
   cases j with
   | zero=>exact e
   | succ j=>exact h3 j (Nat.lt_of_succ_lt_succ hj)
def pk_true {w:Int} {i:Nat}:pk ws w i=true↔0<ws.getD i 0∧ws.getD i 0≤w∧∀ j,j<i→ws.getD j 0≠ws.getD i 0:=decide_eq_true_iff
def below (w:Int):(∀ o∈ws,0<o→w≤o)∨∃ v∈ws,0<v∧v<w∧∀ o∈ws,o<w→o≤v:=by
 induction ws with
 | nil=>exact .inl fun o ho=>by cases ho
 | cons a ws ih =>
  by_cases ha:0<a∧a<w
  ·rcases ih with ih | ⟨v,h1,h2,h3,h4⟩
   ·refine .inr ⟨a,DX ..,ha.1,ha.2,fun o ho hl=>?_⟩
    rcases Du.mp ho with rfl | ho
    ·exact Int.le_refl _
    ·by_cases h0:0<o
     ·have:=ih o ho h0
      omega
     ·omega
   ·by_cases hv:a≤v
    ·refine .inr ⟨v,DI _ h1,h2,h3,fun o ho hl=>?_⟩
     rcases Du.mp ho with rfl | ho
     ·exact hv
     ·exact h4 o ho hl
    ·refine .inr ⟨a,DX ..,ha.1,ha.2,fun o ho hl=>?_⟩
     rcases Du.mp ho with rfl | ho
     ·exact Int.le_refl _
     ·have:=h4 o ho hl
      omega
  ·rcases ih with ih | ⟨v,h1,h2,h3,h4⟩
   ·refine .inl fun o ho h0=>?_
    rcases Du.mp ho with rfl | ho
    ·omega
    ·exact ih o ho h0
   ·refine .inr ⟨v,DI _ h1,h2,h3,fun o ho hl=>?_⟩
    rcases Du.mp ho with rfl | ho
    ·omega
    ·exact h4 o ho hl
noncomputable def look (ws:List Int):List Int:=ws.map fun w=>(rk ws w:Int)
def look_len (ws:List Int):(look ws).length=ws.length:=iz ..
end _mthl
namespace _mth
noncomputable def cell (ns:List Int) (k:Int):Int :=
 if k<(ns.length:Int) then ns.getD k.toNat 0 % 10 ^ 60
 else (if 0<(ns.length:Int) then ns.getD (k * 7 % (ns.length:Int)).toNat 0 % 10 ^ 60 * 48271+k * k * 69621 else 7919 * k+5) % 2147483647 * 16807 % 2147483629
def gcd (a b:Int):Int:=(Int.gcd a b:Nat)
structure IsShare (t b x y:Int):Prop where
 pos:0<y
 low:gcd x y=1
 eq:x * b=t * y
 le1:x.natAbs≤t.natAbs
 le2:y.natAbs≤b.natAbs
noncomputable def tot (s r:Int×Int):Int×Int:=(s.1 * r.2+r.1 * s.2,s.2 * r.2)
structure Low (T:Int×Int) (x y:Int):Prop where
 pos:0<y
 low:gcd x y=1
 eq:x * T.2=T.1 * y
end _mth
set_option maxHeartbeats 4000000
open PySem _l
local macro_rules | `(tactic| trivial)=>`(tactic| ((try dsimp only [Av,yE,Aw,AD,za,zg,Ct,vv,BP,BR,xo,yN,yM,z4,AB,AC,vG,sj,yk,yG,yD,Co,iOr,rIx,CG,Cb,rJoin,zV,jT,slots,Option.getD_some,Option.getD_none,wR,mq,sS,lB,tOp,tUn,tC,nM,tCB,xO,zY,nV,rI,rI0,rU,zC,Bw,v5,tB,Cz,tOr,CC,Ai,Cy,An,sF,As,Ao,BF,CF,AE,tSl,Au,vd,Ac,Ay,Cp,Bu,Aq,tBM,uR,rEq,rNe,BN,vY,tM,zP,BZ,wX,uE,t9,ue,uO,yc,xh,xw,wO,w6,wY,uA,tV,ua,tQ,wK,uB,uC,uH,uM,wV,uJ,uy,uz,tT,wG,uu,uF,uD,tP,xG,uw,tW,uq,uN,BV,CP,BJ,Cc,wB,vV,xA,yS,yv,wC,xJ,wz,zZ,wZ,vN,vU,yd,yr,decide_true,decide_false,A0,wH,Cj,Al,Ak,z4,AR,z7,A8,zO,yL,_l.start,cxK,Int.reduceToNat,List.map_cons,List.map_nil,List.length_cons,List.length_nil,Nat.reduceAdd,Nat.reduceSub,Nat.zero_add,List.replicate_succ,List.replicate_zero,List.cons_append,List.nil_append,List.append_nil,List.getElem?_cons_zero,List.getElem?_cons_succ,List.set_cons_zero,List.set_cons_succ,Option.some.injEq,V.int.injEq,V.bl.injEq,V.ref.injEq,V.str.injEq,V.ty.injEq,List.cons.injEq,exists_eq_left',exists_eq_left,exists_eq_right,exists_and_left,exists_and_right,and_true,true_and,and_assoc,exists_const,decide_eq_true_eq,Bool.not_eq_true',Bool.not_true,Bool.not_false,Bool.not_not,decide_eq_false_iff_not,ite_not,Bool.false_eq_true,if_true,if_false,reduceCtorEq,and_false,false_and,exists_false,or_false,false_or,↓reduceIte,eq_self,reduceIte]);try simp only [Av,yE,Aw,AD,za,zg,Ct,vv,BP,BR,xo,yN,yM,z4,AB,AC,vG,sj,yk,yG,yD,Co,iOr,rIx,CG,Cb,rJoin,zV,jT,slots,Option.getD_some,Option.getD_none,wR,mq,sS,lB,tOp,tUn,tC,nM,tCB,xO,zY,nV,rI,rI0,rU,zC,Bw,v5,tB,Cz,tOr,CC,Ai,Cy,An,sF,As,Ao,BF,CF,AE,tSl,Au,vd,Ac,Ay,Cp,Bu,Aq,tBM,uR,rEq,rNe,BN,vY,tM,zP,BZ,wX,uE,t9,ue,uO,yc,xh,xw,wO,w6,wY,uA,tV,ua,tQ,wK,uB,uC,uH,uM,wV,uJ,uy,uz,tT,wG,uu,uF,uD,tP,xG,uw,tW,uq,uN,BV,CP,BJ,Cc,wB,vV,xA,yS,yv,wC,xJ,wz,zZ,wZ,vN,vU,yd,yr,decide_true,decide_false,A0,wH,Cj,Al,Ak,z4,AR,z7,A8,zO,yL,_l.start,cxK,Int.reduceToNat,List.map_cons,List.map_nil,List.length_cons,List.length_nil,Nat.reduceAdd,Nat.reduceSub,Nat.zero_add,List.replicate_succ,List.replicate_zero,List.cons_append,List.nil_append,List.append_nil,List.getElem?_cons_zero,List.getElem?_cons_succ,List.set_cons_zero,List.set_cons_succ,Option.some.injEq,V.int.injEq,V.bl.injEq,V.ref.injEq,V.str.injEq,V.ty.injEq,List.cons.injEq,exists_eq_left',exists_eq_left,exists_eq_right,exists_and_left,exists_and_right,and_true,true_and,and_assoc,exists_const,decide_eq_true_eq,Bool.not_eq_true',Bool.not_true,Bool.not_false,Bool.not_not,decide_eq_false_iff_not,ite_not,Bool.false_eq_true,if_true,if_false,reduceCtorEq,and_false,false_and,exists_false,or_false,false_or,↓reduceIte,eq_self,reduceIte]))
local macro_rules | `(tactic| decreasing_trivial)=>`(tactic| first | exact Or.inl rfl | exact Or.inr (Or.inl rfl) | exact Or.inr (Or.inr rfl))
set_option hygiene false
local macro_rules
| `(`a $x*)=>`(@aM _ _ _ _ _ $x*)
| `(`b $x*)=>`(@aR _ _ _ _ _ $x*)
| `(`c)=>`(@aS _ _ _ _)
| `(`d $x*)=>`(@bP _ _ _ _ _ _ _ _ $x*)
| `(`e $x*)=>`(@bY _ _ _ _ _ _ _ _ _ _ _ $x*)
| `(`f $x*)=>`(@aU _ _ _ _ _ $x*)
| `(`g $x*)=>`(@cO _ _ _ _ _ _ _ $x*)
| `(`h $x*)=>`(@cM _ _ _ _ _ _ _ _ $x*)
| `(`i $x*)=>`(@cL _ _ _ _ _ _ _ _ _ $x*)
| `(`j $x*)=>`(@bX _ _ _ _ _ $x*)
| `(`k $x*)=>`(@cR _ _ _ _ _ _ _ _ $x*)
| `(`m $x*)=>`(@eT _ _ _ _ _ _ _ _ $x*)
| `(`n $x*)=>`(@aV _ _ _ $x*)
| `(`o)=>`(@aO _)
| `(`p)=>`(@cz _ _ _ _)
| `(`q $x*)=>`(@cA _ _ _ _ $x*)
| `(`r $x*)=>`(@fQ _ _ _ _ _ _ _ _ _ _ _ _ _ _ _ $x*)
set_option hygiene true
variable {P:Dz}
namespace _y
open PySem _l
abbrev DnB (x:Str):Prop:=(x == ("__debug__":Str))=false
abbrev NnB (x:Str):Prop:=x≠"__name__"
def rg (K:cy):Sp:=fun vs H Q _=>∃ (a:Addr) (ns:List Int),vs=[.ref a]∧SqL K H a (ns.map V.int)∧ns.length≤63∧∀ H',Q (.bl true) H'
def mU {k:Int} (h0:0≤k) (h1:k<ns.length):atI (ns.map V.int) k=some (.int (ns.getD k.toNat 0)):=by
 have e:k=((k.toNat:Nat):Int):=by exact Oz0 h0
 have h2:k.toNat<ns.length:=by omega
 have q:(ns.map V.int)[k.toNat]?=some (.int (ns.getD k.toNat 0)):=by
  rw[Dq,Dm h2]
  simp [Er,h2]
 have:=dX q
 rw[← e] at this
 exact this
def vO {n:Nat} {i:Int} (lo:-(10 ^ 61)≤i) (hi:i≤10 ^ 61) (hn:204≤n:=by decide):Bits n i:=(Bits.of (n:=204) (b:=10 ^ 61) lo hi (by decide)).mono hn
def bO {p:Addr} (h:H p=none) (o:HO):Same H (upd H p o):=fun b u q=>by rw[aZ (bZ q h)]; exact q
def Same.tup {K:cy} {H H':Hp} {a:Addr} {xs:List V} (e:Same H H') (h:SqT K H a xs):SqT K H' a xs:=by
 rcases h with (h | ⟨o,h⟩) | h
 ·exact .inl (.inl (e _ _ h))
 ·exact .inl (.inr ⟨o,e _ _ h⟩)
 ·exact .inr h
def rN {i j:Int} (a:-(10 ^ 61)≤i) (b:i≤10 ^ 61) (c:-(10 ^ 61)≤j) (d:j≤10 ^ 61):CMulB i j:=⟨vO a b,vO c d⟩
def cdiv {i j:Int} (a:0<j) (b:j≤10 ^ 61):CDivB i j:=⟨a,vO (by omega) b⟩
def getD_at {α:Type} {ws:List α} {j:Nat} {d:α} (h:j<ws.length):ws.getD j d=ws[j]:=by simp only [Er,Dm h,II]
def pQ {n j:Nat} (h:j<n):ixN n (j:Int)=some j:=by
 unfold ixN
 rw[if_pos (by exact Oz35),if_pos (by exact Oz44 h)]
 rfl
def bN {p:Addr} (h:H p=none) (xs:List V):∃ H1,H1=upd H p (.tup xs)∧Same H H1∧SqT K H1 p xs:=⟨_,rfl,bO h _,SqT.of aT⟩
def dW {p:Addr} (h:H p=none) (xs:List V):∃ H1,H1=upd H p (.lst xs)∧Same H H1∧SqL K H1 p xs:=⟨_,rfl,bO h _,SqL.of aT⟩
def dI {l:Addr} (e:Same H H') (h:H l=none) (o:HO):Same H (upd H' l o):=fun b u hb=>by rw[aZ (bZ hb h)]; exact e _ _ hb
noncomputable def top (i:Nat):Stmt:=PySem.Challenge.pw_tariffgate_k42_trees_refused.main.body.getD i (.Pass ⟨0,0,0,0⟩)
def ar:NnB "isinstance":=by decide
def jd:NnB "int":=by decide
def i6:NnB "bool":=by decide
def dG:NnB "all":=by decide
def eR:NnB "str":=by decide
def aq:NnB "len":=by decide
def aL:NnB "tuple":=by decide
def ir:NnB "is_name":=by decide
def a8:NnB "list":=by decide
abbrev eW:Stmt:=top 7
def dZ:ScV ["thing"] ["thing"] eW:=scv (by decide +kernel)
abbrev fq:Stmt:=top 9
def dA:ScV ["thing"] ["thing"] fq:=scv (by decide +kernel)
abbrev d7:Stmt:=top 10
def bQ:ScV ["thing"] ["thing"] d7:=scv (by decide +kernel)
abbrev d8:Stmt:=top 11
def dJ:ScV ["thing"] ["thing"] d8:=scv (by decide +kernel)
abbrev ft:Stmt:=top 13
def bR:ScV ["thing"] ["thing"] ft:=scv (by decide +kernel)
abbrev d9:Stmt:=top 14
def bx:ScV ["thing"] ["thing"] d9:=scv (by decide +kernel)
abbrev eX:Stmt:=top 15
def ee:ScV ["some"] ["some"] eX:=scv (by decide +kernel)
abbrev cS:Stmt:=top 52
def a9:ScV ["_law_script","_law_k"] ["_law_script","_law_k"] cS:=scv (by decide +kernel)
abbrev eh:Stmt:=top 53
def ao:ScV ["_law_cell","_law_more","_law_letters","_law_primes","_law_some","_law_k","_law_signs","_law_size"] ["_law_cell","_law_more"] eh:=scv (by decide +kernel)
abbrev ej:Stmt:=top 54
def ak:ScV ["_law_script","_law_cell","_law_stuffs","_law_uses","_law_many_here","_law_step","_law_some","_law_k","_law_spot"] ["_law_script"] ej:=scv (by decide +kernel)
noncomputable def cellAt (ns:List Int) (k:Int):Int:=if k<(ns.length:Int) then ns.getD k.toNat 0 else 0
def kF (K:cy):Sp:=fun vs H Q _=>∃ (a:Addr) (ns:List Int) (k:Int),vs=[.ref a,.int k]∧SqL K H a (ns.map V.int)∧0≤k∧Q (.int (cellAt ns k)) H
def fm {a:Addr} {k:Int} {E:XK} (h:SqL K H a (ns.map V.int)) (h0:0≤k) (q:Q (.int (cellAt ns k)) H):kF K [.ref a,.int k] H Q E:=⟨a,ns,k,rfl,h,h0,q⟩
def pV (F:Fun K "_law_cell_at" "_law_cell_at" cS f fd) (M:Mg mg):FnOk P w K mg base CX0 1 f fd ["_law_script","_law_k"] (kF K):=by
 refine F.ok a9.fs (fun vs H Q E h=>?_) (fun cdv A outer s H vs Q E hr h=>?_)
 ·obtain⟨a,ns,k,rfl,_⟩:=h
  rfl
 obtain⟨a,ns,k,rfl,hS,h0,q⟩:=h
 refine⟨_,(`f (`m (`k (@qX _) (`b 1 a9 rfl) (`i cQ rfl M.m_len fM (`a (`b 0 a9 rfl) `o (aN rfl)) aq rfl (aN rfl) aW) (dm _)) (`n (`q (`g (@ix_list _) (`b 0 a9 rfl) (`b 1 a9 rfl) (fun _ _=>rfl)))) (@dw _)) (`n (`q `c))),?_⟩
 unfold cellAt at q
 trivial
 refine⟨_,.inl hS,?_⟩
 rw[iz]
 by_cases hk:k<(ns.length:Int)
 ·rw[if_pos hk]
  rw[if_pos hk] at q
  exact⟨_,hS,_,mU h0 hk,q⟩
 ·rw[if_neg hk]
  rw[if_neg hk] at q
  exact q
noncomputable def nX:Kn→Bool
 | .int=>true
 | _=>false
def l8 (K:cy):Sp:=fun vs H Q _=>∃ v k,vs=[v]∧Kd K H v k∧Q (.bl (nX k)) H
def mP {k:Kn} {E:XK} (h:Kd K H v k) (q:Q (.bl (nX k)) H):l8 K [v] H Q E:=⟨v,k,rfl,h,q⟩
def Cq (h:Kd K H v .int):∃ i,v=.int i:=by
 cases v with
 | int i=>exact⟨i,rfl⟩
 | ref a=>rcases h with ⟨z,_⟩ | ⟨z,_⟩ | ⟨z,_⟩ <;> cases z
 | non=>cases h
 | bl b=>cases h
 | str x=>cases h
 | byt b=>exact h.elim
 | flt b=>exact h.elim
 | ty n=>exact h.elim
def iK {k:Kn} (e:Same H H') (h:Kd K H v k):Kd K H' v k:=by
 cases v with
 | ref a =>
  rcases h with ⟨z,xs,h⟩ | ⟨z,xs,h⟩ | ⟨z,h⟩
  ·exact .inl ⟨z,xs,e.seq h⟩
  ·exact .inr (.inl ⟨z,xs,Same.tup e h⟩)
  ·exact .inr (.inr ⟨z,e _ _ h⟩)
 | _=>exact h
def xP {k:Kn} (h:k≠.int):nX k=false:=by
 cases k <;> first | rfl | exact absurd rfl h
def tY (F:Fun K "is_whole" "is_whole" eW f fd) (M:Mg mg):FnOk P w K mg base CX0 1 f fd ["thing"] (l8 K):=by
 refine F.ok dZ.fs (fun vs H Q E h=>?_) (fun cdv A outer s H vs Q E hr h=>?_)
 ·obtain⟨v,k,rfl,_⟩:=h
  rfl
 obtain⟨v,k,rfl,hk,q⟩:=h
 refine⟨_,(`n (`q (@jL _ _ _ _ _ _ _ (`i gB rfl M.m_isinstance fj (`a (`b 0 dZ rfl) (`a (@gH _ _ (.ty "int") _ _ rfl M.m_int CK rfl jd rfl) `o (aN rfl)) (aN rfl)) ar rfl (aN rfl) (cg rfl aW)) (@jo _ _ _ _ _ (@Cm _ _ _ _ (`i gB rfl M.m_isinstance fj (`a (`b 0 dZ rfl) (`a (@gH _ _ (.ty "bool") _ _ rfl M.m_bool Bv rfl i6 rfl) `o (aN rfl)) (aN rfl)) ar rfl (aN rfl) (cg rfl aW))))))),?_⟩
 trivial
 refine⟨_,hk,?_⟩
 cases k with
 | int=>exact⟨_,hk,q⟩
 | bl=>exact⟨_,hk,q⟩
 | _=>exact q
noncomputable def nameB (cs:List Nat):Bool:=decide (1≤cs.length∧cs.length≤8) && cs.all kO
abbrev asc (cs:List Nat):Prop:=cs.all (fun c=>decide (c<128))=true
inductive NameV (K:cy) (H:Hp):V→Bool→Prop
 | no {v:V} {k:Kn}:Kd K H v k→k≠.str→NameV K H v false
 | txt {cs:List Nat}:asc cs→cs.length≤1000→NameV K H (.str (txt cs)) (nameB cs)
def nA (K:cy):Sp:=fun vs H Q _=>∃ v b,vs=[v]∧NameV K H v b∧∀ H',Same H H'→Q (.bl b) H'
def j8 {k:Kn} (h:k≠.str):fN k .str=false:=by
 cases k <;> first | rfl | exact absurd rfl h
def A7 (cs:List Nat):(txt cs).length=cs.length:=Dk ..
def wN (F:Fun K "is_name" "is_name" fq f fd) (M:Mg mg):FnOk P w K mg base CX0 1 f fd ["thing"] (nA K):=by
 refine F.ok dA.fs (fun vs H Q E h=>?_) (fun cdv A outer s H vs Q E hr h=>?_)
 ·obtain⟨v,b,rfl,_⟩:=h
  rfl
 obtain⟨v,b,rfl,N,q⟩:=h
 refine⟨_,(`f (`m (@PW.pt _ _ _ (@jr _ _ _ _ _ _ _ (@gc _ _ _ _ (@fP _ _ _ (`i gB rfl M.m_isinstance fj (`a (`b 0 dA rfl) (`a (@gH _ _ (.ty "str") _ _ rfl M.m_str qV rfl eR rfl) `o (aN rfl)) (aN rfl)) ar rfl (aN rfl) (cg rfl aW)) (fZ rfl))) (@jt _ _ _ _ (@gc _ _ _ _ (@lM _ _ _ _ _ _ _ _ _ _ _ _ j6 j6 `c (`i rM rfl M.m_len fM (`a (`b 0 dA rfl) `o (aN rfl)) aq rfl (aN rfl) aW) `c (by with_unfolding_all rfl)))))) (`n (`q (@fY _ _ _ _))) (@dw _)) (`n (`q (`i (jm rfl) rfl M.m_all mZ (`a (`r rfl (CompOk.make (N':=["letter"]) (ix:=[]) (nl:=1) (by rfl) fm0 (by rfl) (by decide +kernel) rfl (by decide +kernel) rfl DY) (@BI _ _ _ _ (`b 0 dA rfl)) (fun _ _ _ _ _=>(@dH _ _ 0 _ (show D5 (["letter"]:List Str) from by decide) rfl (Or.inl rfl) (by first | exact .inl rfl | exact .inr rfl | assumption))) (fun _ _ _ _ _=>(@gx _)) (fun _ _ _ _ _=>(@sC _ _ _ _ _ _ _ _ _ _ _ _ yi yi `p (@pv _ 0 _ _ (by rfl) (by decreasing_trivial) (by decide) (by decide)) `p (by with_unfolding_all rfl))) (by intro _; rfl)) `o (aN rfl)) dG rfl (aN rfl) aW)))),?_⟩
 cases N with
 | no kd hk =>
  trivial
  refine⟨_,kd,?_⟩
  rw[if_pos (j8 hk)]
  exact q _ (Same.refl _)
 | @txt cs ha hn =>
  trivial
  rw[A7]
  have sl:cs.length≤sizeLine:=Nat.le_trans hn (by decide)
  refine⟨sl,?_⟩
  by_cases h1:1≤(cs.length:Int)
  ·rw[if_pos h1]
   by_cases h2:(cs.length:Int)≤8
   ·rw[if_pos h2]
    refine⟨_,rfl,ha,fun D hD=>?_⟩
    obtain⟨Pc,hC⟩:∃ Pc:Nat→St→Hp→Prop,Pc=fun i τ H'=>∃ z,H' D=some (.lst (((cs.map kO).take i).map V.bl))∧Same H H'∧τ=[z]:=⟨_,rfl⟩
    refine yy cs Pc ?_ ?_ ?_
    ·rw[hC]
     exact⟨_,aT,bO hD _,rfl⟩
    ·intro i c τ H' R hc h next
     rw[hC] at h
     obtain⟨z,d1,d2,rfl⟩:=h
     have li:i<cs.length:=(yp.mp hc).1
     have key:∃ ys,H' D=some (.lst ys)∧ys.length<sizeLine∧R [some (sgn c)] (upd H' D (.lst (ys++[.bl (kO c)]))):=by
      refine⟨_,d1,?_,next _ _ ?_⟩
      ·rw[iz,Dt,iz]
       exact Nat.lt_of_lt_of_le (m:=64) (by omega) (by decide)
      ·rw[hC]
       refine⟨_,?_,fun b o hb=>by rw[aZ (bZ hb hD)]; exact d2 _ _ hb,rfl⟩
       rw[aT,El,Dq,hc,DH]
       rfl
     trivial
     refine⟨97,rfl,_,rfl,?_⟩
     unfold kO at key
     by_cases hc1:97≤c
     ·rw[decide_eq_true hc1,Fy] at key
      rw[if_pos hc1]
      exact⟨_,rfl,122,rfl,key⟩
     ·rw[decide_eq_false hc1,FA] at key
      rw[if_neg hc1]
      exact key
    ·intro τ H' h
     rw[hC] at h
     obtain⟨z,d1,d2,rfl⟩:=h
     rw[Dw (by rw[iz]; exact Nat.le_refl _)] at d1
     refine⟨_,rfl,_,SqL.of d1,?_⟩
     have e:nameB cs=(cs.map kO).all id:=by
      unfold nameB
      rw[decide_eq_true ⟨by omega,by omega⟩,Fy,HS]
      rfl
     rw[← e]
     exact q _ d2
   ·rw[if_neg h2]
    have e:nameB cs=false:=by
     unfold nameB
     rw[decide_eq_false (by omega)]
     rfl
    rw[← e]
    exact q _ (Same.refl _)
  ·rw[if_neg h1]
   have e:nameB cs=false:=by
    unfold nameB
    rw[decide_eq_false (by omega)]
    rfl
   rw[← e]
   exact q _ (Same.refl _)
noncomputable def itB:V→Bool
 | .int i=>decide (1≤i∧i≤99)
 | _=>false
noncomputable def prefB (xs:List V):Bool:=decide (xs.length≤4) && xs.all itB
def Knd (K:cy) (H:Hp) (x:V):Prop:=∃ k,Kd K H x k
def Knd.same {x:V} (h:Knd K H x) (e:Same H H'):Knd K H' x:=by
 obtain⟨k,h⟩:=h
 exact⟨k,iK e h⟩
inductive PrefV (K:cy) (H:Hp):V→Bool→Prop
 | no {v:V} {k:Kn}:Kd K H v k→k≠.tup→PrefV K H v false
 | tup {p:Addr} {xs:List V}:SqT K H p xs→(∀ x∈xs,Knd K H x)→PrefV K H (.ref p) (prefB xs)
inductive NumV (K:cy) (H:Hp):V→Bool→Prop
 | no {v:V} {k:Kn}:Kd K H v k→k≠.tup→NumV K H v false
 | tup {p:Addr} {xs:List V}:SqT K H p xs→(∀ x∈xs,Knd K H x)→NumV K H (.ref p) (prefB xs && decide (1≤xs.length))
def ou (K:cy):Sp:=fun vs H Q _=>∃ v b,vs=[v]∧PrefV K H v b∧∀ H',Same H H'→Q (.bl b) H'
def nW (K:cy):Sp:=fun vs H Q _=>∃ v b,vs=[v]∧NumV K H v b∧∀ H',Same H H'→Q (.bl b) H'
def xD {k:Kn} (h:k≠.tup):fN k .tup=false:=by
 cases k <;> first | rfl | exact absurd rfl h
def zN {x:V} {k:Kn} (h:Kd K H x k):(k=.int∧∃ i,x=.int i)∨(nX k=false∧itB x=false):=by
 by_cases e:k=.int
 ·subst e
  exact .inl ⟨rfl,Cq h⟩
 ·refine .inr ⟨xP e,?_⟩
  cases x with
  | int i=>exact absurd h e
  | _=>rfl
def tN (F:Fun K "is_prefix" "is_prefix" d7 f fd) (M:Mg mg) (eY:Cal P w K mg base CX0 "is_whole" 1 ["thing"] (l8 K)):FnOk P w K mg base CX0 2 f fd ["thing"] (ou K):=by
 refine F.ok bQ.fs (fun vs H Q E h=>?_) (fun cdv A outer s H vs Q E hr h=>?_)
 ·obtain⟨v,b,rfl,_⟩:=h
  rfl
 obtain⟨v,b,rfl,N,q⟩:=h
 refine⟨_,(`f (`m (@PW.pt _ _ _ (@jr _ _ _ _ _ _ _ (@gc _ _ _ _ (@fP _ _ _ (`i gB rfl M.m_isinstance fj (`a (`b 0 bQ rfl) (`a (@gH _ _ (.ty "tuple") _ _ rfl M.m_tuple iN rfl aL rfl) `o (aN rfl)) (aN rfl)) ar rfl (aN rfl) (cg rfl aW)) (fZ rfl))) (@jt _ _ _ _ (`k (@wA _) (`i cQ rfl M.m_len fM (`a (`b 0 bQ rfl) `o (aN rfl)) aq rfl (aN rfl) aW) `c (dm _))))) (`n (`q (@fY _ _ _ _))) (@dw _)) (`n (`q (`i (jm rfl) rfl M.m_all mZ (`a (`r rfl (CompOk.make (N':=["part"]) (ix:=[]) (nl:=1) (by rfl) fm0 (by rfl) (by decide +kernel) rfl (by decide +kernel) rfl DY) (@yl _ _ _ _ (`b 0 bQ rfl)) (fun _ _ _ _ _=>(@dH _ _ 0 _ (show D5 (["part"]:List Str) from by decide) rfl (Or.inl rfl) (by first | exact .inl rfl | exact .inr rfl | assumption))) (fun _ _ _ _ _=>(@gx _)) (fun _ _ _ _ _=>(@jL _ _ _ _ _ _ _ (`e eY hr rfl (`a (@pv _ 0 _ _ (by rfl) (by decreasing_trivial) (by decide) (by decide)) `o (aN rfl)) (by decide) rfl (aN rfl) aW) (@jo _ _ _ _ _ (@sC _ _ _ _ _ _ _ _ _ _ _ _ j6 j6 `c (@pv _ 0 _ _ (by rfl) (by decreasing_trivial) (by decide) (by decide)) `c (by with_unfolding_all rfl))))) (by intro _; rfl)) `o (aN rfl)) dG rfl (aN rfl) aW)))),?_⟩
 cases N with
 | no kd hk =>
  trivial
  refine⟨_,kd,?_⟩
  rw[if_pos (xD hk)]
  exact q _ (Same.refl _)
 | @tup p xs T kn =>
  trivial
  refine⟨_,Kd.tup T,?_⟩
  rw[if_neg (by decide)]
  refine⟨_,.inr T,?_⟩
  by_cases h4:4<(xs.length:Int)
  ·rw[if_pos h4]
   have e:prefB xs=false:=by
    unfold prefB
    rw[decide_eq_false (by omega)]
    rfl
   rw[← e]
   exact q _ (Same.refl _)
  rw[if_neg h4]
  refine⟨⟨_,T⟩,fun D hD=>?_⟩
  obtain⟨Pc,hC⟩:∃ Pc:Nat→St→Hp→Prop,Pc=fun i τ H'=>∃ z,H' D=some (.lst (((xs.map itB).take i).map V.bl))∧Same H H'∧τ=[z]:=⟨_,rfl⟩
  refine mG xs Pc ?_ (fun i τ H' _ h=>by rw[hC] at h; obtain⟨z,_,e,_⟩:=h; exact Same.tup e T) ?_ ?_
  ·rw[hC]
   exact⟨_,aT,bO hD _,rfl⟩
  ·intro i x τ H' R hx h next
   rw[hC] at h
   obtain⟨z,d1,d2,rfl⟩:=h
   have li:i<xs.length:=(yp.mp hx).1
   have key:∃ ys,H' D=some (.lst ys)∧ys.length<sizeLine∧R [some x] (upd H' D (.lst (ys++[.bl (itB x)]))):=by
    refine⟨_,d1,?_,next _ _ ?_⟩
    ·rw[iz,Dt,iz]
     exact Nat.lt_of_lt_of_le (m:=64) (by omega) (by decide)
    ·rw[hC]
     refine⟨_,?_,fun b o hb=>by rw[aZ (bZ hb hD)]; exact d2 _ _ hb,rfl⟩
     rw[aT,El,Dq,hx,DH]
     rfl
   obtain⟨k,kd⟩:=(kn x (Ds hx)).same d2
   rcases zN kd with ⟨rfl,j,rfl⟩ | ⟨e1,e2⟩
   ·trivial
    refine mP kd ⟨_,rfl,?_⟩
    rw[if_pos (by decide)]
    have ei:itB (.int j)=(decide (1≤j) && decide (j≤99)):=by
     show decide (1≤j∧j≤99)=_
     by_cases a:1≤j <;> by_cases b:j≤99 <;> simp [a,b]
    rw[ei] at key
    by_cases h1:1≤j
    ·rw[decide_eq_true h1,Fy] at key
     rw[if_pos h1]
     exact key
    ·rw[decide_eq_false h1,FA] at key
     rw[if_neg h1]
     exact key
   ·trivial
    refine mP kd ⟨_,rfl,?_⟩
    rw[e1,if_neg (by decide)]
    rw[e2] at key
    exact key
  ·intro τ H' h
   rw[hC] at h
   obtain⟨z,d1,d2,rfl⟩:=h
   rw[Dw (by rw[iz]; exact Nat.le_refl _)] at d1
   refine⟨_,rfl,_,SqL.of d1,?_⟩
   have e:prefB xs=(xs.map itB).all id:=by
    unfold prefB
    rw[decide_eq_true (by omega),Fy,HS]
    rfl
   rw[← e]
   exact q _ d2
def sf (F:Fun K "is_number" "is_number" d8 f fd) (M:Mg mg) (eA:Cal P w K mg base CX0 "is_prefix" 2 ["thing"] (ou K)):FnOk P w K mg base CX0 3 f fd ["thing"] (nW K):=by
 refine F.ok dJ.fs (fun vs H Q E h=>?_) (fun cdv A outer s H vs Q E hr h=>?_)
 ·obtain⟨v,b,rfl,_⟩:=h
  rfl
 obtain⟨v,b,rfl,N,q⟩:=h
 refine⟨_,(`n (`q (@jL _ _ _ _ _ _ _ (`e eA hr rfl (`a (`b 0 dJ rfl) `o (aN rfl)) (by decide) rfl (aN rfl) aW) (@jo _ _ _ _ _ (@ig _ _ _ _ _ _ _ _ (@CL _) (`i cQ rfl M.m_len fM (`a (`b 0 dJ rfl) `o (aN rfl)) aq rfl (aN rfl) aW) `c (dm _)))))),?_⟩
 cases N with
 | no kd hk =>
  trivial
  refine⟨_,_,rfl,.no kd hk,fun H' e=>⟨_,rfl,?_⟩⟩
  exact q _ e
 | @tup p xs T kn =>
  trivial
  refine⟨_,_,rfl,.tup T kn,fun H' e=>⟨_,rfl,?_⟩⟩
  cases hp:prefB xs with
  | false =>
   rw[if_neg (by decide)]
   rw[hp] at q
   exact q _ e
  | true =>
   rw[if_pos rfl]
   refine⟨_,.inr (Same.tup e T),?_⟩
   rw[hp,Fy] at q
   have:decide (1≤(xs.length:Int))=decide (1≤xs.length):=by
    by_cases h:1≤xs.length
    ·rw[decide_eq_true h,decide_eq_true (by exact Oz39 h)]
    ·rw[decide_eq_false h,decide_eq_false (by omega)]
   rw[this]
   exact q _ e
inductive KindV (K:cy) (H:Hp):V→Bool→Prop
 | no {v:V} {k:Kn}:Kd K H v k→k≠.tup→KindV K H v false
 | len {p:Addr} {xs:List V}:SqT K H p xs→xs.length≠2→KindV K H (.ref p) false
 | two {p:Addr} {x y:V} {b c:Bool}:SqT K H p [x,y]→NameV K H x b→NameV K H y c→KindV K H (.ref p) (b && c)
def NameV.same {b:Bool} (h:NameV K H v b) (e:Same H H'):NameV K H' v b:=by
 cases h with
 | no a c=>exact .no (iK e a) c
 | txt a c=>exact .txt a c
def KindV.same {b:Bool} (h:KindV K H v b) (e:Same H H'):KindV K H' v b:=by
 cases h with
 | no a c=>exact .no (iK e a) c
 | len a c=>exact .len (Same.tup e a) c
 | two a c d=>exact .two (Same.tup e a) (c.same e) (d.same e)
def lU (K:cy):Sp:=fun vs H Q _=>∃ v b,vs=[v]∧KindV K H v b∧∀ H',Same H H'→Q (.bl b) H'
def jI {k:Kn} (h:k≠.tup):fN k .tup=false:=by
 cases k <;> first | rfl | exact absurd rfl h
def wU (F:Fun K "is_kind" "is_kind" ft f fd) (M:Mg mg) (bz:Cal P w K mg base CX0 "is_name" 1 ["thing"] (nA K)):FnOk P w K mg base CX0 2 f fd ["thing"] (lU K):=by
 refine F.ok bR.fs (fun vs H Q E h=>?_) (fun cdv A outer s H vs Q E hr h=>?_)
 ·obtain⟨v,b,rfl,_⟩:=h
  rfl
 obtain⟨v,b,rfl,N,q⟩:=h
 refine⟨_,(`f (`m (@PW.pt _ _ _ (@jr _ _ _ _ _ _ _ (@gc _ _ _ _ (@fP _ _ _ (`i gB rfl M.m_isinstance fj (`a (`b 0 bR rfl) (`a (@gH _ _ (.ty "tuple") _ _ rfl M.m_tuple iN rfl aL rfl) `o (aN rfl)) (aN rfl)) ar rfl (aN rfl) (cg rfl aW)) (fZ rfl))) (@jt _ _ _ _ (`k (@nT _) (`i cQ rfl M.m_len fM (`a (`b 0 bR rfl) `o (aN rfl)) aq rfl (aN rfl) aW) `c (dm _))))) (`n (`q (@fY _ _ _ _))) (@dw _)) (`n (`q (@jL _ _ _ _ _ _ _ (`e bz hr rfl (`a (`g (@ix_tup _) (`b 0 bR rfl) `c (fun _ _=>rfl)) `o (aN rfl)) (by decide) rfl (aN rfl) aW) (@jo _ _ _ _ _ (`e bz hr rfl (`a (`g (@ix_tup _) (`b 0 bR rfl) `c (fun _ _=>rfl)) `o (aN rfl)) (by decide) rfl (aN rfl) aW)))))),?_⟩
 trivial
 cases N with
 | no kd hk =>
  refine⟨_,kd,?_⟩
  rw[if_pos (jI hk)]
  exact q _ (Same.refl _)
 | len T hl =>
  refine⟨_,Kd.tup T,?_⟩
  rw[if_neg (by decide)]
  refine⟨_,rfl,_,.inr T,?_⟩
  rw[if_neg (by omega)]
  exact q _ (Same.refl _)
 | @two p x y b c T n1 n2 =>
  refine⟨_,Kd.tup T,?_⟩
  rw[if_neg (by decide)]
  refine⟨_,rfl,_,.inr T,?_⟩
  rw[if_pos (show (([x,y].length:Nat):Int)=2 from rfl)]
  refine⟨_,rfl,_,T,_,rfl,_,_,rfl,n1,fun H1 e1=>⟨_,rfl,?_⟩⟩
  cases b with
  | true =>
   rw[if_pos rfl]
   exact⟨_,rfl,_,Same.tup e1 T,_,rfl,_,_,rfl,n2.same e1,fun H2 e2=>q _ (e1.trans e2)⟩
  | false =>
   rw[if_neg (by decide)]
   exact q _ e1
noncomputable abbrev lettersS:Str:="abcdefghijklmnopqrstuvwxyz"
def oE:∀ r:Nat,r<26→lettersS.cps.toList[r]?=some (97+r):=by decide +kernel
noncomputable def primes:List Int:=[10007,10009,10037,10039,10061,10067,10069,10079]
noncomputable def gW (c:Int):List Int:=(DJ 8).map fun j:Nat=>c * (48271+7919 * (0+(j:Int))) % primes.getD j 0 % 26
noncomputable def gT (m:Int) (k:Nat):Nat:=if m / 8 % 3=1 then (1+(m+(0+(k:Int))) % 8).toNat else (1+m % 8).toNat
noncomputable def signs (c m:Int) (k:Nat):List Int:=if m / 8 % 3=1 then gW c else (gW c).set (m / 24 % (1+m % 8)).toNat (((gW c).getD (m / 24 % (1+m % 8)).toNat 0+(0+(k:Int))) % 26)
noncomputable def nameOf (c m:Int) (k:Nat):List Nat:=((signs c m k).take (gT m k)).map fun i=>97+i.toNat
def kJ (c:Int):(gW c).length=8:=by unfold gW; rw[iz,DW]
def sJ (c:Int):∀ i∈gW c,0≤i∧i<26:=fun i hi=>by
 obtain⟨j,_,rfl⟩:=DZ.mp hi
 exact⟨DB _ (by decide),Dv _ (by decide)⟩
def l5 (c m:Int) (k:Nat):(signs c m k).length=8:=by
 unfold signs
 split
 ·exact kJ c
 ·rw[F3,kJ]
def nL (c m:Int) (k:Nat):∀ i∈signs c m k,0≤i∧i<26:=fun i hi=>by
 unfold signs at hi
 split at hi
 ·exact sJ c i hi
 ·rcases Gq hi with hi | rfl
  ·exact sJ c i hi
  ·exact⟨DB _ (by decide),Dv _ (by decide)⟩
def lH (m:Int) (k:Nat):1≤gT m k∧gT m k≤8:=by
 have a:=DB (m+(0+(k:Int))) (show (8:Int)≠0 by decide)
 have b:=Dv (m+(0+(k:Int))) (show (0:Int)<8 by decide)
 have a':=DB m (show (8:Int)≠0 by decide)
 have b':=Dv m (show (0:Int)<8 by decide)
 unfold gT
 split <;> omega
def gO (c m:Int) (k:Nat):(nameOf c m k).length=gT m k:=by
 have:=lH m k
 unfold nameOf
 rw[iz,Dt,l5]
 omega
def ug (c m:Int) (k:Nat):nameB (nameOf c m k)=true:=by
 have:=lH m k
 unfold nameB
 rw[gO,decide_eq_true this,Fy,Ek]
 intro x hx
 unfold nameOf at hx
 obtain⟨i,hi,rfl⟩:=DZ.mp hx
 have:=nL c m k i (EI hi)
 unfold kO
 rw[decide_eq_true (by omega),decide_eq_true (by omega)]
 rfl
def tu {c m:Int} {i j:Nat} (hi:i<4) (hj:j<4) (h:nameOf c m i=nameOf c m j):i=j:=by
 have hl:=congrArg Jv h
 rw[gO,gO] at hl
 have a':=DB m (show (8:Int)≠0 by decide)
 have b':=Dv m (show (0:Int)<8 by decide)
 by_cases hA:m / 8 % 3=1
 ·unfold gT at hl
  rw[if_pos hA,if_pos hA] at hl
  omega
 ·have p0:=DB (m / 24) (show (1+m % 8:Int)≠0 by exact Oz62)
  have p1:=Dv (m / 24) (show (0:Int)<1+m % 8 by exact Oz11)
  have sz:∀ k,gT m k=(1+m % 8).toNat:=fun k=>by unfold gT; rw[if_neg hA]
  have bl:=kJ c
  obtain⟨p,hp⟩:∃ p:Nat,m / 24 % (1+m % 8)=(p:Int):=⟨_,(Int.toNat_of_nonneg p0).symm⟩
  rw[hp] at p1
  have pick:∀ k,(nameOf c m k)[p]?=some (97+(((gW c).getD p 0+(0+(k:Int))) % 26).toNat):=fun k=>by
   unfold nameOf signs
   rw[if_neg hA,sz,hp,EA,Dq,List.getElem?_take,if_pos (by omega),Fq (by omega)]
   rfl
  have e:=pick i
  rw[h,pick j,Option.some.injEq] at e
  have r1:=DB ((gW c).getD p 0+(0+(i:Int))) (show (26:Int)≠0 by decide)
  have r2:=DB ((gW c).getD p 0+(0+(j:Int))) (show (26:Int)≠0 by decide)
  omega
structure Four (ns:List (List Nat)):Prop where
 len:ns.length=4
 name:∀ cs∈ns,nameB cs=true
 apart:∀ i j,i<4→j<4→ns.getD i []=ns.getD j []→i=j
def uT (K:cy):Sp:=fun vs H Q _=>∃ c m:Int,vs=[.int c,.int m]∧∀ (l:Addr) (ns:List (List Nat)) (H':Hp),Same H H'→H l=none→H' l=some (.lst (ns.map fun cs=>V.str (txt cs)))→Four ns→Q (.ref l) H'
def rG (F:Fun K "_law_names" "_law_names" eh f fd) (M:Mg mg):FnOk P w K mg base CX0 1 f fd ["_law_cell","_law_more"] (uT K):=by
 refine F.ok ao.fs (fun vs H Q E h=>?_) (fun cdv A outer s H vs Q E hr h=>?_)
 ·obtain⟨c,m,rfl,_⟩:=h
  rfl
 obtain⟨c,m,rfl,q⟩:=h
 refine⟨_,(`f (`h 2 ao `p rfl) (`f (`h 3 ao (@fS _ _ _ _ (`a `c (`a `c (`a `c (`a `c (`a `c (`a `c (`a `c (`a `c `o (aN rfl)) (aN rfl)) (aN rfl)) (aN rfl)) (aN rfl)) (aN rfl)) (aN rfl)) (aN rfl))) rfl) (`f (`h 4 ao (@fS _ _ _ _ `o) rfl) (`f (@jx _ _ _ _ _ _ _ _ FQ rfl (@iT _ _ _ _ _ _ rfl M.m_range (`a `c `o (aN rfl)) (star1' rfl)) (@dH _ _ 5 _ ao.nd rfl (ScV.loc ao 5 rfl) (.inl rfl)) (`f (@ju _ _ _ _ _ _ _ _ _ _ _ _ _ _ _ 6 _ _ _ ao.nd rfl (ScV.loc ao 6 rfl) rfl (CompOk.make (N':=["_law_cell","_law_primes","_law_j"]) (ix:=[0,3]) (nl:=1) (by rfl) (fm1 rfl (fm1 rfl fm0)) (by rfl) (by decide +kernel) rfl (by decide +kernel) rfl (EH ⟨rfl,.inl rfl,.inl rfl⟩ (EH ⟨rfl,.inl rfl,.inl rfl⟩ DY))) (@iT _ _ _ _ _ _ rfl M.m_range (`a `c `o (aN rfl)) (star1' rfl)) (fun _ _ _ _ _=>(@dH _ _ 2 _ (show D5 (["_law_cell","_law_primes","_law_j"]:List Str) from by decide) rfl (Or.inl rfl) (by first | exact .inl rfl | exact .inr rfl | assumption))) (fun _ _ _ _ _=>(@gx _)) (fun _ _ _ _ _=>(`d (@dF _) (`d (@dF _) (`d (@ye _) (@pv _ 0 _ _ (by rfl) (by decreasing_trivial) (by decide) (by decide)) (`d (@gQ _) `c (`d (@k8 _) `c (@pv _ 2 _ _ (by rfl) (by decreasing_trivial) (by decide) (by decide))))) (`g (@Ag _ K rfl) (@pv _ 1 _ _ (by rfl) (by decreasing_trivial) (by decide) (by decide)) (@pv _ 2 _ _ (by rfl) (by decreasing_trivial) (by decide) (by decide)) (fun _ _=>rfl))) `c)) (by rfl) (by intro _; rfl) (by first | exact .inl rfl | exact .inr rfl | assumption)) (`f (`h 7 ao (`d (@gQ _) `c (`d (@dF _) (`b 1 ao rfl) `c)) rfl) (`f (`m (`k (@fk _) (`d (@dF _) (`d (@dY _) (`b 1 ao rfl) `c) `c) `c (dm _)) (`n (`h 7 ao (`d (@gQ _) `c (`d (@dF _) (`d (@gQ _) (`b 1 ao rfl) (`b 5 ao rfl)) `c)) rfl)) (`n (@jP _ _ _ _ _ _ (`d (@dF _) (`d (@gQ _) (`g (@ix_list _) (`b 6 ao rfl) (`d (@dF _) (`d (@dY _) (`b 1 ao rfl) `c) (`b 7 ao rfl)) (fun _ _=>rfl)) (`b 5 ao rfl)) `c) (@kY _ _ _ _ _ _ _ (`b 6 ao rfl) (`d (@dF _) (`d (@dY _) (`b 1 ao rfl) `c) (`b 7 ao rfl)) set_list (by intro _; rfl)) (by rfl) (by rfl) (by rfl)))) (`n (@gY _ _ _ _ (@iG _ _ _ _ _ _ _ _ _ _ _ _ DQ EO ER iS (`b 4 ao rfl) (`a (@iG _ _ _ _ _ _ _ _ _ _ _ _ PySem.F.plainAttrs_str IZ PySem.F.type_str_join Bp `p (`a (`r rfl (CompOk.make (N':=["_law_letters","_law_sign"]) (ix:=[2]) (nl:=1) (by rfl) (fm1 rfl fm0) (by rfl) (by decide +kernel) rfl (by decide +kernel) rfl (EH ⟨rfl,.inl rfl,.inl rfl⟩ DY)) (@gw _ _ _ _ (@gK _ _ _ _ _ _ _ _ _ _ (@kX _) (`b 6 ao rfl) (@iA _) (@gP _ _ _ (`b 7 ao rfl)))) (fun _ _ _ _ _=>(@dH _ _ 1 _ (show D5 (["_law_letters","_law_sign"]:List Str) from by decide) rfl (Or.inl rfl) (by first | exact .inl rfl | exact .inr rfl | assumption))) (fun _ _ _ _ _=>(@gx _)) (fun _ _ _ _ _=>(`g ya (@pv _ 0 _ _ (by rfl) (by decreasing_trivial) (by decide) (by decide)) (@pv _ 1 _ _ (by rfl) (by decreasing_trivial) (by decide) (by decide)) (fun _ _=>rfl))) (by intro _; rfl)) `o (aN rfl)) (by rfl) (by rfl) (by rfl) (by rfl) (by rfl)) `o (aN rfl)) (by rfl) (by rfl) (by rfl) (by rfl) (by rfl)) (fV rfl)))))) (by intro _; rfl)) (`n (`q (`b 4 ao rfl))))))),?_⟩
 trivial
 refine⟨by decide,fun pr hpr=>?_⟩
 obtain⟨H1,g1,S1,L1⟩:∃ H1,H1=upd H pr (.lst [V.int 10007,V.int 10009,V.int 10037,V.int 10039,V.int 10061,V.int 10067,V.int 10069,V.int 10079])∧Same H H1∧SqL K H1 pr (primes.map V.int):=⟨_,rfl,bO hpr _,SqL.of aT⟩
 rw[← g1]
 clear g1
 refine⟨by decide,fun l hl=>⟨by decide,by decide,?_⟩⟩
 have hlH:H l=none:=S1.free hl
 have bl:=kJ c
 have a':=DB m (show (8:Int)≠0 by decide)
 have b':=Dv m (show (0:Int)<8 by decide)
 obtain⟨Pv,hP⟩:∃ Pv:Nat→St→Hp→Prop,Pv=fun k σ H'=>∃ x y z,H' l=some (.lst (((DJ k).map (nameOf c m)).map fun cs=>V.str (txt cs)))∧Same H1 H'∧σ=[some (.int c),some (.int m),some (.str lettersS),some (.ref pr),some (.ref l),x,y,z]:=⟨_,rfl⟩
 refine i8 Pv ?_ ?_ ?_
 ·rw[hP]
  exact⟨_,_,_,aT,bO hl _,rfl⟩
 ·intro k σ H' hk h
  rw[hP] at h
  obtain⟨x,y,z,dl,e,rfl⟩:=h
  trivial
  refine⟨by decide,by decide,fun D hD=>?_⟩
  obtain⟨Pc,hC⟩:∃ Pc:Nat→St→Hp→Prop,Pc=fun j τ H2=>∃ z,H2 D=some (.lst (((gW c).take j).map V.int))∧Same H' H2∧τ=[some (.int c),some (.ref pr),z]:=⟨_,rfl⟩
  refine jK Pc ?_ ?_ ?_
  ·rw[hC]
   exact⟨_,aT,bO hD _,rfl⟩
  ·intro j τ H2 R' hj h next
   rw[hC] at h
   obtain⟨z,c1,c2,rfl⟩:=h
   have pj:∃ v,primes.getD j 0=v∧0<v:=by
    have:j=0∨j=1∨j=2∨j=3∨j=4∨j=5∨j=6∨j=7:=by exact Oz9 hj
    rcases this with rfl | rfl | rfl | rfl | rfl | rfl | rfl | rfl <;> exact⟨_,rfl,by decide⟩
   obtain⟨v,ev,v0⟩:=pj
   have atp:atI (primes.map V.int) (0+(j:Int))=some (.int v):=by
    have:=mU (ns:=primes) (k:=0+(j:Int)) (by omega) (by show 0+(j:Int)<8; omega)
    rwa [show (0+(j:Int)).toNat=j by omega,ev] at this
   have eb:(gW c)[j]?=some (c * (48271+7919 * (0+(j:Int))) % v % 26):=by
    unfold gW
    rw[Dq,HC hj,← ev]
    rfl
   trivial
   refine⟨rN (by omega) (by omega) (by exact Oz50) (by omega),.inr ⟨by omega,by omega⟩,_,(e.trans c2).seq L1,_,atp,_,rfl,v0,by decide,_,c1,by rw[iz,Dt]; exact Nat.lt_of_lt_of_le (m:=64) (by omega) (by decide),next _ _ ?_⟩
   rw[hC]
   refine⟨_,?_,dI c2 hD _,rfl⟩
   rw[aT,El,eb,DH]
   rfl
  intro τ H2 h
  rw[hC] at h
  obtain⟨z',dD,S2,rfl⟩:=h
  rw[Dw (by omega)] at dD
  have DL:l≠D:=bZ dl hD
  replace dl:=S2 _ _ dl
  trivial
  refine⟨by decide,cdiv (by decide) (by decide),by decide,?_⟩
  by_cases hA:m / 8 % 3=1
  ·rw[if_pos hA]
   refine⟨by decide,?_⟩
   have es:signs c m k=gW c:=by unfold signs; rw[if_pos hA]
   have q0:=DB (m+(0+(k:Int))) (show (8:Int)≠0 by decide)
   have esz:(1+(m+(0+(k:Int))) % 8)=((gT m k:Nat):Int):=by
    unfold gT
    rw[if_pos hA]
    omega
   rw[← es] at dD
   have EX:=e.trans S2
   refine⟨.inl ⟨rfl,_,SqL.of dl⟩,rfl,_,SqL.of dD,fun s1 hs1=>?_⟩
   rw[esz,oJ]
   have sin:=lH m k
   have sle:=l5 c m k
   obtain⟨H4,g4,S4,L4⟩:∃ H4,H4=upd H2 s1 (.lst (((signs c m k).map V.int).take (gT m k)))∧Same H2 H4∧H4 s1=some (.lst (((signs c m k).take (gT m k)).map V.int)):=⟨_,rfl,bO hs1 _,by rw[aT,Fx]⟩
   rw[← g4]
   clear g4
   refine⟨⟨_,SqL.of L4⟩,fun D2 hD2=>?_⟩
   obtain⟨Pd,hQ⟩:∃ Pd:Nat→St→Hp→Prop,Pd=fun j τ H5=>∃ z,H5 D2=some (.lst (((nameOf c m k).take j).map sgn))∧Same H4 H5∧τ=[some (.str lettersS),z]:=⟨_,rfl⟩
   refine fR (((signs c m k).take (gT m k)).map V.int) Pd ?_ (fun j τ H5 _ h=>by rw[hQ] at h; obtain⟨z,_,e,_⟩:=h; exact SqL.of (e _ _ L4)) ?_ ?_
   ·rw[hQ]
    exact⟨_,aT,bO hD2 _,rfl⟩
   ·intro j v τ H5 R' hv h next
    rw[hQ] at h
    obtain⟨z,c1,c2,rfl⟩:=h
    rw[Dq] at hv
    obtain⟨o,ho,rfl⟩:=EB.mp hv
    have oi:=nL c m k o (EI (Ds ho))
    have lj:=(yp.mp ho).1
    rw[Dt] at lj
    obtain⟨r,hr'⟩:∃ r:Nat,o=(r:Int):=⟨o.toNat,by exact Oz53 oi⟩
    subst hr'
    have en:(nameOf c m k)[j]?=some (97+r):=by
     unfold nameOf
     rw[Dq,ho]
     rfl
    trivial
    refine⟨by decide,97+r,dX (oE r (by exact Oz90 oi)),_,c1,by rw[iz,Dt,gO]; exact Nat.lt_of_lt_of_le (m:=64) (by omega) (by decide),next _ _ ?_⟩
    rw[hQ]
    refine⟨_,?_,dI c2 hD2 _,rfl⟩
    rw[aT,El,en,DH]
    rfl
   ·intro τ H5 h
    rw[hQ] at h
    obtain⟨z,c1,c2,rfl⟩:=h
    rw[iz,Dt,sle,Dw (by rw[gO]; omega)] at c1
    have dl5:=(S4.trans c2) _ _ dl
    refine⟨_,rfl,_,SqL.of c1,by rw[gO]; omega,_,dl5,by rw[iz,iz,DW]; exact Nat.lt_of_lt_of_le (m:=64) (by exact Oz97 hk) (by decide),?_⟩
    rw[hP]
    refine⟨_,_,_,?_,dI (EX.trans (S4.trans c2)) hl _,rfl⟩
    rw[aT,Ga,DH,DH]
    rfl
  ·rw[if_neg hA]
   have p0:=DB (m / 24) (show (1+m % 8:Int)≠0 by exact Oz62)
   have p1:=Dv (m / 24) (show (0:Int)<1+m % 8 by exact Oz11)
   obtain⟨p,hp⟩:∃ p:Nat,m / 24 % (1+m % 8)=(p:Int):=⟨_,(Int.toNat_of_nonneg p0).symm⟩
   have p1':=p1
   rw[hp] at p1'
   have atp:atI ((gW c).map V.int) (m / 24 % (1+m % 8))=some (.int ((gW c).getD p 0)):=by
    rw[hp]
    have:=mU (ns:=gW c) (k:=(p:Int)) (by exact Oz35) (by omega)
    rwa [EA] at this
   refine⟨cdiv (by decide) (by decide),by exact Oz11,_,SqL.of dD,_,atp,_,rfl,by decide,cdiv (by decide) (by decide),by exact Oz11,_,dD,p,by rw[hp,iz]; exact pQ (by omega),?_⟩
   have es:signs c m k=(gW c).set p (((gW c).getD p 0+(0+(k:Int))) % 26):=by
    unfold signs
    rw[if_neg hA,hp,EA]
   rw[← JW,← es]
   have esz:(1+m % 8)=((gT m k:Nat):Int):=by
    unfold gT
    rw[if_neg hA]
    omega
   have HDn:H1 D=none:=e.free hD
   obtain⟨H3,g3,S3,dD3⟩:∃ H3,H3=upd H2 D (.lst ((signs c m k).map V.int))∧Same H1 H3∧H3 D=some (.lst ((signs c m k).map V.int)):=⟨_,rfl,dI (e.trans S2) HDn _,aT⟩
   have dl3:H3 l=some (.lst (((DJ k).map (nameOf c m)).map fun cs=>V.str (txt cs))):=by rw[g3,aZ DL]; exact dl
   rw[← g3]
   clear g3 dD dl
   have dD:=dD3
   have dl:=dl3
   have EX:=S3
   refine⟨.inl ⟨rfl,_,SqL.of dl⟩,rfl,_,SqL.of dD,fun s1 hs1=>?_⟩
   rw[esz,oJ]
   have sin:=lH m k
   have sle:=l5 c m k
   obtain⟨H4,g4,S4,L4⟩:∃ H4,H4=upd H3 s1 (.lst (((signs c m k).map V.int).take (gT m k)))∧Same H3 H4∧H4 s1=some (.lst (((signs c m k).take (gT m k)).map V.int)):=⟨_,rfl,bO hs1 _,by rw[aT,Fx]⟩
   rw[← g4]
   clear g4
   refine⟨⟨_,SqL.of L4⟩,fun D2 hD2=>?_⟩
   obtain⟨Pd,hQ⟩:∃ Pd:Nat→St→Hp→Prop,Pd=fun j τ H5=>∃ z,H5 D2=some (.lst (((nameOf c m k).take j).map sgn))∧Same H4 H5∧τ=[some (.str lettersS),z]:=⟨_,rfl⟩
   refine fR (((signs c m k).take (gT m k)).map V.int) Pd ?_ (fun j τ H5 _ h=>by rw[hQ] at h; obtain⟨z,_,e,_⟩:=h; exact SqL.of (e _ _ L4)) ?_ ?_
   ·rw[hQ]
    exact⟨_,aT,bO hD2 _,rfl⟩
   ·intro j v τ H5 R' hv h next
    rw[hQ] at h
    obtain⟨z,c1,c2,rfl⟩:=h
    rw[Dq] at hv
    obtain⟨o,ho,rfl⟩:=EB.mp hv
    have oi:=nL c m k o (EI (Ds ho))
    have lj:=(yp.mp ho).1
    rw[Dt] at lj
    obtain⟨r,hr'⟩:∃ r:Nat,o=(r:Int):=⟨o.toNat,by exact Oz53 oi⟩
    subst hr'
    have en:(nameOf c m k)[j]?=some (97+r):=by
     unfold nameOf
     rw[Dq,ho]
     rfl
    trivial
    refine⟨by decide,97+r,dX (oE r (by exact Oz90 oi)),_,c1,by rw[iz,Dt,gO]; exact Nat.lt_of_lt_of_le (m:=64) (by omega) (by decide),next _ _ ?_⟩
    rw[hQ]
    refine⟨_,?_,dI c2 hD2 _,rfl⟩
    rw[aT,El,en,DH]
    rfl
   ·intro τ H5 h
    rw[hQ] at h
    obtain⟨z,c1,c2,rfl⟩:=h
    rw[iz,Dt,sle,Dw (by rw[gO]; omega)] at c1
    have dl5:=(S4.trans c2) _ _ dl
    refine⟨_,rfl,_,SqL.of c1,by rw[gO]; omega,_,dl5,by rw[iz,iz,DW]; exact Nat.lt_of_lt_of_le (m:=64) (by exact Oz97 hk) (by decide),?_⟩
    rw[hP]
    refine⟨_,_,_,?_,dI (EX.trans (S4.trans c2)) hl _,rfl⟩
    rw[aT,Ga,DH,DH]
    rfl
 ·intro σ H' h
  rw[hP] at h
  obtain⟨x,y,z,dl,e,rfl⟩:=h
  trivial
  refine q _ _ _ (S1.trans e) hlH dl ⟨by rw[iz,DW],fun cs hcs=>?_,fun i j hi hj h=>?_⟩
  ·obtain⟨k,_,rfl⟩:=DZ.mp hcs
   exact ug c m k
  ·have gi:∀ n:Nat,n<4→((DJ 4).map (nameOf c m)).getD n []=nameOf c m n:=fun n hn=>by
    rw[Er,Dq,HC hn]
    rfl
   rw[gi i hi,gi j hj] at h
   exact tu hi hj h
inductive TpD (H:Hp):List V→List (List V)→Prop
 | nil:TpD H [] []
 | cons {p:Addr} {r:List V} {xs:List V} {rs:List (List V)}:H p=some (.tup r)→TpD H xs rs→TpD H (.ref p::xs) (r::rs)
def TpD.same {rs:List (List V)} (h:TpD H xs rs) (e:Same H H'):TpD H' xs rs:=by
 induction h with
 | nil=>exact .nil
 | cons a _ ih=>exact .cons (e _ _ a) ih
def TpD.upd {H:Hp} {l:Addr} {ys zs:List V} {xs:List V} {rs:List (List V)} (h:TpD H xs rs) (hl:H l=some (.lst ys)):TpD (upd H l (.lst zs)) xs rs:=by
 induction h with
 | nil=>exact .nil
 | @cons p r xs rs a _ ih =>
  refine .cons ?_ ih
  have n:p≠l:=fun e=>by rw[e,hl] at a; cases a
  rw[aZ n]
  exact a
def TpD.snoc {rs:List (List V)} {p:Addr} {r:List V} (h:TpD H xs rs) (e:H p=some (.tup r)):TpD H (xs++[.ref p]) (rs++[r]):=by
 induction h with
 | nil=>exact .cons e .nil
 | cons a _ ih=>exact .cons a ih
def TpD.length {rs:List (List V)} (h:TpD H xs rs):xs.length=rs.length:=by
 induction h with
 | nil=>rfl
 | cons _ _ ih=>rw[DF,DF,ih]
def TpD.at {H:Hp} {xs:List V} {rs:List (List V)} (h:TpD H xs rs):∀ {i:Nat} {r:List V},rs[i]?=some r→∃ p,xs[i]?=some (.ref p)∧H p=some (.tup r):=by
 induction h with
 | nil=>intro i x e; simp at e
 | cons a _ ih =>
  intro i x e
  cases i with
  | zero=>cases e; exact⟨_,rfl,a⟩
  | succ i=>exact ih e
abbrev Kd2:Type:=List Nat×List Nat
noncomputable def kRow (k:Kd2):List V:=[.str (txt k.1),.str (txt k.2)]
structure KsOk (ks:List Kd2):Prop where
 l1:1≤ks.length
 l4:ks.length≤4
 name:∀ k∈ks,nameB k.1=true∧nameB k.2=true
 nd:ks.Nodup
def u9 (K:cy):Sp:=fun vs H Q _=>∃ (a:Addr) (ns:List Int),vs=[.ref a]∧SqL K H a (ns.map V.int)∧∀ (l:Addr) (xs:List V) (ks:List Kd2) (H':Hp),Same H H'→H l=none→H' l=some (.lst xs)→TpD H' xs (ks.map kRow)→KsOk ks→Q (.ref l) H'
noncomputable def gu (c st:Int) (k:Nat):Nat:=((c / 64+st * (0+(k:Int))) % 16).toNat
def kh (c st:Int) (k:Nat):gu c st k<16∧((c / 64+st * (0+(k:Int))) % 16)=((gu c st k:Nat):Int):=by
 have a:=DB (c / 64+st * (0+(k:Int))) (show (16:Int)≠0 by decide)
 have b:=Dv (c / 64+st * (0+(k:Int))) (show (0:Int)<16 by decide)
 unfold gu
 omega
def xy {c st:Int} (h:st=1∨st=4∨st=5∨st=7) {i j:Nat} (hi:i<4) (hj:j<4) (e:gu c st i=gu c st j):i=j:=by
 have a:=(kh c st i).2
 have b:=(kh c st j).2
 rw[e] at a
 rcases h with rfl | rfl | rfl | rfl <;> omega
def rQ (F:Fun K "_law_kinds" "_law_kinds" ej f fd) (M:Mg mg) (am:Cal P w K mg base CX0 "_law_cell_at" 1 ["_law_script","_law_k"] (kF K)) (cI:Cal P w K mg base CX0 "_law_names" 1 ["_law_cell","_law_more"] (uT K)):FnOk P w K mg base CX0 2 f fd ["_law_script"] (u9 K):=by
 refine F.ok ak.fs (fun vs H Q E h=>?_) (fun cdv A outer s H vs Q E hr h=>?_)
 ·obtain⟨a,ns,rfl,_⟩:=h
  rfl
 obtain⟨a,ns,rfl,hS,q⟩:=h
 refine⟨_,(`f (`h 1 ak (`e am hr rfl (`a (`b 0 ak rfl) (`a `c `o (aN rfl)) (aN rfl)) (by decide) rfl (aN rfl) (cg rfl aW)) rfl) (`f (`h 2 ak (`e cI hr rfl (`a (`e am hr rfl (`a (`b 0 ak rfl) (`a `c `o (aN rfl)) (aN rfl)) (by decide) rfl (aN rfl) (cg rfl aW)) (`a (`e am hr rfl (`a (`b 0 ak rfl) (`a `c `o (aN rfl)) (aN rfl)) (by decide) rfl (aN rfl) (cg rfl aW)) `o (aN rfl)) (aN rfl)) (by decide) rfl (aN rfl) (cg rfl aW)) rfl) (`f (`h 3 ak (`e cI hr rfl (`a (`e am hr rfl (`a (`b 0 ak rfl) (`a `c `o (aN rfl)) (aN rfl)) (by decide) rfl (aN rfl) (cg rfl aW)) (`a (`e am hr rfl (`a (`b 0 ak rfl) (`a `c `o (aN rfl)) (aN rfl)) (by decide) rfl (aN rfl) (cg rfl aW)) `o (aN rfl)) (aN rfl)) (by decide) rfl (aN rfl) (cg rfl aW)) rfl) (`f (`h 4 ak (@iM _ _ _ _ _ _ _ (`a `c (`a `c (`a `c (`a `c (`a `c (`a `c (`a `c (`a `c (`a `c (`a `c (`a `c (`a `c (`a `c (`a `c (`a `c (`a `c `o (aN rfl)) (aN rfl)) (aN rfl)) (aN rfl)) (aN rfl)) (aN rfl)) (aN rfl)) (aN rfl)) (aN rfl)) (aN rfl)) (aN rfl)) (aN rfl)) (aN rfl)) (aN rfl)) (aN rfl)) (aN rfl)) (`d (@dF _) (`b 1 ak rfl) `c) (fun _ _=>rfl)) rfl) (`f (`h 5 ak (@iM _ _ _ _ _ _ _ (`a `c (`a `c (`a `c (`a `c `o (aN rfl)) (aN rfl)) (aN rfl)) (aN rfl)) (`d (@dF _) (`d (@dY _) (`b 1 ak rfl) `c) `c) (fun _ _=>rfl)) rfl) (`f (`h 6 ak (@fS _ _ _ _ `o) rfl) (`f (@jx _ _ _ _ _ _ _ _ FQ rfl (@iT _ _ _ _ _ _ rfl M.m_range (`a (`b 4 ak rfl) `o (aN rfl)) (star1' rfl)) (@dH _ _ 7 _ ak.nd rfl (ScV.loc ak 7 rfl) (.inl rfl)) (`f (`h 8 ak (`d (@dF _) (`d (@gQ _) (`d (@dY _) (`b 1 ak rfl) `c) (`d (@k8 _) (`b 5 ak rfl) (`b 7 ak rfl))) `c) rfl) (`n (@gY _ _ _ _ (@iG _ _ _ _ _ _ _ _ _ _ _ _ DQ EO ER iS (`b 6 ak rfl) (`a (`j (`a (`g (@ix_list _) (`b 2 ak rfl) (`d (@dF _) (`b 8 ak rfl) `c) (fun _ _=>rfl)) (`a (`g (@ix_list _) (`b 3 ak rfl) (`d (@dY _) (`b 8 ak rfl) `c) (fun _ _=>rfl)) `o (aN rfl)) (aN rfl))) `o (aN rfl)) (by rfl) (by rfl) (by rfl) (by rfl) (by rfl)) (fV rfl)))) (by intro _; rfl)) (`n (`q (`b 6 ak rfl)))))))))),?_⟩
 trivial
 refine fm hS (by decide) ?_
 trivial
 refine fm hS (by decide) (fm hS (by decide) ⟨_,_,rfl,fun s1 fs H1 S1 hs1 L1 F1=>?_⟩)
 trivial
 refine fm (S1.seq hS) (by decide) (fm (S1.seq hS) (by decide) ⟨_,_,rfl,fun s2 gs H2 S2 hs2 L2' F2=>?_⟩)
 trivial
 have S02:=S1.trans S2
 replace L1:=S2 _ _ L1
 generalize cellAt ns 0=c at *
 have m0:=DB c (show (16:Int)≠0 by decide)
 have m1:=Dv c (show (0:Int)<16 by decide)
 have t0:=DB (c / 16) (show (4:Int)≠0 by decide)
 have t1:=Dv (c / 16) (show (0:Int)<4 by decide)
 obtain⟨many,hmany,em⟩:=uP (xs:=[1,1,2,2,2,2,2,2,2,2,3,3,3,3,3,4]) m0 m1
 obtain⟨st,hst,et⟩:=uP (xs:=[1,4,5,7]) t0 t1
 have mi:1≤many∧many≤4:=by
  simp only [Du,List.not_mem_nil,or_false] at hmany
  omega
 simp only [Du,List.not_mem_nil,or_false] at hst
 have si:1≤st∧st≤7:=by omega
 refine⟨by decide,by decide,m0,_,em,by decide,cdiv (by decide) (by decide),by decide,t0,_,et,by decide,fun l hl=>⟨_,rfl,by omega,by omega,?_⟩⟩
 have hlH:H l=none:=S02.free hl
 obtain⟨kOf,hkOf⟩:∃ kOf:Nat→Kd2,kOf=fun k=>(fs.getD (gu c st k % 4) [],gs.getD (gu c st k / 4) []):=⟨_,rfl⟩
 have l1s:=F1.len
 have l2s:=F2.len
 obtain⟨Pv,hP⟩:∃ Pv:Nat→St→Hp→Prop,Pv=fun k σ H'=>∃ xs y z,H' l=some (.lst xs)∧TpD H' xs (((DJ k).map kOf).map kRow)∧Same H2 H'∧σ=[some (.ref a),some (.int c),some (.ref s1),some (.ref s2),some (.int many),some (.int st),some (.ref l),y,z]:=⟨_,rfl⟩
 refine i8 Pv ?_ ?_ ?_
 ·rw[hP]
  exact⟨[],_,_,aT,.nil,bO hl _,rfl⟩
 ·intro k σ H' hk h
  rw[hP] at h
  obtain⟨xs,y,z,dl,td,e,rfl⟩:=h
  obtain⟨sp1,sp2⟩:=kh c st k
  have a1:atI (fs.map fun cs=>V.str (txt cs)) ((gu c st k:Nat) % 4:Int)=some (.str (txt (kOf k).1)):=by
   rw[show ((gu c st k:Nat):Int) % 4=((gu c st k % 4:Nat):Int) by omega]
   refine dX ?_
   rw[Dq,Dm (show gu c st k % 4<fs.length by exact Oz27 l1s),hkOf]
   show some _=some (V.str (txt (fs.getD (gu c st k % 4) [])))
   rw[getD_at (show gu c st k % 4<fs.length by exact Oz27 l1s)]
  have a2:atI (gs.map fun cs=>V.str (txt cs)) ((gu c st k:Nat) / 4:Int)=some (.str (txt (kOf k).2)):=by
   rw[show ((gu c st k:Nat):Int) / 4=((gu c st k / 4:Nat):Int) by omega]
   refine dX ?_
   rw[Dq,Dm (show gu c st k / 4<gs.length by exact Oz54 l2s sp2),hkOf]
   show some _=some (V.str (txt (gs.getD (gu c st k / 4) [])))
   rw[getD_at (show gu c st k / 4<gs.length by exact Oz54 l2s sp2)]
  have len:=td.length
  rw[iz,iz,DW] at len
  trivial
  refine⟨cdiv (by decide) (by decide),rN (by omega) (by omega) (by exact Oz50) (by omega),by decide,?_⟩
  rw[sp2]
  refine⟨.inl ⟨rfl,_,SqL.of dl⟩,by decide,_,SqL.of (e _ _ L1),_,a1,cdiv (by decide) (by decide),_,SqL.of (e _ _ L2'),_,a2,by decide,fun p hp=>?_⟩
  obtain⟨H3,g3,S3,T3⟩:∃ H3,H3=upd H' p (.tup (kRow (kOf k)))∧Same H' H3∧H3 p=some (.tup (kRow (kOf k))):=⟨_,rfl,bO hp _,aT⟩
  have g3':H3=upd H' p (.tup [V.str (txt (kOf k).1),V.str (txt (kOf k).2)]):=g3
  rw[← g3']
  clear g3 g3'
  have d3:=S3 _ _ dl
  refine⟨_,d3,Nat.lt_of_lt_of_le (m:=64) (by omega) (by decide),?_⟩
  rw[hP]
  refine⟨_,_,_,aT,?_,dI (e.trans S3) hl _,rfl⟩
  rw[Ga,DH,DH]
  exact ((td.same S3).snoc T3).upd d3
 ·intro σ H' h
  rw[hP] at h
  obtain⟨xs,y,z,dl,td,e,rfl⟩:=h
  trivial
  refine q _ _ _ _ (S02.trans e) hlH dl td ⟨?_,?_,fun k hk=>?_,?_⟩
  ·rw[iz,DW]
   omega
  ·rw[iz,DW]
   omega
  ·obtain⟨i,hi,rfl⟩:=DZ.mp hk
   obtain⟨sp1,_⟩:=kh c st i
   rw[hkOf]
   constructor
   ·show nameB (fs.getD (gu c st i % 4) [])=true
    rw[getD_at (show gu c st i % 4<fs.length by omega)]
    exact F1.name _ (Gu _)
   ·show nameB (gs.getD (gu c st i / 4) [])=true
    rw[getD_at (show gu c st i / 4<gs.length by omega)]
    exact F2.name _ (Gu _)
  ·rw[List.nodup_iff_pairwise_ne,List.pairwise_map]
   refine List.Pairwise.imp_of_mem (fun {i j} hi hj hne he=>?_) List.nodup_range
   have hi':=ES.mp hi
   have hj':=ES.mp hj
   obtain⟨u1,_⟩:=kh c st i
   obtain⟨u2,_⟩:=kh c st j
   rw[hkOf] at he
   have e1:gu c st i % 4=gu c st j % 4:=F1.apart _ _ (by omega) (by omega) (congrArg Prod.fst he)
   have e2:gu c st i / 4=gu c st j / 4:=F2.apart _ _ (by omega) (by omega) (congrArg Prod.snd he)
   have e3:gu c st i=gu c st j:=by
    have:=Nat.div_add_mod (gu c st i) 4
    have:=Nat.div_add_mod (gu c st j) 4
    omega
   exact hne (xy hst (by exact Oz70 mi hi') (by exact Oz70 mi hj') e3)
abbrev okKind (k:Kd2):Prop:=nameB k.1=true∧nameB k.2=true
def gJ {cs:List Nat} (h:nameB cs=true):asc cs∧cs.length≤8:=by
 unfold nameB at h
 rw[E8,decide_eq_true_iff] at h
 refine⟨Ek.mpr fun c hc=>decide_eq_true ?_,h.1.2⟩
 have:=Ek.mp h.2 c hc
 unfold kO at this
 rw[E8,decide_eq_true_iff,decide_eq_true_iff] at this
 omega
def jb {cs:List Nat} (h:nameB cs=true):NameV K H (.str (txt cs)) true:=by
 have a:=gJ h
 have:=NameV.txt (K:=K) (H:=H) a.1 (show cs.length≤1000 by omega)
 rwa [h] at this
noncomputable def kD (k:Kd2):PyData:=.tuple [.str (txt k.1),.str (txt k.2)]
def iQ {p:Addr} {k:Kd2} (h:SqT K H p (kRow k)):Rep K H (.ref p) (kD k):=.tup h (.cons (.str _) (.cons (.str _) .nil))
def kG {k:Kd2} (h:okKind k):iC (kD k):=by
 have sk:∀ {cs:List Nat},nameB cs=true→DN (.str (txt cs))=true:=fun {cs} hn=>by
  have a:=(gJ hn).1
  show (txt cs).cps.all (·<0x110000)=true
  rw[List.all_toArray,Ek]
  intro c hc
  have:=of_decide_eq_true (Ek.mp a c hc)
  exact decide_eq_true (by exact Oz117 this)
 refine⟨?_,by show max 0 (max 0 0)+1≤40; decide⟩
 show (DN (.str (txt k.1)) && (DN (.str (txt k.2)) && true))=true
 rw[sk h.1,sk h.2]
 rfl
def pP {a b:List Nat}:(txt a == txt b)=decide (a=b):=by
 by_cases h:a=b
 ·subst h
  rw[decide_eq_true rfl]
  exact beq_self_eq_true _
 ·rw[decide_eq_false h]
  refine beq_false_of_ne fun e=>h ?_
  have:=congrArg (fun s:Str=>s.cps.toList) e
  simpa using this
def lQ (k k':Kd2):Eu (kD k) (kD k')=decide (k=k'):=by
 obtain⟨a,b⟩:=k
 obtain⟨c,d⟩:=k'
 show ((txt a == txt c) && ((txt b == txt d) && true))=_
 rw[pP,pP]
 by_cases h1:a=c <;> by_cases h2:b=d <;> simp [h1,h2]
inductive KnA (K:cy) (H:Hp):List V→List Kd2→Prop
 | nil:KnA K H [] []
 | cons {p:Addr} {k:Kd2} {xs:List V} {ks:List Kd2}:SqT K H p (kRow k)→KnA K H xs ks→KnA K H (.ref p::xs) (k::ks)
def KnA.same {ks:List Kd2} (h:KnA K H xs ks) (e:Same H H'):KnA K H' xs ks:=by
 induction h with
 | nil=>exact .nil
 | cons a _ ih=>exact .cons (Same.tup e a) ih
def KnA.length {ks:List Kd2} (h:KnA K H xs ks):xs.length=ks.length:=by
 induction h with
 | nil=>rfl
 | cons _ _ ih=>rw[DF,DF,ih]
def KnA.at {K:cy} {H:Hp} {xs:List V} {ks:List Kd2} (h:KnA K H xs ks):∀ {i:Nat} {x:V},xs[i]?=some x→∃ p k,x=.ref p∧ks[i]?=some k∧SqT K H p (kRow k):=by
 induction h with
 | nil=>intro i x e; simp at e
 | cons a _ ih =>
  intro i x e
  cases i with
  | zero=>cases e; exact⟨_,_,rfl,rfl,a⟩
  | succ i=>exact ih e
def KnA.rep {ks:List Kd2} (h:KnA K H xs ks):RepAll K H xs (ks.map kD):=by
 induction h with
 | nil=>exact .nil
 | cons a _ ih=>exact .cons (iQ a) ih
def TpD.kna:∀ {ks:List Kd2} {xs:List V},TpD H xs (ks.map kRow)→KnA K H xs ks
 | [],_,.nil=>.nil
 | k::ks,_,.cons a t=>.cons (SqT.of a) (TpD.kna t)
theorem j7:∀ {ks:List Kd2},(∀ k∈ks,okKind k)→Ea (ks.map kD)=true∧DO (ks.map kD)≤1
 | [],_=>⟨rfl,by decide⟩
 | k::ks,h=>by
  obtain⟨a,b⟩:=j7 fun k' hk=>h k' (DI _ hk)
  have f:=kG (h k (DX ..))
  refine⟨?_,?_⟩
  ·show (DN (kD k) && Ea (ks.map kD))=true
   rw[f.1,a]
   rfl
  ·show max (max 0 (max 0 0)+1) (DO (ks.map kD))≤1
   omega
theorem rF (k:Kd2):∀ ks:List Kd2,((ks.map kD).any fun y=>Eu y (kD k))=decide (k∈ks)
 | []=>rfl
 | c::ks=>by
  rw[D8,FT,rF k ks,lQ]
  by_cases h:c=k
  ·subst h
   simp
  ·rw[decide_eq_false h,Ir]
   by_cases h2:k∈ks
   ·rw[decide_eq_true h2,decide_eq_true (DI _ h2)]
   ·rw[decide_eq_false h2,decide_eq_false (by simp only [Du,not_or]; exact⟨fun e=>h e.symm,h2⟩)]
def yK {p l:Addr} {k:Kd2} {ks:List Kd2} (h1:SqT K H p (kRow k)) (o1:okKind k) (L:SqL K H l xs) (A:KnA K H xs ks) (ok:∀ k∈ks,okKind k) (hq:Q (.bl (if neg then !decide (k∈ks) else decide (k∈ks))) H):rP K neg (.ref p) (.ref l) H Q:=by
 obtain⟨f1,f2⟩:=j7 ok
 refine⟨l,kD k,ks.map kD,rfl,iQ h1,.inl (.lst L A.rep),kG o1,⟨f1,?_⟩,?_⟩
 ·show DO (ks.map kD)+1≤40
  exact Oz31 f2
 ·rw[rF]
  exact hq
def AQ {l p:Addr} {zs r:List V} (hl:H l=some (.lst ys)) (h:H p=some (.tup r)):upd H l (.lst zs) p=some (.tup r):=by
 have n:p≠l:=fun e=>by rw[e,hl] at h; cases h
 rw[aZ n]
 exact h
def SqT.upd {K:cy} {H:Hp} {l p:Addr} {ys zs r:List V} (h:SqT K H p r) (hl:H l=some (.lst ys)):SqT K (upd H l (.lst zs)) p r:=by
 rcases h with (h | ⟨o,h⟩) | h
 ·exact .inl (.inl (AQ hl h))
 ·refine .inl (.inr ⟨o,?_⟩)
  rw[aZ (fun e=>by rw[e,hl] at h; cases h)]
  exact h
 ·exact .inr h
def Kd.upd {K:cy} {H:Hp} {l:Addr} {ys zs:List V} {v:V} {k:Kn} (h:Kd K H v k) (hl:H l=some (.lst ys)):Kd K (upd H l (.lst zs)) v k:=by
 cases v with
 | ref a =>
  rcases h with ⟨rfl,xs,h⟩ | ⟨rfl,xs,h⟩ | ⟨rfl,h⟩
  ·by_cases e:a=l
   ·subst e
    exact .inl ⟨rfl,zs,SqL.of aT⟩
   ·rcases h with (h | ⟨o,h⟩) | h
    ·exact .inl ⟨rfl,xs,.inl (.inl (by rw[aZ e]; exact h))⟩
    ·exact .inl ⟨rfl,xs,.inl (.inr ⟨o,by rw[aZ e]; exact h⟩)⟩
    ·exact .inl ⟨rfl,xs,.inr h⟩
  ·exact .inr (.inl ⟨rfl,xs,SqT.upd h hl⟩)
  ·exact .inr (.inr ⟨rfl,by rw[aZ (fun e=>by rw[e,hl] at h; cases h)]; exact h⟩)
 | _=>exact h
def NameV.upd {K:cy} {H:Hp} {l:Addr} {ys zs:List V} {v:V} {b:Bool} (h:NameV K H v b) (hl:H l=some (.lst ys)):NameV K (upd H l (.lst zs)) v b:=by
 cases h with
 | no a c=>exact .no (Kd.upd a hl) c
 | txt a c=>exact .txt a c
def KindV.upd {K:cy} {H:Hp} {l:Addr} {ys zs:List V} {v:V} {b:Bool} (h:KindV K H v b) (hl:H l=some (.lst ys)):KindV K (upd H l (.lst zs)) v b:=by
 cases h with
 | no a c=>exact .no (Kd.upd a hl) c
 | len a c=>exact .len (SqT.upd a hl) c
 | two a c d=>exact .two (SqT.upd a hl) (c.upd hl) (d.upd hl)
def qd {x y:V} {d:PyData} (h1:Rep K H x d) (h2:Rep K H y d) (fd:iC d) (hq:Q (.bl (!neg)) H):pq K neg x y H Q :=
 ⟨d,d,h1,h2,fd,fd,by
  rw[SeqAt.eqv_refl d fd.1]
  cases neg with
  | true=>exact hq
  | false=>exact hq⟩
inductive KindV2 (K:cy) (H:Hp):List V→List Bool→Prop
 | nil:KindV2 K H [] []
 | cons {x:V} {b:Bool} {xs:List V} {bs:List Bool}:KindV K H x b→KindV2 K H xs bs→KindV2 K H (x::xs) (b::bs)
def KindV2.same {bs:List Bool} (h:KindV2 K H xs bs) (e:Same H H'):KindV2 K H' xs bs:=by
 induction h with
 | nil=>exact .nil
 | cons a _ ih=>exact .cons (a.same e) ih
def KindV2.length {bs:List Bool} (h:KindV2 K H xs bs):xs.length=bs.length:=by
 induction h with
 | nil=>rfl
 | cons _ _ ih=>rw[DF,DF,ih]
def KindV2.at {K:cy} {H:Hp} {xs:List V} {bs:List Bool} (h:KindV2 K H xs bs):∀ {i:Nat} {x:V},xs[i]?=some x→∃ b,bs[i]?=some b∧KindV K H x b:=by
 induction h with
 | nil=>intro i x e; simp at e
 | cons a _ ih =>
  intro i x e
  cases i with
  | zero=>cases e; exact⟨_,rfl,a⟩
  | succ i=>exact ih e
def KnA.v2 {ks:List Kd2} (h:KnA K H xs ks) (ok:∀ k∈ks,okKind k):KindV2 K H xs (ks.map fun _=>true):=by
 induction h with
 | nil=>exact .nil
 | @cons p k xs ks a _ ih =>
  have o:=ok k (DX ..)
  exact .cons (KindV.two a (jb o.1) (jb o.2)) (ih fun k' hk=>ok k' (DI _ hk))
inductive KindsV (K:cy) (H:Hp):V→Bool→Prop
 | no {v:V} {k:Kn}:Kd K H v k→k≠.lst→KindsV K H v false
 | len {l:Addr} {xs:List V}:SqL K H l xs→¬(1≤xs.length∧xs.length≤4)→KindsV K H (.ref l) false
 | bad {l:Addr} {xs:List V} {bs:List Bool}:SqL K H l xs→1≤xs.length→xs.length≤4→KindV2 K H xs bs→bs.all id=false→KindsV K H (.ref l) false
 | good {l:Addr} {xs:List V} {ks:List Kd2}:SqL K H l xs→1≤xs.length→xs.length≤4→KnA K H xs ks→(∀ k∈ks,okKind k)→KindsV K H (.ref l) (decide ks.Nodup)
def KindsV.same {b:Bool} (h:KindsV K H v b) (e:Same H H'):KindsV K H' v b:=by
 cases h with
 | no a c=>exact .no (iK e a) c
 | len a c=>exact .len (e.seq a) c
 | bad a c d f g=>exact .bad (e.seq a) c d (f.same e) g
 | good a c d f g=>exact .good (e.seq a) c d (f.same e) g
def SqL.upd {K:cy} {H:Hp} {l a:Addr} {zs r:List V} (h:SqL K H a r) (e:a≠l):SqL K (upd H l (.lst zs)) a r:=by
 rcases h with (h | ⟨o,h⟩) | h
 ·exact .inl (.inl (by rw[aZ e]; exact h))
 ·exact .inl (.inr ⟨o,by rw[aZ e]; exact h⟩)
 ·exact .inr h
def KindV2.upd {K:cy} {H:Hp} {l:Addr} {ys zs xs:List V} {bs:List Bool} (h:KindV2 K H xs bs) (hl:H l=some (.lst ys)):KindV2 K (upd H l (.lst zs)) xs bs:=by
 induction h with
 | nil=>exact .nil
 | cons a _ ih=>exact .cons (a.upd hl) ih
def KnA.upd {K:cy} {H:Hp} {l:Addr} {ys zs xs:List V} {ks:List Kd2} (h:KnA K H xs ks) (hl:H l=some (.lst ys)):KnA K (upd H l (.lst zs)) xs ks:=by
 induction h with
 | nil=>exact .nil
 | cons a _ ih=>exact .cons (SqT.upd a hl) ih
def KindsV.upd {K:cy} {H:Hp} {l:Addr} {ys zs:List V} {v:V} {b:Bool} (h:KindsV K H v b) (hl:H l=some (.lst ys)) (hv:v≠.ref l):KindsV K (upd H l (.lst zs)) v b:=by
 cases h with
 | no a c=>exact .no (Kd.upd a hl) c
 | len a c=>exact .len (SqL.upd a fun e=>hv (by rw[e])) c
 | bad a c d f g=>exact .bad (SqL.upd a fun e=>hv (by rw[e])) c d (f.upd hl) g
 | good a c d f g=>exact .good (SqL.upd a fun e=>hv (by rw[e])) c d (f.upd hl) g
def oK (K:cy):Sp:=fun vs H Q _=>∃ v b,vs=[v]∧KindsV K H v b∧∀ H',Same H H'→Q (.bl b) H'
def tX {k:Kn} (h:k≠.lst):fN k .lst=false:=by
 cases k <;> first | rfl | exact absurd rfl h
def vI {l:Addr} {bs:List Bool} {E:XK} (L:SqL K H l xs) (B:KindV2 K H xs bs) (hD:H D=none) (q:∀ H',Same H H'→SqL K H' D (bs.map V.bl)→Q (.ref D) H')
  (hl:xs.length≤40:=by omega):jf D (Itl K l) (lB 0) wR (nV (lU K) [] E (xO (nM 0) zY)) Q [none] (upd H D (.lst [])):=by
 obtain⟨Pc,hC⟩:∃ Pc:Nat→St→Hp→Prop,Pc=fun i τ H'=>∃ z,H' D=some (.lst ((bs.take i).map V.bl))∧Same H H'∧τ=[z]:=⟨_,rfl⟩
 refine fR xs Pc ?_ (fun i τ H' _ h=>by rw[hC] at h; obtain⟨z,_,e,_⟩:=h; exact e.seq L) ?_ ?_
 ·rw[hC]
  exact⟨_,aT,bO hD _,rfl⟩
 ·intro i x τ H' R hx h next
  rw[hC] at h
  obtain⟨z,d1,d2,rfl⟩:=h
  obtain⟨b,hb,Bx⟩:=B.at hx
  have li:i<xs.length:=(yp.mp hx).1
  trivial
  refine⟨_,_,rfl,Bx.same d2,fun H2 e2=>⟨_,e2 _ _ d1,?_,next _ _ ?_⟩⟩
  ·rw[iz,Dt]
   exact Nat.lt_of_lt_of_le (m:=64) (by omega) (by decide)
  ·rw[hC]
   refine⟨_,?_,dI (d2.trans e2) hD _,rfl⟩
   rw[aT,El,hb,DH]
   rfl
 ·intro τ H' h
  rw[hC] at h
  obtain⟨z,d1,d2,rfl⟩:=h
  rw[Dw (by rw[B.length]; exact Nat.le_refl _)] at d1
  exact q _ d2 (SqL.of d1)
theorem n9 (k:Kd2):∀ ks:List Kd2,((ks.map kD).countP fun z=>Eu z (kD k))=ks.count k
 | []=>rfl
 | c::ks=>by
  rw[D8,List.countP_cons,n9 k ks,Je,lQ]
  by_cases h:c=k
  ·rw[decide_eq_true h,if_pos rfl,if_pos (by rw[h]; exact beq_self_eq_true _)]
  ·rw[decide_eq_false h,if_neg (by decide),if_neg (by intro e; exact h (eq_of_beq e))]
def uc {l p:Addr} {k:Kd2} {ks:List Kd2} (h1:SqT K H p (kRow k)) (o1:okKind k) (L:SqL K H l xs) (A:KnA K H xs ks) (ok:∀ k∈ks,okKind k) (hq:Q (.int (ks.count k)) H):vC K (.ref l) [.ref p] H Q:=by
 obtain⟨f1,f2⟩:=j7 ok
 refine⟨l,.ref p,kD k,ks.map kD,rfl,rfl,iQ h1,.lst L A.rep,kG o1,⟨f1,?_⟩,?_⟩
 ·show DO (ks.map kD)+1≤40
  exact Oz31 f2
 ·rw[n9]
  exact hq
def ux {ks:List Kd2}:(ks.map fun k=>decide ((ks.count k:Int)=1)).all id=decide ks.Nodup:=by
 by_cases h:ks.Nodup
 ·rw[decide_eq_true h,Ek]
  intro b hb
  obtain⟨k,hk,rfl⟩:=DZ.mp hb
  have:ks.count k=1:=by rw[h.count,if_pos hk]
  rw[this]
  rfl
 ·rw[decide_eq_false h]
  rw[Ih]
  intro e
  refine h (List.nodup_iff_count.mpr fun k=>?_)
  by_cases hk:k∈ks
  ·have:=Ek.mp e _ (DZ.mpr ⟨k,hk,rfl⟩)
   have:=of_decide_eq_true this
   omega
  ·rw[List.count_eq_zero_of_not_mem hk]
   exact Nat.zero_le _
def sL (F:Fun K "are_kinds" "are_kinds" d9 f fd) (M:Mg mg) (bA:Cal P w K mg base CX0 "is_kind" 2 ["thing"] (lU K)):FnOk P w K mg base CX0 3 f fd ["thing"] (oK K):=by
 refine F.ok bx.fs (fun vs H Q E h=>?_) (fun cdv A outer s H vs Q E hr h=>?_)
 ·obtain⟨v,b,rfl,_⟩:=h
  rfl
 obtain⟨v,b,rfl,N,q⟩:=h
 refine⟨_,(`f (`m (@PW.pt _ _ _ (@jr _ _ _ _ _ _ _ (@gc _ _ _ _ (@fP _ _ _ (`i gB rfl M.m_isinstance fj (`a (`b 0 bx rfl) (`a (@gH _ _ (.ty "list") _ _ rfl M.m_list kr rfl a8 rfl) `o (aN rfl)) (aN rfl)) ar rfl (aN rfl) (cg rfl aW)) (fZ rfl))) (@jt _ _ _ _ (@gc _ _ _ _ (@lM _ _ _ _ _ _ _ _ _ _ _ _ j6 j6 `c (`i cQ rfl M.m_len fM (`a (`b 0 bx rfl) `o (aN rfl)) aq rfl (aN rfl) aW) `c (by with_unfolding_all rfl)))))) (`n (`q (@fY _ _ _ _))) (@dw _)) (`f (`m (@gc _ _ _ _ (@fP _ _ _ (`i (jm rfl) rfl M.m_all mZ (`a (`r rfl (CompOk.make (N':=["kind"]) (ix:=[]) (nl:=1) (by rfl) fm0 (by rfl) (by decide +kernel) rfl (by decide +kernel) rfl DY) (@gw _ _ _ _ (`b 0 bx rfl)) (fun _ _ _ _ _=>(@dH _ _ 0 _ (show D5 (["kind"]:List Str) from by decide) rfl (Or.inl rfl) (by first | exact .inl rfl | exact .inr rfl | assumption))) (fun _ _ _ _ _=>(@gx _)) (fun _ _ _ _ _=>(`e bA hr rfl (`a (@pv _ 0 _ _ (by rfl) (by decreasing_trivial) (by decide) (by decide)) `o (aN rfl)) (by decide) rfl (aN rfl) aW)) (by intro _; rfl)) `o (aN rfl)) dG rfl (aN rfl) aW) (fZ rfl))) (`n (`q (@fY _ _ _ _))) (@dw _)) (`n (`q (`i (jm rfl) rfl M.m_all mZ (`a (`r rfl (CompOk.make (N':=["thing","kind"]) (ix:=[0]) (nl:=1) (by rfl) (fm1 rfl fm0) (by rfl) (by decide +kernel) rfl (by decide +kernel) rfl (EH ⟨rfl,.inl rfl,.inl rfl⟩ DY)) (@gw _ _ _ _ (`b 0 bx rfl)) (fun _ _ _ _ _=>(@dH _ _ 1 _ (show D5 (["thing","kind"]:List Str) from by decide) rfl (Or.inl rfl) (by first | exact .inl rfl | exact .inr rfl | assumption))) (fun _ _ _ _ _=>(@gx _)) (fun _ _ _ _ _=>(@ig _ _ _ _ _ _ _ _ (@fk _) (@BG _ K _ _ _ _ _ _ _ _ _ _ _ rfl DQ ID IE (qH (K:=K) rfl (jk hr)) (@pv _ 0 _ _ (by rfl) (by decreasing_trivial) (by decide) (by decide)) (`a (@pv _ 1 _ _ (by rfl) (by decreasing_trivial) (by decide) (by decide)) `o (aN rfl)) (by rfl) (by rfl) (by rfl) (by rfl) (by rfl)) `c (dm _))) (by intro _; rfl)) `o (aN rfl)) dG rfl (aN rfl) aW))))),?_⟩
 trivial
 cases N with
 | no kd hk =>
  refine⟨_,kd,?_⟩
  rw[if_pos (tX hk)]
  exact q _ (Same.refl _)
 | @len l xs L hl =>
  refine⟨_,Kd.lst L,?_⟩
  rw[if_neg (by decide)]
  refine⟨_,rfl,_,.inl L,?_⟩
  by_cases h1:1≤(xs.length:Int)
  ·rw[if_pos h1,if_neg (by omega)]
   exact q _ (Same.refl _)
  ·rw[if_neg h1]
   exact q _ (Same.refl _)
 | @bad l xs bs L l1 l40 B ba =>
  refine⟨_,Kd.lst L,?_⟩
  rw[if_neg (by decide)]
  refine⟨_,rfl,_,.inl L,?_⟩
  rw[if_pos (by exact Oz39 l1),if_pos (by exact Oz116 l40)]
  refine⟨_,rfl,⟨_,L⟩,fun D hD=>vI L B hD fun H1 S1 L1=>⟨_,rfl,_,L1,?_⟩⟩
  rw[if_pos ba]
  exact q _ S1
 | @good l xs ks L l1 l40 KA okk =>
  refine⟨_,Kd.lst L,?_⟩
  rw[if_neg (by decide)]
  refine⟨_,rfl,_,.inl L,?_⟩
  rw[if_pos (by exact Oz39 l1),if_pos (by exact Oz116 l40)]
  refine⟨_,rfl,⟨_,L⟩,fun D hD=>vI L (KA.v2 okk) hD fun H1 S1 L1=>⟨_,rfl,_,L1,?_⟩⟩
  have at':(ks.map fun _=>true).all id=true:=by
   rw[HS,Ek]
   intro _ _
   rfl
  rw[if_neg (by rw[at']; decide)]
  have len:=KA.length
  refine⟨_,rfl,⟨_,S1.seq L⟩,fun D2 hD2=>?_⟩
  obtain⟨Pc,hC⟩:∃ Pc:Nat→St→Hp→Prop,Pc=fun i τ H'=>∃ z,H' D2=some (.lst (((ks.map fun k=>decide ((ks.count k:Int)=1)).take i).map V.bl))∧Same H1 H'∧τ=[some (.ref l),z]:=⟨_,rfl⟩
  refine fR xs Pc ?_ (fun i τ H' _ h=>by rw[hC] at h; obtain⟨z,_,e,_⟩:=h; exact (S1.trans e).seq L) ?_ ?_
  ·rw[hC]
   exact⟨_,aT,bO hD2 _,rfl⟩
  ·intro i x τ H' R' hx h next
   rw[hC] at h
   obtain⟨z,d1,d2,rfl⟩:=h
   have KA':=KA.same (S1.trans d2)
   have L':=(S1.trans d2).seq L
   obtain⟨p,k,rfl,hk,Tk⟩:=KA'.at hx
   have li:i<xs.length:=(yp.mp hx).1
   trivial
   refine⟨.inl ⟨rfl,_,L'⟩,uc Tk (okk k (Ds hk)) L' KA' okk ⟨rfl,_,d1,?_,next _ _ ?_⟩⟩
   ·rw[iz,Dt,iz]
    exact Nat.lt_of_lt_of_le (m:=64) (by omega) (by decide)
   ·rw[hC]
    refine⟨_,?_,dI d2 hD2 _,rfl⟩
    have ed:decide (V.int (ks.count k:Int)=V.int 1)=decide ((ks.count k:Int)=1):=decide_eq_decide.mpr ⟨fun e=>by injection e,fun e=>by rw[e]⟩
    rw[aT,El,Dq,hk,DH,ed]
    rfl
  ·intro τ H' h
   rw[hC] at h
   obtain⟨z,d1,d2,rfl⟩:=h
   rw[Dw (by rw[iz]; omega)] at d1
   refine⟨_,rfl,_,SqL.of d1,?_⟩
   rw[ux]
   exact q _ (S1.trans d2)
def ql (K:cy) (cN:Addr):Sp:=fun vs H Q E=>∃ v b,vs=[v]∧KindsV K H v b∧(b=true→∃ (l:Addr) (xs:List V),v=.ref l∧SqL K H l xs∧∀ (m:Addr) (H':Hp),Same H H'→H m=none→H' m=some (.lst xs)→Q (.ref m) H')∧(b=false→∀ H',Same H H'→E (.ref cN) none H')
def uf {c_NoKinds:Addr} (F:Fun K "kinds_of" "kinds_of" eX f fd) (M:Mg mg) (eB:Cal P w K mg base CX0 "are_kinds" 3 ["thing"] (oK K)) (R_NoKinds:XRaise K mg "NoKinds" c_NoKinds):FnOk P w K mg base (CXE P w) 4 f fd ["some"] (ql K c_NoKinds):=by
 refine F.okX ee.fs (fun vs H Q E h=>?_) (fun cdv A outer s H vs Q E hr h=>?_)
 ·obtain⟨v,b,rfl,_⟩:=h
  rfl
 obtain⟨v,b,rfl,N,qt,qf⟩:=h
 refine⟨_,(`f (`m (@gc _ _ _ _ (@fP _ _ _ (`e eB hr rfl (`a (`b 0 ee rfl) `o (aN rfl)) (by decide) rfl (aN rfl) aW) (fZ rfl))) (`n (@iH _ _ _ _ _ _ _ _ _ _ _ iw hr rfl R_NoKinds (`a `p `o (aN rfl)) (aN rfl) (by rfl) rfl)) (@dw _)) (`n (`q (@gF _ _ _ _ _ _ _ _ _ iU rfl M.m_list kr (`a (`b 0 ee rfl) `o (aN rfl)) a8 rfl (aN rfl) aW)))),?_⟩
 trivial
 refine⟨_,_,rfl,N,fun H1 S1=>⟨_,rfl,?_⟩⟩
 cases b with
 | false =>
  rw[if_pos rfl]
  exact⟨by decide,qf rfl _ S1⟩
 | true =>
  rw[if_neg (by decide)]
  obtain⟨l,xs,rfl,L,q⟩:=qt rfl
  exact⟨_,rfl,_,.inl (S1.seq L),fun m hm=>q _ _ (S1.trans (bO hm _)) (S1.free hm) aT⟩
end _y
namespace _B
open _y PySem _l
noncomputable def top (i:Nat):Stmt:=PySem.Challenge.pw_tariffgate_k42_trees_refused.main.body.getD i (.Pass ⟨0,0,0,0⟩)
def jg:NnB "set":=by decide
def gv:NnB "sorted":=by decide
def jh:NnB "any":=by decide
abbrev fu:Stmt:=top 17
def gj:ScV ["weights","weight"] ["weights","weight"] fu:=scv (by decide +kernel)
abbrev fw:Stmt:=top 18
def gm:ScV ["weights"] ["weights"] fw:=scv (by decide +kernel)
abbrev fW:Stmt:=top 19
def bB:ScV ["weights","places"] ["weights"] fW:=scv (by decide +kernel)
abbrev fA:Stmt:=top 20
def aD:ScV ["many","rows","place","longer","row"] ["many"] fA:=scv (by decide +kernel)
abbrev eC:Stmt:=top 21
def bC:ScV ["many","looks"] ["many"] eC:=scv (by decide +kernel)
open PySem._setl in
theorem vn (ws:List Int) (w:Int):∀ i,i≤ws.length→(∀ k,(((ws.take i).filter fun o=>decide (0<o∧o≤w)).foldl addS (fun _=>false,0)).1 k=decide (k∈(ws.take i).filter fun o=>decide (0<o∧o≤w)))∧(((ws.take i).filter fun o=>decide (0<o∧o≤w)).foldl addS (fun _=>false,0)).2=((DJ i).filter (_mthl.pk ws w)).length
 | 0,_=>⟨fun k=>by rw[FW]; rfl,by rw[FW]; rfl⟩
 | i+1,h=>by
  obtain⟨h1,h2⟩:=vn ws w i (by omega)
  have li:i<ws.length:=h
  have et:ws.take (i+1)=ws.take i++[ws.getD i 0]:=by
   rw[El,Dm li,_y.getD_at li]
   rfl
  rw[et,EC,Ga,EC]
  generalize hx:ws.getD i 0=x at *
  have mem:∀ k,k∈ws.take i↔∃ j,j<i∧ws.getD j 0=k:=fun k=>by
   constructor
   ·intro hk
    obtain⟨j,hj,e⟩:=Hw hk
    rw[Dt] at hj
    exact⟨j,by omega,by rw[_y.getD_at (show j<ws.length by omega),← e,List.getElem_take]⟩
   ·intro ⟨j,hj,e⟩
    rw[← e,_y.getD_at (show j<ws.length by omega)]
    exact List.mem_take_iff_getElem.mpr ⟨j,by omega,rfl⟩
  by_cases hf:0<x∧x≤w
  ·have ef:[x].filter (fun o=>decide (0<o∧o≤w))=[x]:=by
    rw[Ex (by rw[decide_eq_true hf])]
    rfl
   rw[ef,List.foldl_append]
   generalize hq:((ws.take i).filter fun o=>decide (0<o∧o≤w)).foldl addS (fun _=>false,0)=p at *
   refine⟨fun k=>?_,?_⟩
   ·show (p.1 k || decide (k=x))=_
    rw[h1 k]
    by_cases a:k∈(ws.take i).filter fun o=>decide (0<o∧o≤w)
    ·rw[decide_eq_true a,decide_eq_true (Fd _ a)]
     rfl
    ·rw[decide_eq_false a,Ir]
     by_cases b:k=x
     ·rw[decide_eq_true b,decide_eq_true (DM _ (DA.mpr b))]
     ·rw[decide_eq_false b,decide_eq_false]
      intro z
      rcases DV.mp z with z | z
      ·exact a z
      ·exact b (DA.mp z)
   ·show (if p.1 x=true then p.2 else p.2+1)=_
    rw[h1 x,h2,Dp]
    by_cases a:x∈(ws.take i).filter fun o=>decide (0<o∧o≤w)
    ·rw[if_pos (decide_eq_true a)]
     obtain⟨j,hj,e⟩:=(mem x).mp (FH.mp a).1
     have:_mthl.pk ws w i=false:=by
      cases e2:_mthl.pk ws w i with
      | false=>rfl
      | true =>
       rw[_mthl.pk_true,hx] at e2
       exact absurd e (e2.2.2 j hj)
     rw[Em (by rw[this]; decide)]
     rfl
    ·rw[if_neg (by rw[decide_eq_false a]; decide)]
     have:_mthl.pk ws w i=true:=by
      rw[_mthl.pk_true,hx]
      refine⟨hf.1,hf.2,fun j hj e=>a (FH.mpr ⟨(mem x).mpr ⟨j,hj,e⟩,decide_eq_true hf⟩)⟩
     rw[Ex this]
     rfl
  ·have ef:[x].filter (fun o=>decide (0<o∧o≤w))=[]:=by
    rw[Em (by rw[decide_eq_false hf]; decide)]
    rfl
   have:_mthl.pk ws w i=false:=by
    cases e2:_mthl.pk ws w i with
    | false=>rfl
    | true =>
     rw[_mthl.pk_true,hx] at e2
     exact absurd ⟨e2.1,e2.2.1⟩ hf
   rw[ef,D9,Em (by rw[this]; decide),Gb,D9]
   exact⟨h1,h2⟩
def yY (K:cy):Sp:=fun vs H Q _=>∃ (p:Addr) (ws:List Int) (w:Int),vs=[.ref p,.int w]∧Sq K H p (ws.map V.int)∧ws.length≤4∧∀ H',Same H H'→Q (.int (_mthl.rk ws w:Nat)) H'
def rH (K:cy):Sp:=fun vs H Q _=>∃ (p:Addr) (ws:List Int),vs=[.ref p]∧Sq K H p (ws.map V.int)∧ws.length≤4∧∀ (t:Addr) (H':Hp),Same H H'→H t=none→H' t=some (.tup ((_mthl.look ws).map V.int))→Q (.ref t) H'
def wL (F:Fun K "rank_in" "rank_in" fu f fd) (M:Mg mg):FnOk P w K mg base CX0 1 f fd ["weights","weight"] (yY K):=by
 refine F.ok gj.fs (fun vs H Q E h=>?_) (fun cdv A outer s H vs Q E hr h=>?_)
 ·obtain⟨p,ws,w',rfl,_⟩:=h
  rfl
 obtain⟨p,ws,w',rfl,hS,l4,q⟩:=h
 refine⟨_,(`n (`q (`i qR rfl M.m_len fM (`a (@gF _ _ _ _ _ _ _ _ _ (uo rfl) rfl M.m_set C3 (`a (`r rfl (CompOk.make (N':=["weight","other"]) (ix:=[1]) (nl:=1) (by rfl) (fm1 rfl fm0) (by rfl) (by decide +kernel) rfl (by decide +kernel) rfl (EH ⟨rfl,.inl rfl,.inl rfl⟩ DY)) (@yf _ _ _ _ (`b 0 gj rfl)) (fun _ _ _ _ _=>(@dH _ _ 1 _ (show D5 (["weight","other"]:List Str) from by decide) rfl (Or.inl rfl) (by first | exact .inl rfl | exact .inr rfl | assumption))) (fun _ _ _ _ _=>(@iO _ _ _ (@lM _ _ _ _ _ _ _ _ _ _ _ _ (@qX _) j6 `c (@pv _ 1 _ _ (by rfl) (by decreasing_trivial) (by decide) (by decide)) (@pv _ 0 _ _ (by rfl) (by decreasing_trivial) (by decide) (by decide)) (by with_unfolding_all rfl)))) (fun _ _ _ _ _=>(@pv _ 1 _ _ (by rfl) (by decreasing_trivial) (by decide) (by decide))) (by intro _; rfl)) `o (aN rfl)) jg rfl (aN rfl) aW) `o (aN rfl)) aq rfl (aN rfl) aW))),?_⟩
 trivial
 obtain⟨Pc,hC⟩:∃ Pc:Addr→Nat→St→Hp→Prop,Pc=fun D i τ H'=>∃ z,H' D=some (.lst (((ws.take i).filter fun o=>decide (0<o∧o≤w')).map V.int))∧Same H H'∧τ=[some (.int w'),z]:=⟨_,rfl⟩
 refine qy (ws.map V.int) hS _ Pc ?_ (fun D i τ H' hD h=>by rw[hC] at h; obtain⟨z,_,e,_⟩:=h; exact e) ?_ ?_
 ·intro D hD
  rw[hC]
  exact⟨_,aT,bO hD _,rfl⟩
 ·intro D i x τ H' R' hD hx h next
  rw[hC] at h
  obtain⟨z,d1,d2,rfl⟩:=h
  rw[Dq] at hx
  obtain⟨o,ho,rfl⟩:=EB.mp hx
  have li:=(yp.mp ho).1
  have et:(ws.take (i+1)).filter (fun o=>decide (0<o∧o≤w'))=(ws.take i).filter (fun o=>decide (0<o∧o≤w'))++[o].filter (fun o=>decide (0<o∧o≤w')):=by
   rw[El,ho,EC]
   rfl
  have ll:((ws.take i).filter fun o=>decide (0<o∧o≤w')).length≤4:=by
   have:=D6 (fun o:Int=>decide (0<o∧o≤w')) (ws.take i)
   rw[Dt] at this
   omega
  have no:¬(0<o∧o≤w')→R' [some (.int w'),some (.int o)] H':=fun hf=>by
   refine next _ _ ?_
   rw[hC]
   refine⟨_,?_,d2,rfl⟩
   rw[et,Em (by rw[decide_eq_false hf]; decide),Gb,D9]
   exact d1
  trivial
  by_cases h1:0<o
  ·rw[if_pos h1]
   by_cases h2:o≤w'
   ·rw[if_pos h2]
    refine⟨_,d1,by rw[iz]; exact Nat.lt_of_lt_of_le (m:=64) (by exact Oz89 ll) (by decide),next _ _ ?_⟩
    rw[hC]
    refine⟨_,?_,dI d2 hD _,rfl⟩
    rw[aT,et,Ex (by rw[decide_eq_true ⟨h1,h2⟩]),DH]
    rfl
   ·rw[if_neg h2]
    exact no (by omega)
  ·rw[if_neg h1]
   exact no (by omega)
 ·intro D τ H' hD h
  rw[hC] at h
  obtain⟨z,d1,d2,rfl⟩:=h
  rw[iz,Dw (Nat.le_refl _)] at d1
  refine⟨_,rfl,_,SqL.of d1,?_,fun l hl=>⟨_,_,aT,?_⟩⟩
  ·exact Nat.lt_of_le_of_lt (D6 ..) (by omega)
  ·have:=(vn ws w' ws.length (Nat.le_refl _)).2
   rw[Dw (Nat.le_refl _)] at this
   rw[this]
   exact q _ (d2.trans (bO hl _))
def w9 (F:Fun K "look_of" "look_of" fw f fd) (M:Mg mg) (fC:Cal P w K mg base CX0 "rank_in" 1 ["weights","weight"] (yY K)):FnOk P w K mg base CX0 2 f fd ["weights"] (rH K):=by
 refine F.ok gm.fs (fun vs H Q E h=>?_) (fun cdv A outer s H vs Q E hr h=>?_)
 ·obtain⟨p,ws,rfl,_⟩:=h
  rfl
 obtain⟨p,ws,rfl,hS,l4,q⟩:=h
 refine⟨_,(`n (`q (@gF _ _ _ _ _ _ _ _ _ kT rfl M.m_tuple iN (`a (`r rfl (CompOk.make (N':=["weights","weight"]) (ix:=[0]) (nl:=1) (by rfl) (fm1 rfl fm0) (by rfl) (by decide +kernel) rfl (by decide +kernel) rfl (EH ⟨rfl,.inl rfl,.inl rfl⟩ DY)) (@yf _ _ _ _ (`b 0 gm rfl)) (fun _ _ _ _ _=>(@dH _ _ 1 _ (show D5 (["weights","weight"]:List Str) from by decide) rfl (Or.inl rfl) (by first | exact .inl rfl | exact .inr rfl | assumption))) (fun _ _ _ _ _=>(@gx _)) (fun _ _ _ _ _=>(`e fC hr rfl (`a (@pv _ 0 _ _ (by rfl) (by decreasing_trivial) (by decide) (by decide)) (`a (@pv _ 1 _ _ (by rfl) (by decreasing_trivial) (by decide) (by decide)) `o (aN rfl)) (aN rfl)) (by decide) rfl (aN rfl) (cg rfl aW))) (by intro _; rfl)) `o (aN rfl)) aL rfl (aN rfl) aW))),?_⟩
 trivial
 obtain⟨Pc,hC⟩:∃ Pc:Addr→Nat→St→Hp→Prop,Pc=fun D i τ H'=>∃ z,H' D=some (.lst (((_mthl.look ws).take i).map V.int))∧Same H H'∧τ=[some (.ref p),z]:=⟨_,rfl⟩
 refine qy (ws.map V.int) hS _ Pc ?_ (fun D i τ H' hD h=>by rw[hC] at h; obtain⟨z,_,e,_⟩:=h; exact e) ?_ ?_
 ·intro D hD
  rw[hC]
  exact⟨_,aT,bO hD _,rfl⟩
 ·intro D i x τ H' R' hD hx h next
  rw[hC] at h
  obtain⟨z,d1,d2,rfl⟩:=h
  rw[Dq] at hx
  obtain⟨o,ho,rfl⟩:=EB.mp hx
  have li:=(yp.mp ho).1
  trivial
  refine⟨_,_,_,rfl,uZ d2 hS,l4,fun H2 e2=>⟨_,e2 _ _ d1,?_,next _ _ ?_⟩⟩
  ·rw[iz,Dt,_mthl.look_len]
   exact Nat.lt_of_lt_of_le (m:=64) (by exact Oz61 l4) (by decide)
  ·rw[hC]
   refine⟨_,?_,dI (d2.trans e2) hD _,rfl⟩
   have el:(_mthl.look ws)[i]?=some ((_mthl.rk ws o:Nat):Int):=by
    unfold _mthl.look
    rw[Dq,ho]
    rfl
   rw[aT,El,el,DH]
   rfl
 ·intro D τ H' hD h
  rw[hC] at h
  obtain⟨z,d1,d2,rfl⟩:=h
  rw[iz,Dw (by rw[_mthl.look_len]; exact Nat.le_refl _)] at d1
  refine⟨_,rfl,_,SqL.of d1,fun t ht=>?_⟩
  exact q _ _ (d2.trans (bO ht _)) (d2.free ht) aT
noncomputable def plN (ws:List Int):List Nat:=(DJ ws.length).filter fun i=>decide (ws.getD i 0≠0)
noncomputable def keyOf (ws:List Int):Int×List Int×List Int:=((plN ws).length,(plN ws).map fun i:Nat=>(i:Int),(plN ws).map fun i=>ws.getD i 0)
structure KeyAt (K:cy) (H:Hp) (p:Addr) (k:Int×List Int×List Int):Prop where
 ex:∃ a b,SqT K H p [.int k.1,.ref a,.ref b]∧SqT K H a (k.2.1.map V.int)∧SqT K H b (k.2.2.map V.int)
theorem kQ {K:cy} {H:Hp}:∀ ns:List Int,RepAll K H (ns.map V.int) (ns.map PyData.int)
 | []=>.nil
 | n::ns=>.cons (.int n) (kQ ns)
def oW (K:cy):Sp:=fun vs H Q _=>∃ (p:Addr) (ws:List Int),vs=[.ref p]∧Sq K H p (ws.map V.int)∧ws.length≤4∧∀ (t:Addr) (H':Hp),Same H H'→KeyAt K H' t (keyOf ws)→Q (.ref t) H'
def yj (F:Fun K "key_of" "key_of" fW f fd) (M:Mg mg):FnOk P w K mg base CX0 1 f fd ["weights"] (oW K):=by
 refine F.ok bB.fs (fun vs H Q E h=>?_) (fun cdv A outer s H vs Q E hr h=>?_)
 ·obtain⟨p,ws,rfl,_⟩:=h
  rfl
 obtain⟨p,ws,rfl,hS,l4,q⟩:=h
 refine⟨_,(`f (`h 1 bB (@gF _ _ _ _ _ _ _ _ _ kT rfl M.m_tuple iN (`a (`r rfl (CompOk.make (N':=["place","weight"]) (ix:=[]) (nl:=2) (by rfl) fm0 (by rfl) (by decide +kernel) rfl (by decide +kernel) rfl DY) (@qY _ _ _ _ _ (@lF _ _ _ _ _ _ _ _ rfl M.m_enumerate (`a (`b 0 bB rfl) `o (aN rfl)) (by rfl)) (@lS _ _ _ _ _ _ _ _ rfl M.m_enumerate (`a (`b 0 bB rfl) `o (aN rfl)) (by rfl))) (fun _ _ _ _ _=>(@mQ _ K _ _ 2 _ _ rfl rfl (@gD _ _ _ _ _ (@dH _ _ 0 _ (show D5 (["place","weight"]:List Str) from by decide) rfl (Or.inl rfl) (by first | exact .inl rfl | exact .inr rfl | assumption)) (@gD _ _ _ _ _ (@dH _ _ 1 _ (show D5 (["place","weight"]:List Str) from by decide) rfl (Or.inl rfl) (by first | exact .inl rfl | exact .inr rfl | assumption)) (@j9 _) (by rfl)) (by rfl)) (by rfl) (by rfl))) (fun _ _ _ _ _=>(@iO _ _ _ (`k (@nT _) (@pv _ 1 _ _ (by rfl) (by decreasing_trivial) (by decide) (by decide)) `c (dm _)))) (fun _ _ _ _ _=>(@pv _ 0 _ _ (by rfl) (by decreasing_trivial) (by decide) (by decide))) (by intro _; rfl)) `o (aN rfl)) aL rfl (aN rfl) aW) rfl) (`n (`q (`j (`a (`i cQ rfl M.m_len fM (`a (`b 1 bB rfl) `o (aN rfl)) aq rfl (aN rfl) aW) (`a (`b 1 bB rfl) (`a (@gF _ _ _ _ _ _ _ _ _ kT rfl M.m_tuple iN (`a (`r rfl (CompOk.make (N':=["weights","place"]) (ix:=[0]) (nl:=1) (by rfl) (fm1 rfl fm0) (by rfl) (by decide +kernel) rfl (by decide +kernel) rfl (EH ⟨rfl,.inl rfl,.inl rfl⟩ DY)) (@yl _ _ _ _ (`b 1 bB rfl)) (fun _ _ _ _ _=>(@dH _ _ 1 _ (show D5 (["weights","place"]:List Str) from by decide) rfl (Or.inl rfl) (by first | exact .inl rfl | exact .inr rfl | assumption))) (fun _ _ _ _ _=>(@gx _)) (fun _ _ _ _ _=>(`g (AN (K:=K) rfl) (@pv _ 0 _ _ (by rfl) (by decreasing_trivial) (by decide) (by decide)) (@pv _ 1 _ _ (by rfl) (by decreasing_trivial) (by decide) (by decide)) (fun _ _=>rfl))) (by intro _; rfl)) `o (aN rfl)) aL rfl (aN rfl) aW) `o (aN rfl)) (aN rfl)) (aN rfl)))))),?_⟩
 trivial
 obtain⟨Pc,hC⟩:∃ Pc:Addr→Nat→St→Hp→Prop,Pc=fun D i τ H'=>∃ y z,H' D=some (.lst (((DJ i).filter fun j=>decide (ws.getD j 0≠0)).map fun j:Nat=>V.int (j:Int)))∧Same H H'∧τ=[y,z]:=⟨_,rfl⟩
 refine jG (ws.map V.int) hS _ Pc ?_ (fun D i τ H' hD h=>by rw[hC] at h; obtain⟨y,z,_,e,_⟩:=h; exact e) ?_ ?_
 ·intro D hD
  rw[hC]
  exact⟨_,_,aT,bO hD _,rfl⟩
 ·intro D i x T τ H' R' hD hx h hT next
  rw[hC] at h
  obtain⟨y,z,d1,d2,rfl⟩:=h
  rw[Dq] at hx
  obtain⟨o,ho,rfl⟩:=EB.mp hx
  have li:=(yp.mp ho).1
  have eo:ws.getD i 0=o:=by rw[Er,ho]; rfl
  obtain⟨H2,g2,S2,T2⟩:=bN (K:=K) hT [.int i,.int o]
  rw[← g2]
  clear g2
  replace d1:=S2 _ _ d1
  replace d2:=d2.trans S2
  have ep:(DJ (i+1)).filter (fun j=>decide (ws.getD j 0≠0))=(DJ i).filter (fun j=>decide (ws.getD j 0≠0))++[i].filter (fun j=>decide (ws.getD j 0≠0)):=by
   rw[Ga,EC]
  have lp:((DJ i).filter fun j=>decide (ws.getD j 0≠0)).length≤4:=by
   have:=D6 (fun j=>decide (ws.getD j 0≠0)) (DJ i)
   rw[DW] at this
   omega
  trivial
  refine⟨_,T2,rfl,?_⟩
  trivial
  by_cases hz:o=0
  ·rw[if_pos hz]
   refine next _ _ ?_
   rw[hC]
   refine⟨_,_,?_,d2,rfl⟩
   rw[ep,Em (by rw[eo]; simp [hz]),Gb,D9]
   exact d1
  ·rw[if_neg hz]
   refine⟨_,d1,by rw[iz]; exact Nat.lt_of_lt_of_le (m:=64) (by exact Oz89 lp) (by decide),next _ _ ?_⟩
   rw[hC]
   refine⟨_,_,?_,dI d2 hD _,rfl⟩
   rw[aT,ep,Ex (by rw[eo]; simp [hz]),DH]
   rfl
 ·intro D τ H' hD h
  rw[hC] at h
  obtain⟨y,z,d1,d2,rfl⟩:=h
  rw[iz] at d1
  have ed:((DJ ws.length).filter fun j=>decide (ws.getD j 0≠0))=plN ws:=rfl
  rw[ed] at d1
  have em:((plN ws).map fun j:Nat=>V.int (j:Int))=((plN ws).map fun i:Nat=>(i:Int)).map V.int:=by rw[JV]; rfl
  rw[em] at d1
  have lp:(plN ws).length≤4:=by
   have:=D6 (fun j=>decide (ws.getD j 0≠0)) (DJ ws.length)
   rw[DW] at this
   unfold plN
   omega
  refine⟨_,rfl,_,SqL.of d1,fun t ht=>?_⟩
  obtain⟨H2,g2,S2,T2⟩:=bN (K:=K) ht (((plN ws).map fun i:Nat=>(i:Int)).map V.int)
  rw[← g2]
  clear g2
  have S02:=d2.trans S2
  refine⟨_,.inr T2,⟨_,T2⟩,fun D2 hD2=>?_⟩
  obtain⟨Pd,hD'⟩:∃ Pd:Nat→St→Hp→Prop,Pd=fun i τ H'=>∃ z,H' D2=some (.lst ((((plN ws).take i).map fun i=>ws.getD i 0).map V.int))∧Same H2 H'∧τ=[some (.ref p),z]:=⟨_,rfl⟩
  refine mG (((plN ws).map fun i:Nat=>(i:Int)).map V.int) Pd ?_ (fun i τ H' _ h=>by rw[hD'] at h; obtain⟨z,_,e,_⟩:=h; exact Same.tup e T2) ?_ ?_
  ·rw[hD']
   exact⟨_,aT,bO hD2 _,rfl⟩
  ·intro i x τ H3 R' hx h next
   rw[hD'] at h
   obtain⟨z,c1,c2,rfl⟩:=h
   rw[Dq,Dq] at hx
   cases hpi:(plN ws)[i]? with
   | none=>rw[hpi] at hx; cases hx
   | some n =>
    rw[hpi] at hx
    cases hx
    have hn:n<ws.length:=by
     have:=Ds hpi
     unfold plN at this
     exact ES.mp (FH.mp this).1
    have li:=(yp.mp hpi).1
    have atn:atI (ws.map V.int) (n:Int)=some (.int (ws.getD n 0)):=by
     have:=mU (ns:=ws) (k:=(n:Int)) (by exact Oz35) (by exact Oz44 hn)
     rwa [show ((n:Int)).toNat=n by exact Oz52] at this
    trivial
    have fin:∃ ys,H3 D2=some (.lst ys)∧ys.length<sizeLine∧R' [some (.ref p),some (.int n)] (upd H3 D2 (.lst (ys++[.int (ws.getD n 0)]))):=by
     refine⟨_,c1,?_,next _ _ ?_⟩
     ·rw[iz,iz,Dt]
      exact Nat.lt_of_lt_of_le (m:=64) (by exact Oz61 lp) (by decide)
     ·rw[hD']
      refine⟨_,?_,dI c2 hD2 _,rfl⟩
      rw[aT,El,hpi,DH,DH]
      rfl
    rcases uZ (S02.trans c2) hS with hq | hq
    ·exact .inl ⟨_,hq,_,atn,fin⟩
    ·exact .inr ⟨_,hq,_,atn,fin⟩
  ·intro τ H3 h
   rw[hD'] at h
   obtain⟨z,c1,c2,rfl⟩:=h
   rw[iz,iz,Dw (Nat.le_refl _)] at c1
   refine⟨_,rfl,_,SqL.of c1,fun u hu=>⟨by decide,fun v hv=>?_⟩⟩
   obtain⟨H4,g4,S4,T4⟩:=bN (K:=K) hu (((plN ws).map fun i=>ws.getD i 0).map V.int)
   rw[← g4] at hv ⊢
   clear g4
   refine q _ _ (S02.trans (c2.trans (S4.trans (bO hv _)))) ⟨_,_,SqT.of ?_,Same.tup (c2.trans (S4.trans (bO hv _))) T2,Same.tup (bO hv _) T4⟩
   rw[aT,iz,iz]
   rfl
def Tps (K:cy) (H:Hp) (vs:List V) (rs:List (List Int)):Prop:=Paired (fun v r=>∃ p,v=V.ref p∧SqT K H p (r.map V.int)) vs rs
noncomputable def iP (n:Nat):Nat→List (List Int)
 | 0=>[[]]
 | k+1=>(iP n k).flatMap fun r=>(DJ (n+1)).map fun i:Nat=>r++[(i:Int)]
def Tps.same (e:Same H H'):∀ {vs:List V} {rs:List (List Int)},Tps K H vs rs→Tps K H' vs rs
 | _,_,.nil=>.nil
 | _,_,.cons ⟨p,h1,h2⟩ r=>.cons ⟨p,h1,Same.tup e h2⟩ (Tps.same e r)
def Tps.app {vs':List V} {rs':List (List Int)} (h':Tps K H vs' rs'):∀ {vs:List V} {rs:List (List Int)},Tps K H vs rs→Tps K H (vs++vs') (rs++rs')
 | _,_,.nil=>h'
 | _,_,.cons h r=>.cons h (Tps.app h' r)
def Tps.len {K:cy} {H:Hp}:∀ {vs:List V} {rs:List (List Int)},Tps K H vs rs→vs.length=rs.length
 | _,_,.nil=>rfl
 | _,_,.cons _ r=>by rw[DF,DF,Tps.len r]
def Tps.get:∀ {vs:List V} {rs:List (List Int)} {i:Nat} {v:V},Tps K H vs rs→vs[i]?=some v→∃ r p,rs[i]?=some r∧v=.ref p∧SqT K H p (r.map V.int)
 | _,_,_,_,.nil,h=>by cases h
 | _,_,0,_,.cons ⟨p,h1,h2⟩ _,h=>by
  cases h
  exact⟨_,p,rfl,h1,h2⟩
 | _,_,i+1,_,.cons _ r,h=>by
  rw[FU] at h
  obtain⟨r',p,a,b,c⟩:=Tps.get r h
  exact⟨r',p,by rw[FU]; exact a,b,c⟩
def kc {p:Addr} {us:List V} (hD:H D=some (.lst us)) (h:SqT K H p xs):SqT K (upd H D o) p xs:=by
 rcases h with (h | ⟨o',h⟩) | h
 ·exact .inl (.inl (by rw[aZ (fun z=>by rw[z,hD] at h; cases h)]; exact h))
 ·exact .inl (.inr ⟨o',by rw[aZ (fun z=>by rw[z,hD] at h; cases h)]; exact h⟩)
 ·exact .inr h
def Tps.upd {us:List V} (hD:H D=some (.lst us)):∀ {vs:List V} {rs:List (List Int)},Tps K H vs rs→Tps K (_l.upd H D o) vs rs
 | _,_,.nil=>.nil
 | _,_,.cons ⟨p,h1,h2⟩ r=>.cons ⟨p,h1,kc hD h2⟩ (Tps.upd hD r)
noncomputable def grow (n:Nat) (r:List Int):List (List Int):=(DJ (n+1)).map fun i:Nat=>r++[(i:Int)]
def lK (n k:Nat):iP n (k+1)=(iP n k).flatMap (grow n):=rfl
theorem nJ (n:Nat):∀ l:List (List Int),(l.flatMap (grow n)).length=l.length * (n+1)
 | []=>by simp
 | r::l=>by
  rw[List.flatMap_cons,Dp,nJ n l,DF,Nat.succ_mul]
  unfold grow
  rw[iz,DW,Nat.add_comm]
theorem mJ (n:Nat):∀ k,(iP n k).length=(n+1) ^ k
 | 0=>rfl
 | k+1=>by rw[lK,nJ,mJ n k,Nat.pow_succ]
theorem mh (n:Nat):∀ k,∀ r∈iP n k,r.length=k
 | 0,r,h=>by
  rw[DA.mp h]
  rfl
 | k+1,r,h=>by
  rw[lK] at h
  obtain⟨r',h1,h2⟩:=List.mem_flatMap.mp h
  obtain⟨i,_,rfl⟩:=DZ.mp h2
  rw[Dp,mh n k r' h1]
  rfl
def uG {n k:Nat} (hn:n≤4) (hk:k≤3):(iP n k).length≤125:=by
 rw[mJ]
 exact Nat.le_trans (Nat.pow_le_pow_left (show n+1≤5 by exact Oz40 hn) k) (Nat.pow_le_pow_right (n:=5) (by decide) hk)
def sA (K:cy):Sp:=fun vs H Q _=>∃ (n:Nat),vs=[.int n]∧1≤n∧n≤4∧∀ (l:Addr) (us:List V) (H':Hp),Same H H'→H l=none→H' l=some (.lst us)→Tps K H' us (iP n n)→Q (.ref l) H'
def xK (F:Fun K "rows_of" "rows_of" fA f fd) (M:Mg mg):FnOk P w K mg base CX0 1 f fd ["many"] (sA K):=by
 refine F.ok aD.fs (fun vs H Q E h=>?_) (fun cdv A outer s H vs Q E hr h=>?_)
 ·obtain⟨n,rfl,_⟩:=h
  rfl
 obtain⟨n,rfl,n1,n4,q⟩:=h
 refine⟨_,(`f (`h 1 aD (@fS _ _ _ _ (`a (`j `o) `o (aN rfl))) rfl) (`f (@jx _ _ _ _ _ _ _ _ FQ rfl (@iT _ _ _ _ _ _ rfl M.m_range (`a (`b 0 aD rfl) `o (aN rfl)) (star1' rfl)) (@dH _ _ 2 _ aD.nd rfl (ScV.loc aD 2 rfl) (.inl rfl)) (`f (`h 3 aD (@fS _ _ _ _ `o) rfl) (`f (@jx _ _ _ _ _ _ _ _ FQ rfl (@gw _ _ _ _ (`b 1 aD rfl)) (@dH _ _ 4 _ aD.nd rfl (ScV.loc aD 4 rfl) (.inl rfl)) (`n (@gY _ _ _ _ (@iG _ _ _ _ _ _ _ _ _ _ _ _ DQ Ii Ij qc (`b 3 aD rfl) (`a (`r rfl (CompOk.make (N':=["row","number"]) (ix:=[4]) (nl:=1) (by rfl) (fm1 rfl fm0) (by rfl) (by decide +kernel) rfl (by decide +kernel) rfl (EH ⟨rfl,.inl rfl,.inl rfl⟩ DY)) (@iT _ _ _ _ _ _ rfl M.m_range (`a (`d (@gQ _) (`b 0 aD rfl) `c) `o (aN rfl)) (star1' rfl)) (fun _ _ _ _ _=>(@dH _ _ 1 _ (show D5 (["row","number"]:List Str) from by decide) rfl (Or.inl rfl) (by first | exact .inl rfl | exact .inr rfl | assumption))) (fun _ _ _ _ _=>(@gx _)) (fun _ _ _ _ _=>(`d (kL (K:=K) rfl) (@pv _ 0 _ _ (by rfl) (by decreasing_trivial) (by decide) (by decide)) (`j (`a (@pv _ 1 _ _ (by rfl) (by decreasing_trivial) (by decide) (by decide)) `o (aN rfl))))) (by intro _; rfl)) `o (aN rfl)) (by rfl) (by rfl) (by rfl) (by rfl) (by rfl)) (fV rfl))) (by intro _; rfl)) (`n (`h 1 aD (`b 3 aD rfl) rfl)))) (by intro _; rfl)) (`n (`q (`b 1 aD rfl))))),?_⟩
 trivial
 refine⟨by decide,fun p hp=>⟨by decide,fun l hl=>⟨by omega,by omega,?_⟩⟩⟩
 have hlp:l≠p:=fun z=>by rw[z,aT] at hl; cases hl
 have hl0:H l=none:=by rw[aZ hlp] at hl; exact hl
 obtain⟨Pv,hP⟩:∃ Pv:Nat→St→Hp→Prop,Pv=fun i σ H'=>∃ (g:Addr) (us:List V) (x y z:Option V),H g=none∧H' g=some (.lst us)∧Tps K H' us (iP n i)∧Same H H'∧σ=[some (.int n),some (.ref g),x,y,z]:=⟨_,rfl⟩
 refine i8 Pv ?_ ?_ ?_
 ·rw[hP]
  exact⟨l,_,_,_,_,hl0,aT,.cons ⟨p,rfl,SqT.of (by rw[aZ (E6 hlp),aT]; rfl)⟩ .nil,(bO hp _).trans (bO hl _),rfl⟩
 ·intro i σ H' hi h
  rw[hP] at h
  obtain⟨g,us,x,y,z,hg,d1,T,e,rfl⟩:=h
  have hi':i<n:=by omega
  trivial
  refine⟨by decide,fun c hc=>?_⟩
  have hcH:H c=none:=e.free hc
  obtain⟨Pw,hW⟩:∃ Pw:Nat→St→Hp→Prop,Pw=fun j σ H2=>∃ (ws:List V) (z:Option V),H2 c=some (.lst ws)∧Tps K H2 ws (((iP n i).take j).flatMap (grow n))∧Same H' H2∧σ=[some (.int n),some (.ref g),some (.int (0+(i:Int))),some (.ref c),z]:=⟨_,rfl⟩
  refine⟨⟨us,SqL.of (bO hc _ _ _ d1)⟩,lY (K:=K) us Pw ?_ (fun j σ H2 _ h=>by rw[hW] at h; obtain⟨_,_,_,_,e2,_⟩:=h; exact SqL.of (e2 _ _ d1)) ?_ ?_⟩
  ·rw[hW]
   exact⟨[],_,aT,by rw[FW]; exact .nil,bO hc _,rfl⟩
  ·intro j v σ H2 hj h
   rw[hW] at h
   obtain⟨ws,z',d2,T2,e2,rfl⟩:=h
   obtain⟨r,pr,hr',rfl,hT⟩:=T.get hj
   trivial
   refine⟨.inl ⟨rfl,_,SqL.of d2⟩,by omega,by omega,fun D hD=>?_⟩
   have hDH:H' D=none:=e2.free hD
   have hT2:=Same.tup e2 hT
   have lr:r.length=i:=mh n i r (Et.mpr ⟨_,hr'⟩)
   obtain⟨Pc,hC⟩:∃ Pc:Nat→St→Hp→Prop,Pc=fun k τ H3=>∃ (ys:List V) (z:Option V),H3 D=some (.lst ys)∧Tps K H3 ys ((DJ k).map fun t:Nat=>r++[(t:Int)])∧Same H2 H3∧τ=[some (.ref pr),z]:=⟨_,rfl⟩
   refine jK Pc ?_ ?_ ?_
   ·rw[hC]
    exact⟨[],_,aT,.nil,bO hD _,rfl⟩
   ·intro k τ H3 R' hk h next
    rw[hC] at h
    obtain⟨ys,z3,d3,T3,e3,rfl⟩:=h
    have ly:ys.length=k:=by rw[T3.len,iz,DW]
    trivial
    refine⟨by decide,fun b hb=>⟨_,_,_,_,rfl,rfl,Same.tup ((e3).trans (bO hb _)) hT2,SqT.of aT,?_,fun p' H4 e4 hp'=>?_⟩⟩
    ·rw[iz,lr]
     exact Nat.le_trans (m:=64) (by simp; omega) (by decide)
    ·have e34:Same H3 H4:=(bO hb _).trans e4
     refine⟨_,e34 _ _ d3,Nat.lt_of_lt_of_le (m:=64) (by omega) (by decide),next _ _ ?_⟩
     rw[hC]
     refine⟨ys++[.ref p'],_,aT,?_,dI (e3.trans e34) hD _,rfl⟩
     rw[Ga,DH]
     refine Tps.app (.cons ⟨p',rfl,kc (e34 _ _ d3) ?_⟩ .nil) (Tps.upd (e34 _ _ d3) (T3.same e34))
     rw[DH]
     rw[show (0+(k:Int))=(k:Int) by omega] at hp'
     exact hp'
   ·intro τ H3 h
    rw[hC] at h
    obtain⟨ys,z3,d3,T3,e3,rfl⟩:=h
    have ly:ys.length=n+1:=by rw[T3.len,iz,DW]; exact Oz36
    have lw:ws.length≤625:=by
     rw[T2.len,nJ]
     have a1:=uG n4 (show i≤3 by omega)
     have a2:((iP n i).take j).length≤125:=by rw[Dt]; omega
     exact Nat.le_trans (Nat.mul_le_mul a2 (show n+1≤5 by exact Oz40 n4)) (by decide)
    have cD:c≠D:=bZ d2 hD
    refine⟨c,D,ws,ys,rfl,rfl,e3 _ _ d2,d3,Nat.le_trans (m:=1000) (by omega) (by decide),?_⟩
    rw[hW]
    refine⟨_,_,aT,?_,dI (e2.trans e3) hc _,rfl⟩
    rw[El,hr',List.flatMap_append]
    refine Tps.app ?_ (Tps.upd (e3 _ _ d2) (T2.same e3))
    rw[show ((n:Int)+1).toNat=n+1 by exact Oz36] at T3
    show Tps K _ ys ([r].flatMap (grow n))
    rw[List.flatMap_singleton]
    exact Tps.upd (e3 _ _ d2) T3
  ·intro σ H2 h
   rw[hW] at h
   obtain⟨ws,z',d2,T2,e2,rfl⟩:=h
   rw[T.len,EW,← lK] at T2
   trivial
   rw[hP]
   exact⟨c,ws,_,_,_,hcH,d2,T2,e.trans e2,rfl⟩
 ·intro σ H' h
  rw[hP] at h
  obtain⟨g,us,x,y,z,hg,d1,T,e,rfl⟩:=h
  rw[show (n:Int).toNat=n by exact Oz52] at T
  trivial
  exact q _ _ _ e hg d1 T
noncomputable def jA (r:List Int):Bool:=r.any (fun n=>decide (n≠0)) && decide (_mthl.look r=r)
noncomputable def Az (n:Nat):List (List Int):=(iP n n).filter jA
noncomputable def LR:Nat→List (List Int)
 | 1=>[[1]]
 | 2=>[[0,1],[1,0],[1,1],[1,2],[2,1]]
 | 3=>[[0,0,1],[0,1,0],[0,1,1],[0,1,2],[0,2,1],[1,0,0],[1,0,1],[1,0,2],[1,1,0],[1,1,1],[1,1,2],[1,2,0],[1,2,1],[1,2,2],[1,2,3],[1,3,2],[2,0,1],[2,1,0],[2,1,1],[2,1,2],[2,1,3],[2,2,1],[2,3,1],[3,1,2],[3,2,1]]
 | _=>[[0,0,0,1],[0,0,1,0],[0,0,1,1],[0,0,1,2],[0,0,2,1],[0,1,0,0],[0,1,0,1],[0,1,0,2],[0,1,1,0],[0,1,1,1],[0,1,1,2],[0,1,2,0],[0,1,2,1],[0,1,2,2],[0,1,2,3],[0,1,3,2],[0,2,0,1],[0,2,1,0],[0,2,1,1],[0,2,1,2],[0,2,1,3],[0,2,2,1],[0,2,3,1],[0,3,1,2],[0,3,2,1],[1,0,0,0],[1,0,0,1],[1,0,0,2],[1,0,1,0],[1,0,1,1],[1,0,1,2],[1,0,2,0],[1,0,2,1],[1,0,2,2],[1,0,2,3],[1,0,3,2],[1,1,0,0],[1,1,0,1],[1,1,0,2],[1,1,1,0],[1,1,1,1],[1,1,1,2],[1,1,2,0],[1,1,2,1],[1,1,2,2],[1,1,2,3],[1,1,3,2],[1,2,0,0],[1,2,0,1],[1,2,0,2],[1,2,0,3],[1,2,1,0],[1,2,1,1],[1,2,1,2],[1,2,1,3],[1,2,2,0],[1,2,2,1],[1,2,2,2],[1,2,2,3],[1,2,3,0],[1,2,3,1],[1,2,3,2],[1,2,3,3],[1,2,3,4],[1,2,4,3],[1,3,0,2],[1,3,1,2],[1,3,2,0],[1,3,2,1],[1,3,2,2],[1,3,2,3],[1,3,2,4],[1,3,3,2],[1,3,4,2],[1,4,2,3],[1,4,3,2],[2,0,0,1],[2,0,1,0],[2,0,1,1],[2,0,1,2],[2,0,1,3],[2,0,2,1],[2,0,3,1],[2,1,0,0],[2,1,0,1],[2,1,0,2],[2,1,0,3],[2,1,1,0],[2,1,1,1],[2,1,1,2],[2,1,1,3],[2,1,2,0],[2,1,2,1],[2,1,2,2],[2,1,2,3],[2,1,3,0],[2,1,3,1],[2,1,3,2],[2,1,3,3],[2,1,3,4],[2,1,4,3],[2,2,0,1],[2,2,1,0],[2,2,1,1],[2,2,1,2],[2,2,1,3],[2,2,2,1],[2,2,3,1],[2,3,0,1],[2,3,1,0],[2,3,1,1],[2,3,1,2],[2,3,1,3],[2,3,1,4],[2,3,2,1],[2,3,3,1],[2,3,4,1],[2,4,1,3],[2,4,3,1],[3,0,1,2],[3,0,2,1],[3,1,0,2],[3,1,1,2],[3,1,2,0],[3,1,2,1],[3,1,2,2],[3,1,2,3],[3,1,2,4],[3,1,3,2],[3,1,4,2],[3,2,0,1],[3,2,1,0],[3,2,1,1],[3,2,1,2],[3,2,1,3],[3,2,1,4],[3,2,2,1],[3,2,3,1],[3,2,4,1],[3,3,1,2],[3,3,2,1],[3,4,1,2],[3,4,2,1],[4,1,2,3],[4,1,3,2],[4,2,1,3],[4,2,3,1],[4,3,1,2],[4,3,2,1]]
noncomputable def jB:Nat→List Nat
 | 1=>[0]
 | 2=>[1,0,2,3,4]
 | 3=>[5,1,0,8,11,17,6,7,16,2,3,4,9,10,12,13,14,15,18,19,20,21,22,23,24]
 | _=>[25,5,1,0,36,47,83,28,31,77,26,27,76,8,11,17,6,7,16,2,3,4,39,42,51,55,59,67,87,91,95,102,109,123,131,37,38,48,49,50,65,84,85,86,101,108,121,130,29,30,32,33,34,35,78,79,80,81,82,119,120,9,10,12,13,14,15,18,19,20,21,22,23,24,40,41,43,44,45,46,52,53,54,56,57,58,60,61,62,63,64,66,68,69,70,71,72,73,74,75,88,89,90,92,93,94,96,97,98,99,100,103,104,105,106,107,110,111,112,113,114,115,116,117,118,122,124,125,126,127,128,129,132,133,134,135,136,137,138,139,140,141,142,143,144,145,146,147,148]
noncomputable def LK (n:Nat):List (List Int):=(jB n).map fun i=>(LR n).getD i []
noncomputable def pe (n i j:Nat):Bool:=_ht.key_lt (keyOf ((LR n).getD i [])) (keyOf ((LR n).getD j []))
noncomputable def CD {X:_srt.SX} (n:Nat) (out:List Nat):Bool:=match (_srt.FM.runs (X:=X)).p ⟨DJ n,[],7⟩ with
 | some (_,m)=>m.q == out
 | none=>false
def nQ {cmp:Nat→Nat→Bool} {n:Nat} {out:List Nat} (h:∀ prog w A E s κ item (hlt:∀ (i j:Nat),i<n→j<n→∀ (Q:Bool→Shared→Prop) (E':Value→Shared→Prop),Q (cmp i j) s→wpAny (model prog w) A (PyProof.Rows.keyLt' κ (item i).1 (item j).1) Q E' s),CD (X:=⟨prog,w,A,E,s,κ,item,cmp,n,hlt⟩) n out=true):_srt.SortsTo cmp n out:=by
 intro X hc hn
 obtain⟨prog,w,A,E,s,κ,item,cmp',n',hlt⟩:=X
 replace hc:cmp'=cmp:=hc
 replace hn:n'=n:=hn
 subst hc hn
 have:=h prog w A E s κ item hlt
 unfold CD at this
 split at this
 ·rename_i u m e
  exact⟨m,e,by simpa using this⟩
 ·cases this
def BA:_srt.SortsTo (pe 2) 5 (jB 2):=nQ fun _ _ _ _ _ _ _ _=>by kernel_rfl
def Cv:_srt.SortsTo (pe 3) 25 (jB 3):=nQ fun _ _ _ _ _ _ _ _=>by kernel_rfl
def Cs:_srt.SortsTo (pe 4) 149 (jB 4):=nQ fun _ _ _ _ _ _ _ _=>by kernel_rfl
def four {p:Nat→Prop} (h1:p 1) (h2:p 2) (h3:p 3) (h4:p 4) {n:Nat} (a:1≤n) (b:n≤4):p n:=by
 have:n=1∨n=2∨n=3∨n=4:=by omega
 rcases this with rfl | rfl | rfl | rfl <;> assumption
def Br {n:Nat} (a:1≤n) (b:n≤4):tD (pe n) (LR n).length (jB n) :=
 four (p:=fun n=>tD (pe n) (LR n).length (jB n)) (.inl ⟨by decide,by decide⟩) (.inr ⟨by decide,BA⟩) (.inr ⟨by decide,Cv⟩) (.inr ⟨by decide,Cs⟩) a b
def zy {n:Nat} (a:1≤n) (b:n≤4):Az n=LR n:=four (p:=fun n=>Az n=LR n) (by decide +kernel) (by decide +kernel) (by decide +kernel) (by decide +kernel) a b
def rm {n:Nat} (a:1≤n) (b:n≤4):(jB n).length≤1000∧(LR n).length≤1000:=four (p:=fun n=>(jB n).length≤1000∧(LR n).length≤1000) (by decide +kernel) (by decide +kernel) (by decide +kernel) (by decide +kernel) a b
def AX {n:Nat} (a:1≤n) (b:n≤4):∀ i∈jB n,i<(LR n).length:=four (p:=fun n=>∀ i∈jB n,i<(LR n).length) (by decide +kernel) (by decide +kernel) (by decide +kernel) (by decide +kernel) a b
def Cu {n:Nat} (a:1≤n) (b:n≤4):∀ r∈LR n,r.length≤4:=four (p:=fun n=>∀ r∈LR n,r.length≤4) (by decide +kernel) (by decide +kernel) (by decide +kernel) (by decide +kernel) a b
def oB (K:cy):Sp:=fun vs H Q _=>∃ (n:Nat),vs=[.int n]∧1≤n∧n≤4∧∀ (l:Addr) (us:List V) (H':Hp),Same H H'→H l=none→H' l=some (.lst us)→Tps K H' us (LK n)→Q (.ref l) H'
def Keys (K:cy) (H:Hp) (ks:List V) (zs:List K3):Prop:=Paired (fun v z=>iZ K H v z) ks zs
def Keys.get:∀ {ks:List V} {zs:List K3} {i:Nat} {v:V},Keys K H ks zs→ks[i]?=some v→∃ z,zs[i]?=some z∧iZ K H v z
 | _,_,_,_,.nil,h=>by cases h
 | _,_,0,_,.cons h1 _,h=>by
  cases h
  exact⟨_,rfl,h1⟩
 | _,_,i+1,_,.cons _ r,h=>by
  rw[FU] at h
  obtain⟨z,a,b⟩:=Keys.get r h
  exact⟨z,by rw[FU]; exact a,b⟩
def Keys.app {z:K3} (h':iZ K H v z):∀ {ks:List V} {zs:List K3},Keys K H ks zs→Keys K H (ks++[v]) (zs++[z])
 | _,_,.nil=>.cons h' .nil
 | _,_,.cons h r=>.cons h (Keys.app h' r)
def zf {kS:Addr} {us:List V} {z:K3} (e:Same H H') (hk:H' kS=some (.lst us)) (h:iZ K H v z):iZ K (upd H' kS o) v z:=by
 obtain⟨p,a,b,rfl,h1,h2,h3⟩:=h
 exact⟨p,a,b,rfl,kc hk (Same.tup e h1),kc hk (Same.tup e h2),kc hk (Same.tup e h3)⟩
def Keys.go {kS:Addr} {us:List V} (e:Same H H') (hk:H' kS=some (.lst us)):∀ {ks:List V} {zs:List K3},Keys K H ks zs→Keys K (upd H' kS o) ks zs
 | _,_,.nil=>.nil
 | _,_,.cons h r=>.cons (zf e hk h) (Keys.go e hk r)
theorem vj {K:cy} {kS:Addr} {Fin:List V→Hp→Prop}:∀ (vs:List V) (rs:List (List Int)) (ks:List V) (zs:List K3) (H:Hp),Tps K H vs rs→(∀ r∈rs,r.length≤4)→H kS=some (.lst ks)→Keys K H ks zs →
  (∀ ks' H',(∀ b u,b≠kS→H b=some u→H' b=some u)→H' kS=some (.lst ks')→Keys K H' ks' (zs++rs.map keyOf)→Fin ks' H')→kZ (oW K) kS Fin vs ks H
 | _,_,ks,zs,H,.nil,_,hk,hK,h=>h ks H (fun _ _ _ q=>q) hk (by rw[IX,D9]; exact hK)
 | _,_,ks,zs,H,.cons (b:=r) (l₂:=rs) ⟨p,e1,hT⟩ T,h4,hk,hK,h=>by
  subst e1
  refine⟨p,r,rfl,.inr hT,h4 r DX,fun t H' e kt=>⟨e _ _ hk,?_⟩⟩
  have hk':=e _ _ hk
  obtain⟨a,b,k1,k2,k3⟩:=kt.ex
  have ik:iZ K H' (.ref t) (keyOf r):=⟨t,a,b,rfl,k1,k2,k3⟩
  refine vj _ rs (ks++[.ref t]) (zs++[keyOf r]) _ (Tps.upd hk' (Tps.same e T)) (fun r' hr'=>h4 r' (DI _ hr')) aT (Keys.app (zf (Same.refl _) hk' ik) (Keys.go e hk' hK)) fun ks' H2 s2 e2 K2=>?_
  refine h ks' H2 (fun b u hb q=>s2 b u hb (by rw[aZ hb]; exact e b u q)) e2 ?_
  rw[D8]
  rw[List.append_assoc] at K2
  exact K2
def Tps.pick {rs:List (List Int)} (h:Tps K H ys rs):∀ out:List Nat,(∀ i∈out,i<rs.length)→Tps K H (out.map fun i=>ys.getD i .non) (out.map fun i=>rs.getD i [])
 | [],_=>.nil
 | i::out,hi=>by
  refine .cons ?_ (Tps.pick h out fun j hj=>hi j (DI _ hj))
  have li:=hi i DX
  have ly:i<ys.length:=by rw[h.len]; exact li
  obtain⟨r,p,a,b,c⟩:=h.get (Dm ly)
  have e1:ys.getD i .non=.ref p:=by rw[_y.getD_at ly]; exact b
  have e2:rs.getD i []=r:=by simp [Er,a]
  exact⟨p,e1,by show SqT K H p ((rs.getD i []).map V.int); rw[e2]; exact c⟩
def tO (ns:List Int):iC (.tuple (ns.map PyData.int)):=by
 refine⟨?_,?_⟩
 ·show Ea (ns.map PyData.int)=true
  exact _ht.canLay_ints ns
 ·show DO (ns.map PyData.int)+1≤40
  rw[_ht.depth_ints]
  decide
def x9 {p q:Addr} (h1:SqT K H p (ns.map V.int)) (h2:SqT K H q (ms.map V.int)) (hq:Q (.bl (if neg then !decide (ns=ms) else decide (ns=ms))) H):pq K neg (.ref p) (.ref q) H Q :=
 ⟨_,_,.tup h1 (kQ _),.tup h2 (kQ _),tO _,tO _,by rw[show Eu (.tuple (ns.map PyData.int)) (.tuple (ms.map PyData.int))=decide (ns=ms) from _ht.eqvAll_ints ns ms]; exact hq⟩
def rj (F:Fun K "all_looks" "all_looks" eC f fd) (M:Mg mg) (fE:Cal P w K mg base CX0 "rows_of" 1 ["many"] (sA K)) (fF:Cal P w K mg base CX0 "look_of" 2 ["weights"] (rH K)) (fX:Cal P w K mg base CX0 "key_of" 1 ["weights"] (oW K)):FnOk P w K mg base CX0 4 f fd ["many"] (oB K):=by
 refine F.ok bC.fs (fun vs H Q E h=>?_) (fun cdv A outer s H vs Q E hr h=>?_)
 ·obtain⟨n,rfl,_⟩:=h
  rfl
 obtain⟨n,rfl,n1,n4,q⟩:=h
 refine⟨_,(`f (@ju _ _ _ _ _ _ _ _ _ _ _ _ _ _ _ 1 _ _ _ bC.nd rfl (ScV.loc bC 1 rfl) rfl (CompOk.make (N':=["row"]) (ix:=[]) (nl:=1) (by rfl) fm0 (by rfl) (by decide +kernel) rfl (by decide +kernel) rfl DY) (@gw _ _ _ _ (`e fE hr rfl (`a (`b 0 bC rfl) `o (aN rfl)) (by decide) rfl (aN rfl) aW)) (fun _ _ _ _ _=>(@dH _ _ 0 _ (show D5 (["row"]:List Str) from by decide) rfl (Or.inl rfl) (by first | exact .inl rfl | exact .inr rfl | assumption))) (fun _ _ _ _ _=>(@iO _ _ _ (@PW.pt _ _ _ (@iu _ _ _ _ _ _ _ (@fP _ _ _ (`i (v9 (K:=K) rfl rfl) rfl M.m_any CO (`a (@pv _ 0 _ _ (by rfl) (by decreasing_trivial) (by decide) (by decide)) `o (aN rfl)) jh rfl (aN rfl) aW) (fZ rfl)) (@gZ _ _ _ _ (`k (vz (K:=K) rfl (jk hr)) (`e fF hr rfl (`a (@pv _ 0 _ _ (by rfl) (by decreasing_trivial) (by decide) (by decide)) `o (aN rfl)) (by decide) rfl (aN rfl) aW) (@pv _ 0 _ _ (by rfl) (by decreasing_trivial) (by decide) (by decide)) (dm _))))))) (fun _ _ _ _ _=>(@pv _ 0 _ _ (by rfl) (by decreasing_trivial) (by decide) (by decide))) (by rfl) (by intro _; rfl) (by first | exact .inl rfl | exact .inr rfl | assumption)) (`n (`q (@wg _ _ _ _ _ _ _ _ _ _ _ _ rfl M.m_sorted sR (`a (`b 1 bC rfl) `o (aN rfl)) fX hr rfl (by decide) rfl rfl rfl)))),?_⟩
 trivial
 refine⟨n,rfl,n1,n4,fun l us H1 e1 hl d1 T=>⟨l,rfl,⟨_,SqL.of d1⟩,fun D hD=>?_⟩⟩
 obtain⟨Pc,hC⟩:∃ Pc:Nat→St→Hp→Prop,Pc=fun i τ H2=>∃ (ys:List V) (z:Option V),H2 D=some (.lst ys)∧Tps K H2 ys (((iP n n).take i).filter jA)∧Same H1 H2∧τ=[z]:=⟨_,rfl⟩
 refine fR (K:=K) us Pc ?_ (fun i τ H2 _ h=>by rw[hC] at h; obtain⟨_,_,_,_,e2,_⟩:=h; exact SqL.of (e2 _ _ d1)) ?_ ?_
 ·rw[hC]
  exact⟨[],_,aT,.nil,bO hD _,rfl⟩
 ·intro i v τ H2 R' hi h next
  rw[hC] at h
  obtain⟨ys,z,d2,T2,e2,rfl⟩:=h
  obtain⟨r,pr,hr',rfl,hT⟩:=T.get hi
  have hT2:=Same.tup e2 hT
  have et:((iP n n).take (i+1)).filter jA=((iP n n).take i).filter jA++[r].filter jA:=by
   rw[El,hr',EC]
   rfl
  trivial
  have lr:r.length=n:=mh n n r (Et.mpr ⟨_,hr'⟩)
  have ly:ys.length≤625:=by
   rw[T2.len]
   refine Nat.le_trans (D6 ..) ?_
   rw[Dt,mJ]
   refine Nat.le_trans (Nat.min_le_right ..) ?_
   exact Nat.le_trans (Nat.pow_le_pow_left (show n+1≤5 by exact Oz40 n4) n) (Nat.pow_le_pow_right (n:=5) (by decide) n4)
  have no:∀ H3,Same H2 H3→jA r=false→R' [some (.ref pr)] H3:=fun H3 e3 hf=>next _ _ (by
   rw[hC]
   exact⟨ys,_,e3 _ _ d2,by rw[et,Em (by rw[hf]; decide),Gb,D9]; exact T2.same e3,e2.trans e3,rfl⟩)
  refine⟨r,hT2,?_⟩
  by_cases ha:(r.any fun n=>decide (n≠0))=true
  ·rw[if_pos ha]
   refine⟨pr,r,rfl,.inr hT2,by omega,fun t H3 e3 ht ht'=>?_⟩
   refine x9 (SqT.of ht') (Same.tup e3 hT2) ⟨_,rfl,?_⟩
   by_cases hk:_mthl.look r=r
   ·rw[decide_eq_true hk,if_pos (by decide)]
    refine⟨ys,e3 _ _ d2,Nat.lt_of_lt_of_le (m:=1000) (by omega) (by decide),next _ _ ?_⟩
    rw[hC]
    refine⟨_,_,aT,?_,dI (e2.trans e3) hD _,rfl⟩
    rw[et,Ex (by unfold jA; rw[ha,decide_eq_true hk]; rfl),Gb]
    exact Tps.app (.cons ⟨pr,rfl,kc (e3 _ _ d2) (Same.tup e3 hT2)⟩ .nil) (Tps.upd (e3 _ _ d2) (T2.same e3))
   ·rw[decide_eq_false hk,if_neg (by decide)]
    exact no H3 e3 (by unfold jA; rw[decide_eq_false hk,Fj])
  ·rw[if_neg ha]
   exact no H2 (Same.refl _) (by unfold jA; rw[Bool.not_eq_true] at ha; rw[ha,FA])
 ·intro τ H2 h
  rw[hC] at h
  obtain⟨ys,z,d2,T2,e2,rfl⟩:=h
  rw[T.len,EW] at T2
  have T3:Tps K H2 ys (LR n):=by rw[← zy n1 n4]; exact T2
  obtain⟨o1,o2⟩:=rm n1 n4
  refine⟨D,rfl,ys,SqL.of d2,by rw[T3.len]; exact o2,pe n,jB n,o1,by rw[T3.len]; exact Br n1 n4,fun D2 kS H0 e0 hD2 hk hne h0D h0k=>?_⟩
  refine vj ys (LR n) [] [] H0 (T3.same e0) (Cu n1 n4) h0k .nil fun ks H' s' hk' Ks hn'=>⟨⟨fun i=>keyOf ((LR n).getD i []),fun i v hv=>?_,fun i j _ _=>rfl⟩,?_⟩
  ·obtain⟨z3,a,b⟩:=Ks.get hv
   rw[List.nil_append,Dq] at a
   obtain⟨r,hr1,rfl⟩:=EB.mp a
   show iZ K H' v (keyOf ((LR n).getD i []))
   rw[show (LR n).getD i []=r by simp [Er,hr1]]
   exact b
  ·have eall:∀ b u,H2 b=some u→upd (upd H' kS (.lst [])) D2 (.lst ((jB n).map fun i=>ys.getD i .non)) b=some u:=fun b u hb=>by
    have b1:b≠kS:=fun z=>by rw[z,hk] at hb; cases hb
    have b2:b≠D2:=fun z=>by rw[z,hD2] at hb; cases hb
    rw[aZ b2,aZ b1]
    exact s' b u b1 (e0 b u hb)
   refine q D2 _ _ (fun b u hb=>eall b u (e2 _ _ (e1 _ _ hb))) ((e1.trans e2).free hD2) aT ?_
   exact Tps.pick (T3.same eall) (jB n) (AX n1 n4)
end _B
namespace _C
open _y PySem _l
noncomputable def top (i:Nat):Stmt:=PySem.Challenge.pw_tariffgate_k42_trees_refused.main.body.getD i (.Pass ⟨0,0,0,0⟩)
noncomputable def inner:Stmt→Nat→Stmt
 | .ClassDef _ _ _ b _ _ _ _ _ _ _,j=>b.getD j (.Pass ⟨0,0,0,0⟩)
 | st,_=>st
def i3:DnB "stuff":=by decide
noncomputable abbrev eD:Stmt:=inner (top 31) 0
def dL:ScV ["self","stuff"] ["self","stuff"] eD:=scv (by decide +kernel)
noncomputable abbrev eE:Stmt:=inner (top 32) 0
def dM:ScV ["self","use"] ["self","use"] eE:=scv (by decide +kernel)
noncomputable abbrev dN:Stmt:=inner (top 33) 0
def cU:ScV ["self","stuff"] ["self","stuff"] dN:=scv (by decide +kernel)
noncomputable abbrev eF:Stmt:=inner (top 34) 0
def bD:ScV ["self","one","other"] ["self","one","other"] eF:=scv (by decide +kernel)
noncomputable abbrev dO:Stmt:=inner (top 35) 0
def bi:ScV ["self","one","other"] ["self","one","other"] dO:=scv (by decide +kernel)
abbrev cb:Stmt:=top 39
def aP:ScV ["word","name"] ["word","name"] cb:=scv (by decide +kernel)
abbrev bS:Stmt:=top 40
def aC:ScV ["word","one","other"] ["word","one","other"] bS:=scv (by decide +kernel)
abbrev cV:Stmt:=top 41
def aA:ScV ["told"] ["told"] cV:=scv (by decide +kernel)
abbrev bj:Stmt:=top 42
def ae:ScV ["left","told","one","other"] ["left","told"] bj:=scv (by decide +kernel)
abbrev fG:Stmt:=top 43
def gn:ScV ["told"] ["told"] fG:=scv (by decide +kernel)
inductive Nt where
 | any
 | made (s:List Nat)
 | used (s:List Nat)
 | chief (s:List Nat)
 | over (a b:Kd2)
 | both (x y:Nt)
 | either (x y:Nt)
 | but (x y:Nt)
noncomputable def Nt.dp:Nt→Nat
 | .both x y=>max x.dp y.dp+1
 | .either x y=>max x.dp y.dp+1
 | .but x y=>max x.dp y.dp+1
 | _=>1
def Nt.ok:Nt→Prop
 | .any=>True
 | .made s=>nameB s=true
 | .used s=>nameB s=true
 | .chief s=>nameB s=true
 | .over a b=>okKind a∧okKind b
 | .both x y=>x.ok∧y.ok
 | .either x y=>x.ok∧y.ok
 | .but x y=>x.ok∧y.ok
noncomputable def Nt.data:Nt→PyData
 | .any=>.tuple [.str "any"]
 | .made s=>.tuple [.str "made",.str (txt s)]
 | .used s=>.tuple [.str "used",.str (txt s)]
 | .chief s=>.tuple [.str "chief",.str (txt s)]
 | .over a b=>.tuple [.str "over",kD a,kD b]
 | .both x y=>.tuple [.str "both",x.data,y.data]
 | .either x y=>.tuple [.str "either",x.data,y.data]
 | .but x y=>.tuple [.str "but",x.data,y.data]
def Nt.dp_pos (n:Nt):1≤n.dp:=by
 cases n <;> (unfold Nt.dp; omega)
abbrev ToldAt (K:cy) (H:Hp) (v:V) (n:Nt):Prop:=Rep K H v n.data
structure NC where
 any:Addr
 made:Addr
 used:Addr
 chief:Addr
 over:Addr
 both:Addr
 either:Addr
 but:Addr
def ObjN (K:cy) (cs:NC) (H:Hp) (a:Addr):Nt→Prop
 | .any=>∃ dx,H a=some (.ins cs.any dx [])
 | .made s=>∃ dx,H a=some (.ins cs.made dx [("stuff",.str (txt s))])
 | .used s=>∃ dx,H a=some (.ins cs.used dx [("use",.str (txt s))])
 | .chief s=>∃ dx,H a=some (.ins cs.chief dx [("stuff",.str (txt s))])
 | .over k1 k2=>∃ dx p1 p2,H a=some (.ins cs.over dx [("one",.ref p1),("other",.ref p2)])∧SqT K H p1 (kRow k1)∧SqT K H p2 (kRow k2)
 | .both x y=>∃ dx a1 a2,H a=some (.ins cs.both dx [("one",.ref a1),("other",.ref a2)])∧ObjN K cs H a1 x∧ObjN K cs H a2 y
 | .either x y=>∃ dx a1 a2,H a=some (.ins cs.either dx [("one",.ref a1),("other",.ref a2)])∧ObjN K cs H a1 x∧ObjN K cs H a2 y
 | .but x y=>∃ dx a1 a2,H a=some (.ins cs.but dx [("one",.ref a1),("other",.ref a2)])∧ObjN K cs H a1 x∧ObjN K cs H a2 y
def ObjN.same {cs:NC} (e:Same H H'):∀ {n:Nt} {a:Addr},ObjN K cs H a n→ObjN K cs H' a n
 | .any,_,⟨dx,h⟩=>⟨dx,e _ _ h⟩
 | .made _,_,⟨dx,h⟩=>⟨dx,e _ _ h⟩
 | .used _,_,⟨dx,h⟩=>⟨dx,e _ _ h⟩
 | .chief _,_,⟨dx,h⟩=>⟨dx,e _ _ h⟩
 | .over _ _,_,⟨dx,p1,p2,h,t1,t2⟩=>⟨dx,p1,p2,e _ _ h,Same.tup e t1,Same.tup e t2⟩
 | .both _ _,_,⟨dx,p1,p2,h,t1,t2⟩=>⟨dx,p1,p2,e _ _ h,ObjN.same e t1,ObjN.same e t2⟩
 | .either _ _,_,⟨dx,p1,p2,h,t1,t2⟩=>⟨dx,p1,p2,e _ _ h,ObjN.same e t1,ObjN.same e t2⟩
 | .but _ _,_,⟨dx,p1,p2,h,t1,t2⟩=>⟨dx,p1,p2,e _ _ h,ObjN.same e t1,ObjN.same e t2⟩
def kq (K:cy) (C:Addr) (fld:Str):Sp:=fun vs H Q _=>∃ x dx v,vs=[.ref x,v]∧H x=some (.ins C dx [])∧Q .non (upd H x (.ins C dx [(fld,v)]))
def iY (K:cy):Sp:=fun vs H Q _=>∃ x C dx v1 v2,vs=[.ref x,v1,v2]∧H x=some (.ins C dx [])∧Cls K C∧NoAttr K C "one"∧NoAttr K C "other"∧∀ H',H' x=some (.ins C dx [("one",v1),("other",v2)])→(∀ b,b≠x→H' b=H b)→Q .non H'
def je {x:Addr} (hx:H x=none) (hd:H dx=none) (e:∀ b,b≠x→H' b=upd (upd H dx (.own x)) x (.ins C dx []) b):Same H H':=fun b u q=>by
 rw[e b (bZ q hx),aZ (bZ q hx),aZ (bZ q hd)]
 exact q
def make1' {x:Addr} {fld:Str} (hx:H x=none) (hd:H dx=none):Same H (upd (upd (upd H dx (.own x)) x (.ins C dx [])) x (.ins C dx [(fld,v)])) :=
 fun b u q=>by rw[aZ (bZ q hx),aZ (bZ q hx),aZ (bZ q hd)]; exact q
section
variable {cs:NC}
def sH (F:Fun K "__init__" "Made.__init__" eD f fd) (M:Mg mg) (cl:Cls K cs.made) (na:NoAttr K cs.made "stuff"):FnOk P w K mg base CX0 1 f fd ["self","stuff"] (kq K cs.made "stuff"):=by
 refine F.ok dL.fs (fun vs H Q E h=>?_) (fun cdv A outer s H vs Q E hr h=>?_)
 ·obtain⟨x,dx,v,rfl,_⟩:=h
  rfl
 obtain⟨x,dx,v,rfl,hx,q⟩:=h
 refine⟨_,(`n (@iJ _ _ _ _ _ _ _ _ (`b 0 dL rfl) (`b 1 dL rfl) (fV rfl))),?_⟩
 trivial
 exact⟨_,_,_,hx,cl,na,by decide,q⟩
def sU (F:Fun K "__init__" "Used.__init__" eE f fd) (M:Mg mg) (cl:Cls K cs.used) (na:NoAttr K cs.used "use"):FnOk P w K mg base CX0 1 f fd ["self","use"] (kq K cs.used "use"):=by
 refine F.ok dM.fs (fun vs H Q E h=>?_) (fun cdv A outer s H vs Q E hr h=>?_)
 ·obtain⟨x,dx,v,rfl,_⟩:=h
  rfl
 obtain⟨x,dx,v,rfl,hx,q⟩:=h
 refine⟨_,(`n (@iJ _ _ _ _ _ _ _ _ (`b 0 dM rfl) (`b 1 dM rfl) (fV rfl))),?_⟩
 trivial
 exact⟨_,_,_,hx,cl,na,by decide,q⟩
def qN (F:Fun K "__init__" "Chief.__init__" dN f fd) (M:Mg mg) (cl:Cls K cs.chief) (na:NoAttr K cs.chief "stuff"):FnOk P w K mg base CX0 1 f fd ["self","stuff"] (kq K cs.chief "stuff"):=by
 refine F.ok cU.fs (fun vs H Q E h=>?_) (fun cdv A outer s H vs Q E hr h=>?_)
 ·obtain⟨x,dx,v,rfl,_⟩:=h
  rfl
 obtain⟨x,dx,v,rfl,hx,q⟩:=h
 refine⟨_,(`n (@iJ _ _ _ _ _ _ _ _ (`b 0 cU rfl) (`b 1 cU rfl) (fV rfl))),?_⟩
 trivial
 exact⟨_,_,_,hx,cl,na,by decide,q⟩
def sZ (F:Fun K "__init__" "Over.__init__" eF f fd) (M:Mg mg):FnOk P w K mg base CX0 1 f fd ["self","one","other"] (iY K):=by
 refine F.ok bD.fs (fun vs H Q E h=>?_) (fun cdv A outer s H vs Q E hr h=>?_)
 ·obtain⟨x,C,dx,v1,v2,rfl,_⟩:=h
  rfl
 obtain⟨x,C,dx,v1,v2,rfl,hx,cl,n1,n2,q⟩:=h
 refine⟨_,(`f (@iJ _ _ _ _ _ _ _ _ (`b 0 bD rfl) (`b 1 bD rfl) (fV rfl)) (`n (@iJ _ _ _ _ _ _ _ _ (`b 0 bD rfl) (`b 2 bD rfl) (fV rfl)))),?_⟩
 trivial
 exact⟨_,_,_,hx,cl,n1,by decide,_,_,_,aT,cl,n2,(show 1<1000 by decide),q _ aT fun b hb=>by rw[aZ hb,aZ hb]⟩
def jU (F:Fun K "__init__" "OfTwo.__init__" dO f fd) (M:Mg mg):FnOk P w K mg base CX0 1 f fd ["self","one","other"] (iY K):=by
 refine F.ok bi.fs (fun vs H Q E h=>?_) (fun cdv A outer s H vs Q E hr h=>?_)
 ·obtain⟨x,C,dx,v1,v2,rfl,_⟩:=h
  rfl
 obtain⟨x,C,dx,v1,v2,rfl,hx,cl,n1,n2,q⟩:=h
 refine⟨_,(`f (@iJ _ _ _ _ _ _ _ _ (`b 0 bi rfl) (`b 1 bi rfl) (fV rfl)) (`n (@iJ _ _ _ _ _ _ _ _ (`b 0 bi rfl) (`b 2 bi rfl) (fV rfl)))),?_⟩
 trivial
 exact⟨_,_,_,hx,cl,n1,by decide,_,_,_,aT,cl,n2,(show 1<1000 by decide),q _ aT fun b hb=>by rw[aZ hb,aZ hb]⟩
end
def pU {p:Addr} {ds:List PyData} (R:Rep K H (.ref p) (.tuple ds)):∃ xs,SqT K H p xs∧RepAll K H xs ds:=by
 cases R with
 | tup T A=>exact⟨_,T,A⟩
def iW {d:PyData} {ds:List PyData} (R:RepAll K H xs (d::ds)):∃ x ys,xs=x::ys∧Rep K H x d∧RepAll K H ys ds:=by
 cases R with
 | cons a b=>exact⟨_,_,rfl,a,b⟩
def mV (R:RepAll K H xs []):xs=[]:=by
 cases R
 rfl
def fO {x:V} {z:Str} (R:Rep K H x (.str z)):x=.str z:=by
 cases R
 rfl
def uX {p:Addr} {d:PyData} (R:Rep K H (.ref p) (.tuple [d])):∃ x,SqT K H p [x]∧Rep K H x d:=by
 obtain⟨xs,T,A⟩:=pU R
 obtain⟨x,ys,rfl,a,b⟩:=iW A
 rw[mV b] at T
 exact⟨x,T,a⟩
def ko {p:Addr} {d e:PyData} (R:Rep K H (.ref p) (.tuple [d,e])):∃ x y,SqT K H p [x,y]∧Rep K H x d∧Rep K H y e:=by
 obtain⟨xs,T,A⟩:=pU R
 obtain⟨x,ys,rfl,a,b⟩:=iW A
 obtain⟨y,zs,rfl,c,d⟩:=iW b
 rw[mV d] at T
 exact⟨x,y,T,a,c⟩
def iB {p:Addr} {d e g:PyData} (R:Rep K H (.ref p) (.tuple [d,e,g])):∃ x y z,SqT K H p [x,y,z]∧Rep K H x d∧Rep K H y e∧Rep K H z g:=by
 obtain⟨xs,T,A⟩:=pU R
 obtain⟨x,ys,rfl,a,b⟩:=iW A
 obtain⟨y,zs,rfl,c,d⟩:=iW b
 obtain⟨z,us,rfl,e,f⟩:=iW d
 rw[mV f] at T
 exact⟨x,y,z,T,a,c,e⟩
inductive BadN (K:cy) (H:Hp):Str→List V→Prop
 | w0 {z:Str}:z≠"any"→BadN K H z []
 | n1 {z:Str} {v:V}:NameV K H v false→BadN K H z [v]
 | m1 {z:Str} {s:List Nat}:z≠"made"→z≠"used"→z≠"chief"→nameB s=true→BadN K H z [.str (txt s)]
 | w2 {z:Str} {v u:V}:z≠"over"→BadN K H z [v,u]
 | k1 {v u:V}:KindV K H v false→BadN K H "over" [v,u]
 | k2 {v u:V}:KindV K H v true→KindV K H u false→BadN K H "over" [v,u]
def BadN.same {z:Str} {rest:List V} (h:BadN K H z rest) (e:Same H H'):BadN K H' z rest:=by
 cases h with
 | w0 a=>exact .w0 a
 | n1 a=>exact .n1 (a.same e)
 | m1 a b c d=>exact .m1 a b c d
 | w2 a=>exact .w2 a
 | k1 a=>exact .k1 (a.same e)
 | k2 a b=>exact .k2 (a.same e) (b.same e)
def joinW (z:Str):Prop:=z = "both"∨z = "either"∨z = "but"
inductive NBad (K:cy) (H:Hp):Nat→V→Prop
 | zero (v:V):NBad K H 0 v
 | no {d:Nat} {v:V} {k:Kn}:Kd K H v k→k≠.tup→NBad K H (d+1) v
 | nil {d:Nat} {p:Addr}:SqT K H p []→NBad K H (d+1) (.ref p)
 | head {d:Nat} {p:Addr} {x:V} {k:Kn} {xs:List V}:SqT K H p (x::xs)→Kd K H x k→k≠.str→NBad K H (d+1) (.ref p)
 | one {d:Nat} {p:Addr} {z:Str} {rest:List V}:SqT K H p (.str z::rest)→(rest.length≠2∨z = "over"∨z = "made"∨z = "neither"∨z = "chief")→BadN K H z rest→NBad K H (d+1) (.ref p)
 | fst {d:Nat} {p:Addr} {z:Str} {v1 v2:V}:joinW z→SqT K H p [.str z,v1,v2]→NBad K H d v1→NBad K H (d+1) (.ref p)
 | snd {d:Nat} {p:Addr} {z:Str} {v1 v2:V} {n:Nt}:joinW z→SqT K H p [.str z,v1,v2]→ToldAt K H v1 n→n.ok→n.dp≤d→NBad K H d v2→NBad K H (d+1) (.ref p)
def NBad.same (e:Same H H') {d:Nat} (h:NBad K H d v):NBad K H' d v:=by
 induction h with
 | zero v=>exact .zero v
 | no k n=>exact .no (iK e k) n
 | nil t=>exact .nil (Same.tup e t)
 | head t k n=>exact .head (Same.tup e t) (iK e k) n
 | one t n b=>exact .one (Same.tup e t) n (b.same e)
 | fst z t _ ih=>exact .fst z (Same.tup e t) ih
 | snd z t r o dp _ ih=>exact .snd z (Same.tup e t) (r.same e) o dp ih
def Ca:Sp:=fun _ _ _ _=>False
def CM {P:Dz} {k:Nat}:FnOk P w K mg base CX k f fd ps Ca:=⟨fun _ _ _ _ h=>h.elim,fun _ _ _ _ _ _ _ _ _ _ _ _ _ h=>h.elim⟩
def lC {k:Kd2} (R:Rep K H v (kD k)):∃ p,v=.ref p∧SqT K H p (kRow k):=by
 unfold kD at R
 cases R with
 | tup T A =>
  obtain⟨x,ys,rfl,a,b⟩:=iW A
  obtain⟨y,zs,rfl,c,d⟩:=iW b
  rw[mV d,fO a,fO c] at T
  exact⟨_,rfl,T⟩
def gq {n:Nt} (R:ToldAt K H v n):∃ a,v=.ref a:=by
 unfold ToldAt at R
 cases n <;> (unfold Nt.data at R; cases R; exact⟨_,rfl⟩)
inductive RowN (K:cy) (H:Hp):Addr→Nt→Prop
 | any {p:Addr}:SqT K H p [.str "any"]→RowN K H p .any
 | made {p:Addr} {s:List Nat}:SqT K H p [.str "made",.str (txt s)]→RowN K H p (.made s)
 | used {p:Addr} {s:List Nat}:SqT K H p [.str "used",.str (txt s)]→RowN K H p (.used s)
 | chief {p:Addr} {s:List Nat}:SqT K H p [.str "chief",.str (txt s)]→RowN K H p (.chief s)
 | over {p p1 p2:Addr} {a b:Kd2}:SqT K H p [.str "over",.ref p1,.ref p2]→SqT K H p1 (kRow a)→SqT K H p2 (kRow b)→RowN K H p (.over a b)
 | both {p a1 a2:Addr} {x y:Nt}:SqT K H p [.str "both",.ref a1,.ref a2]→ToldAt K H (.ref a1) x→ToldAt K H (.ref a2) y→RowN K H p (.both x y)
 | either {p a1 a2:Addr} {x y:Nt}:SqT K H p [.str "either",.ref a1,.ref a2]→ToldAt K H (.ref a1) x→ToldAt K H (.ref a2) y→RowN K H p (.either x y)
 | but {p a1 a2:Addr} {x y:Nt}:SqT K H p [.str "but",.ref a1,.ref a2]→ToldAt K H (.ref a1) x→ToldAt K H (.ref a2) y→RowN K H p (.but x y)
def pJ {p:Addr} {n:Nt} (R:ToldAt K H (.ref p) n):RowN K H p n:=by
 unfold ToldAt at R
 cases n with
 | any =>
  obtain⟨x,T,a⟩:=uX R
  rw[fO a] at T
  exact .any T
 | made s =>
  obtain⟨x,y,T,a,b⟩:=ko R
  rw[fO a,fO b] at T
  exact .made T
 | used s =>
  obtain⟨x,y,T,a,b⟩:=ko R
  rw[fO a,fO b] at T
  exact .used T
 | chief s =>
  obtain⟨x,y,T,a,b⟩:=ko R
  rw[fO a,fO b] at T
  exact .chief T
 | over k1 k2 =>
  obtain⟨x,y,z,T,a,b,c⟩:=iB R
  rw[fO a] at T
  obtain⟨p1,rfl,T1⟩:=lC b
  obtain⟨p2,rfl,T2⟩:=lC c
  exact .over T T1 T2
 | both u v =>
  obtain⟨x,y,z,T,a,b,c⟩:=iB R
  rw[fO a] at T
  obtain⟨a1,rfl⟩:=gq b
  obtain⟨a2,rfl⟩:=gq c
  exact .both T b c
 | either u v =>
  obtain⟨x,y,z,T,a,b,c⟩:=iB R
  rw[fO a] at T
  obtain⟨a1,rfl⟩:=gq b
  obtain⟨a2,rfl⟩:=gq c
  exact .either T b c
 | but u v =>
  obtain⟨x,y,z,T,a,b,c⟩:=iB R
  rw[fO a] at T
  obtain⟨a1,rfl⟩:=gq b
  obtain⟨a2,rfl⟩:=gq c
  exact .but T b c
structure TwoC (K:cy) (C:Addr):Prop where
 cl:Cls K C
 n1:NoAttr K C "one"
 n2:NoAttr K C "other"
def rB (K:cy) (cs:NC) (cN:Addr):Sp:=fun vs H Q E=>∃ (wd:Str) (s:List Nat),vs=[.str wd,.str (txt s)]∧(∀ n,((wd = "made"∧n=.made s)∨(wd = "used"∧n=.used s)∨(wd = "chief"∧n=.chief s))→∀ a H',Same H H'→ObjN K cs H' a n→Q (.ref a) H')∧(wd≠"made"→wd≠"used"→wd≠"chief"→E (.ref cN) none H)
def kK (K:cy) (cs:NC):Sp:=fun vs H Q _=>∃ (wd:Str) (a1 a2:Addr) (x y n:Nt),vs=[.str wd,.ref a1,.ref a2]∧((wd = "both"∧n=.both x y)∨(wd = "either"∧n=.either x y)∨(wd = "but"∧n=.but x y))∧ObjN K cs H a1 x∧ObjN K cs H a2 y∧∀ a H',Same H H'→ObjN K cs H' a n→Q (.ref a) H'
def kj (K:cy) (cs:NC) (cN:Addr):Sp:=fun vs H Q E=>(∃ (p:Addr) (n:Nt),vs=[.ref p]∧ToldAt K H (.ref p) n∧n.ok∧n.dp=1∧∀ a H',Same H H'→ObjN K cs H' a n→Q (.ref a) H') ∨
 ∃ (p:Addr) (z:Str) (rest:List V),vs=[.ref p]∧SqT K H p (.str z::rest)∧BadN K H z rest∧∀ H',Same H H'→E (.ref cN) none H'
def jE (K:cy) (cs:NC) (cN:Addr) (d:Nat):Sp:=fun vs H Q E=>(∃ (p:Addr) (n:Nt),vs=[.int (d:Int),.ref p]∧ToldAt K H (.ref p) n∧n.ok∧n.dp≤d∧∀ a H',Same H H'→ObjN K cs H' a n→Q (.ref a) H') ∨
 ∃ v,vs=[.int (d:Int),v]∧NBad K H d v∧∀ H',Same H H'→E (.ref cN) none H'
def rz (K:cy) (cs:NC) (cN:Addr):Sp:=fun vs H Q E=>(∃ (p:Addr) (n:Nt),vs=[.ref p]∧ToldAt K H (.ref p) n∧n.ok∧n.dp≤5∧∀ a H',Same H H'→ObjN K cs H' a n→Q (.ref a) H') ∨
 ∃ v,vs=[v]∧NBad K H 5 v∧∀ H',Same H H'→E (.ref cN) none H'
section
variable {cs:NC} {cN:Addr}
def n8 (F:Fun K "note_of_name" "note_of_name" cb f fd) (M:Mg mg) (Z_Made:MkC P w K mg base "Made" cs.made 1 ["self","stuff"] (kq K cs.made "stuff")) (Z_Used:MkC P w K mg base "Used" cs.used 1 ["self","use"] (kq K cs.used "use")) (Z_Chief:MkC P w K mg base "Chief" cs.chief 1 ["self","stuff"] (kq K cs.chief "stuff")) (R_NoNote:XRaise K mg "NoNote" cN):FnOk P w K mg base (CXE P w) 3 f fd ["word","name"] (rB K cs cN):=by
 refine F.okX aP.fs (fun vs H Q E h=>?_) (fun cdv A outer s H vs Q E hr h=>?_)
 ·obtain⟨wd,s,rfl,_⟩:=h
  rfl
 obtain⟨wd,s,rfl,q,e⟩:=h
 refine⟨_,(`f (`m (`k (@fk _) (`b 0 aP rfl) `p (dm _)) (`n (`q (@ji _ _ _ _ _ _ _ _ _ _ _ _ Z_Made hr rfl (`a (`b 1 aP rfl) `o (aN rfl)) (by decide) rfl (aN rfl) aW))) (@dw _)) (`f (`m (`k (@fk _) (`b 0 aP rfl) `p (dm _)) (`n (`q (@ji _ _ _ _ _ _ _ _ _ _ _ _ Z_Used hr rfl (`a (`b 1 aP rfl) `o (aN rfl)) (by decide) rfl (aN rfl) aW))) (@dw _)) (`f (`m (`k (@fk _) (`b 0 aP rfl) `p (dm _)) (`n (`q (@ji _ _ _ _ _ _ _ _ _ _ _ _ Z_Chief hr rfl (`a (`b 1 aP rfl) `o (aN rfl)) (by decide) rfl (aN rfl) aW))) (@dw _)) (`n (@iH _ _ _ _ _ _ _ _ _ _ _ iw hr rfl R_NoNote (`a `p `o (aN rfl)) (aN rfl) (by rfl) rfl))))),?_⟩
 trivial
 by_cases h1:wd = "made"
 ·rw[if_pos h1]
  exact fun x dx hx hd ne=>⟨x,dx,_,rfl,aT,rfl,q _ (.inl ⟨h1,rfl⟩) _ _ (make1' hx hd) ⟨dx,aT⟩⟩
 rw[if_neg h1]
 by_cases h2:wd = "used"
 ·rw[if_pos h2]
  exact fun x dx hx hd ne=>⟨x,dx,_,rfl,aT,rfl,q _ (.inr (.inl ⟨h2,rfl⟩)) _ _ (make1' hx hd) ⟨dx,aT⟩⟩
 rw[if_neg h2]
 by_cases h3:wd = "chief"
 ·rw[if_pos h3]
  exact fun x dx hx hd ne=>⟨x,dx,_,rfl,aT,rfl,q _ (.inr (.inr ⟨h3,rfl⟩)) _ _ (make1' hx hd) ⟨dx,aT⟩⟩
 rw[if_neg h3]
 exact⟨by decide,e h1 h2 h3⟩
def nN (F:Fun K "note_of_notes" "note_of_notes" bS f fd) (M:Mg mg) (Z_Both:MkC P w K mg base "Both" cs.both 1 ["self","one","other"] (iY K)) (Z_Either:MkC P w K mg base "Either" cs.either 1 ["self","one","other"] (iY K)) (Z_But:MkC P w K mg base "But" cs.but 1 ["self","one","other"] (iY K))
  (t1:TwoC K cs.both) (t2:TwoC K cs.either) (t3:TwoC K cs.but):FnOk P w K mg base CX0 3 f fd ["word","one","other"] (kK K cs):=by
 refine F.ok aC.fs (fun vs H Q E h=>?_) (fun cdv A outer s H vs Q E hr h=>?_)
 ·obtain⟨wd,a1,a2,x,y,n,rfl,_⟩:=h
  rfl
 obtain⟨wd,a1,a2,x,y,n,rfl,hw,O1,O2,q⟩:=h
 refine⟨_,(`f (`m (`k (@fk _) (`b 0 aC rfl) `p (dm _)) (`n (`q (@ji _ _ _ _ _ _ _ _ _ _ _ _ Z_Both hr rfl (`a (`b 1 aC rfl) (`a (`b 2 aC rfl) `o (aN rfl)) (aN rfl)) (by decide) rfl (aN rfl) (cg rfl aW)))) (@dw _)) (`f (`m (`k (@fk _) (`b 0 aC rfl) `p (dm _)) (`n (`q (@ji _ _ _ _ _ _ _ _ _ _ _ _ Z_Either hr rfl (`a (`b 1 aC rfl) (`a (`b 2 aC rfl) `o (aN rfl)) (aN rfl)) (by decide) rfl (aN rfl) (cg rfl aW)))) (@dw _)) (`n (`q (@ji _ _ _ _ _ _ _ _ _ _ _ _ Z_But hr rfl (`a (`b 1 aC rfl) (`a (`b 2 aC rfl) `o (aN rfl)) (aN rfl)) (by decide) rfl (aN rfl) (cg rfl aW)))))),?_⟩
 trivial
 rcases hw with ⟨rfl,rfl⟩ | ⟨rfl,rfl⟩ | ⟨rfl,rfl⟩
 ·rw[if_pos rfl]
  exact fun x dx hx hd ne=>⟨x,_,dx,_,_,rfl,aT,t1.cl,t1.n1,t1.n2,fun H' h1 h2=>⟨rfl,q _ _ (je hx hd h2) ⟨dx,_,_,h1,ObjN.same (je hx hd h2) O1,ObjN.same (je hx hd h2) O2⟩⟩⟩
 ·rw[if_neg (by decide),if_pos rfl]
  exact fun x dx hx hd ne=>⟨x,_,dx,_,_,rfl,aT,t2.cl,t2.n1,t2.n2,fun H' h1 h2=>⟨rfl,q _ _ (je hx hd h2) ⟨dx,_,_,h1,ObjN.same (je hx hd h2) O1,ObjN.same (je hx hd h2) O2⟩⟩⟩
 ·rw[if_neg (by decide),if_neg (by decide)]
  exact fun x dx hx hd ne=>⟨x,_,dx,_,_,rfl,aT,t3.cl,t3.n1,t3.n2,fun H' h1 h2=>⟨rfl,q _ _ (je hx hd h2) ⟨dx,_,_,h1,ObjN.same (je hx hd h2) O1,ObjN.same (je hx hd h2) O2⟩⟩⟩
def oU (F:Fun K "note_of_one" "note_of_one" cV f fd) (M:Mg mg) (bz:Cal P w K mg base CX0 "is_name" 1 ["thing"] (nA K)) (bA:Cal P w K mg base CX0 "is_kind" 2 ["thing"] (lU K)) (ce:Cal P w K mg base (CXE P w) "note_of_name" 3 ["word","name"] (rB K cs cN))
  (Z_Anything:Mk0 K cs.any) (A_Anything:mg "Anything"=some (.ref cs.any)) (Z_Over:MkC P w K mg base "Over" cs.over 1 ["self","one","other"] (iY K)) (t4:TwoC K cs.over) (R_NoNote:XRaise K mg "NoNote" cN):FnOk P w K mg base (CXE P w) 4 f fd ["told"] (kj K cs cN):=by
 refine F.okX aA.fs (fun vs H Q E h=>?_) (fun cdv A outer s H vs Q E hr h=>?_)
 ·rcases h with ⟨p,n,rfl,_⟩ | ⟨p,z,rest,rfl,_⟩ <;> rfl
 refine⟨_,(`f (`m (@PW.pt _ _ _ (@iu _ _ _ _ _ _ _ (`k (@fk _) (`i cQ rfl M.m_len fM (`a (`b 0 aA rfl) `o (aN rfl)) aq rfl (aN rfl) aW) `c (dm _)) (@gZ _ _ _ _ (`k (@fk _) (`g (@ix_tup _) (`b 0 aA rfl) `c (fun _ _=>rfl)) `p (dm _))))) (`n (`q (@zF _ _ _ _ _ Z_Anything rfl A_Anything rfl))) (@dw _)) (`f (`m (@PW.pt _ _ _ (@iu _ _ _ _ _ _ _ (`k (@fk _) (`i cQ rfl M.m_len fM (`a (`b 0 aA rfl) `o (aN rfl)) aq rfl (aN rfl) aW) `c (dm _)) (@gZ _ _ _ _ (@fP _ _ _ (`e bz hr rfl (`a (`g (@ix_tup _) (`b 0 aA rfl) `c (fun _ _=>rfl)) `o (aN rfl)) (by decide) rfl (aN rfl) aW) (fZ rfl))))) (`n (`q (@gR _ _ _ _ _ _ _ _ _ _ _ _ _ ce hr rfl iL (`a (`g (@ix_tup _) (`b 0 aA rfl) `c (fun _ _=>rfl)) (`a (`g (@ix_tup _) (`b 0 aA rfl) `c (fun _ _=>rfl)) `o (aN rfl)) (aN rfl)) (by decide) rfl (aN rfl) (cg rfl aW)))) (@dw _)) (`f (`m (@PW.pt _ _ _ (@iu _ _ _ _ _ _ _ (`k (@fk _) (`i cQ rfl M.m_len fM (`a (`b 0 aA rfl) `o (aN rfl)) aq rfl (aN rfl) aW) `c (dm _)) (@iu _ _ _ _ _ _ _ (`k (@fk _) (`g (@ix_tup _) (`b 0 aA rfl) `c (fun _ _=>rfl)) `p (dm _)) (@iu _ _ _ _ _ _ _ (@fP _ _ _ (`e bA hr rfl (`a (`g (@ix_tup _) (`b 0 aA rfl) `c (fun _ _=>rfl)) `o (aN rfl)) (by decide) rfl (aN rfl) aW) (fZ rfl)) (@gZ _ _ _ _ (@fP _ _ _ (`e bA hr rfl (`a (`g (@ix_tup _) (`b 0 aA rfl) `c (fun _ _=>rfl)) `o (aN rfl)) (by decide) rfl (aN rfl) aW) (fZ rfl))))))) (`n (`q (@ji _ _ _ _ _ _ _ _ _ _ _ _ Z_Over hr rfl (`a (`g (@ix_tup _) (`b 0 aA rfl) `c (fun _ _=>rfl)) (`a (`g (@ix_tup _) (`b 0 aA rfl) `c (fun _ _=>rfl)) `o (aN rfl)) (aN rfl)) (by decide) rfl (aN rfl) (cg rfl aW)))) (@dw _)) (`n (@iH _ _ _ _ _ _ _ _ _ _ _ iw hr rfl R_NoNote (`a `p `o (aN rfl)) (aN rfl) (by rfl) rfl))))),?_⟩
 obtain⟨p,rfl⟩:∃ p,vs=[V.ref p]:=by rcases h with ⟨p,n,ev,_⟩ | ⟨p,z,rest,ev,_⟩ <;> exact⟨_,ev⟩
 trivial
 rcases h with ⟨p',n,ev,R,ok,dp,q⟩ | ⟨p',z,rest,ev,T,B,e⟩ <;> cases ev
 ·cases pJ R with
  | any T =>
   refine⟨_,.inr T,?_⟩
   rw[if_pos (by rfl)]
   refine⟨_,T,_,rfl,rfl,?_⟩
   rw[if_pos rfl]
   intro x dx hx hd ne
   refine q _ _ (fun b u z=>?_) ⟨dx,aT⟩
   rw[aZ (bZ z hx),aZ (bZ z hd)]
   exact z
  | @made s T =>
   refine⟨_,.inr T,?_⟩
   rw[if_neg (by simp)]
   refine⟨_,.inr T,?_⟩
   rw[if_pos (by simp)]
   refine⟨_,T,_,rfl,_,true,rfl,jb ok,fun H1 S1=>⟨_,rfl,?_⟩⟩
   rw[if_pos rfl]
   exact⟨_,Same.tup S1 T,_,rfl,_,Same.tup S1 T,_,rfl,_,_,rfl,fun n hn a H' e O=>q a H' (S1.trans e) (by rcases hn with ⟨h,rfl⟩ | ⟨h,rfl⟩ | ⟨h,rfl⟩ <;> first | exact O | exact absurd h (by decide)),fun h1 h2 h3=>absurd rfl h1⟩
  | @used s T =>
   refine⟨_,.inr T,?_⟩
   rw[if_neg (by simp)]
   refine⟨_,.inr T,?_⟩
   rw[if_pos (by simp)]
   refine⟨_,T,_,rfl,_,true,rfl,jb ok,fun H1 S1=>⟨_,rfl,?_⟩⟩
   rw[if_pos rfl]
   exact⟨_,Same.tup S1 T,_,rfl,_,Same.tup S1 T,_,rfl,_,_,rfl,fun n hn a H' e O=>q a H' (S1.trans e) (by rcases hn with ⟨h,rfl⟩ | ⟨h,rfl⟩ | ⟨h,rfl⟩ <;> first | exact O | exact absurd h (by decide)),fun h1 h2 h3=>absurd rfl h2⟩
  | @chief s T =>
   refine⟨_,.inr T,?_⟩
   rw[if_neg (by simp)]
   refine⟨_,.inr T,?_⟩
   rw[if_pos (by simp)]
   refine⟨_,T,_,rfl,_,true,rfl,jb ok,fun H1 S1=>⟨_,rfl,?_⟩⟩
   rw[if_pos rfl]
   exact⟨_,Same.tup S1 T,_,rfl,_,Same.tup S1 T,_,rfl,_,_,rfl,fun n hn a H' e O=>q a H' (S1.trans e) (by rcases hn with ⟨h,rfl⟩ | ⟨h,rfl⟩ | ⟨h,rfl⟩ <;> first | exact O | exact absurd h (by decide)),fun h1 h2 h3=>absurd rfl h3⟩
  | @over p1 p2 ka kb T T1 T2 =>
   obtain⟨ok1,ok2⟩:=ok
   refine⟨_,.inr T,?_⟩
   rw[if_neg (by simp)]
   refine⟨_,.inr T,?_⟩
   rw[if_neg (by simp)]
   refine⟨_,.inr T,?_⟩
   rw[if_pos (by simp)]
   refine⟨_,T,_,rfl,rfl,?_⟩
   rw[if_pos rfl]
   refine⟨_,T,_,rfl,_,true,rfl,KindV.two T1 (jb ok1.1) (jb ok1.2),fun H1 S1=>⟨_,rfl,?_⟩⟩
   rw[if_pos rfl]
   refine⟨_,Same.tup S1 T,_,rfl,_,true,rfl,KindV.two (Same.tup S1 T2) (jb ok2.1) (jb ok2.2),fun H2 S2=>⟨_,rfl,?_⟩⟩
   rw[if_pos rfl]
   have S12:=S1.trans S2
   refine⟨_,Same.tup S12 T,_,rfl,_,Same.tup S12 T,_,rfl,fun x dx hx hd ne=>⟨x,_,dx,_,_,rfl,aT,t4.cl,t4.n1,t4.n2,fun H' h1 h2=>⟨rfl,q _ _ (S12.trans (je hx hd h2)) ⟨dx,_,_,h1,Same.tup (S12.trans (je hx hd h2)) T1,Same.tup (S12.trans (je hx hd h2)) T2⟩⟩⟩⟩
  | @both _ _ x y _ _ _=>exact absurd dp (by have:=Nt.dp_pos x; show ¬(max x.dp y.dp+1=1); exact Oz33 this)
  | @either _ _ x y _ _ _=>exact absurd dp (by have:=Nt.dp_pos x; show ¬(max x.dp y.dp+1=1); exact Oz33 this)
  | @but _ _ x y _ _ _=>exact absurd dp (by have:=Nt.dp_pos x; show ¬(max x.dp y.dp+1=1); exact Oz33 this)
 ·cases B with
  | w0 hz =>
   refine⟨_,.inr T,?_⟩
   rw[if_pos (by rfl)]
   refine⟨_,T,_,rfl,rfl,?_⟩
   rw[if_neg (fun h=>hz (V.str.inj h))]
   refine⟨_,.inr T,?_⟩
   rw[if_neg (by simp)]
   refine⟨_,.inr T,?_⟩
   rw[if_neg (by simp)]
   exact⟨by decide,e _ (Same.refl _)⟩
  | @n1 _ v hv =>
   refine⟨_,.inr T,?_⟩
   rw[if_neg (by simp)]
   refine⟨_,.inr T,?_⟩
   rw[if_pos (by simp)]
   refine⟨_,T,_,rfl,_,false,rfl,hv,fun H1 S1=>⟨_,rfl,?_⟩⟩
   rw[if_neg (by decide)]
   refine⟨_,.inr (Same.tup S1 T),?_⟩
   rw[if_neg (by simp)]
   exact⟨by decide,e _ S1⟩
  | @m1 _ s hz1 hz2 hz3 hs =>
   refine⟨_,.inr T,?_⟩
   rw[if_neg (by simp)]
   refine⟨_,.inr T,?_⟩
   rw[if_pos (by simp)]
   refine⟨_,T,_,rfl,_,true,rfl,jb hs,fun H1 S1=>⟨_,rfl,?_⟩⟩
   rw[if_pos rfl]
   exact⟨_,Same.tup S1 T,_,rfl,_,Same.tup S1 T,_,rfl,_,_,rfl,fun n hn=>by rcases hn with ⟨h,rfl⟩ | ⟨h,rfl⟩ | ⟨h,rfl⟩ <;> first | exact absurd h hz1 | exact absurd h hz2 | exact absurd h hz3,fun _ _ _=>e _ S1⟩
  | @w2 _ v u hz =>
   refine⟨_,.inr T,?_⟩
   rw[if_neg (by simp)]
   refine⟨_,.inr T,?_⟩
   rw[if_neg (by simp)]
   refine⟨_,.inr T,?_⟩
   rw[if_pos (by simp)]
   refine⟨_,T,_,rfl,rfl,?_⟩
   rw[if_neg (fun h=>hz (V.str.inj h))]
   exact⟨by decide,e _ (Same.refl _)⟩
  | @k1 v u hv =>
   refine⟨_,.inr T,?_⟩
   rw[if_neg (by simp)]
   refine⟨_,.inr T,?_⟩
   rw[if_neg (by simp)]
   refine⟨_,.inr T,?_⟩
   rw[if_pos (by simp)]
   refine⟨_,T,_,rfl,rfl,?_⟩
   rw[if_pos rfl]
   refine⟨_,T,_,rfl,_,false,rfl,hv,fun H1 S1=>⟨_,rfl,?_⟩⟩
   rw[if_neg (by decide)]
   exact⟨by decide,e _ S1⟩
  | @k2 v u hv hu =>
   refine⟨_,.inr T,?_⟩
   rw[if_neg (by simp)]
   refine⟨_,.inr T,?_⟩
   rw[if_neg (by simp)]
   refine⟨_,.inr T,?_⟩
   rw[if_pos (by simp)]
   refine⟨_,T,_,rfl,rfl,?_⟩
   rw[if_pos rfl]
   refine⟨_,T,_,rfl,_,true,rfl,hv,fun H1 S1=>⟨_,rfl,?_⟩⟩
   rw[if_pos rfl]
   refine⟨_,Same.tup S1 T,_,rfl,_,false,rfl,hu.same S1,fun H2 S2=>⟨_,rfl,?_⟩⟩
   rw[if_neg (by decide)]
   exact⟨by decide,e _ (S1.trans S2)⟩
def tS {d:Nat} (F:Fun K "note_within" "note_within" bj f fd) (M:Mg mg) (aJ:Cal P w K mg base (CXE P w) "note_of_one" 4 ["told"] (kj K cs cN)) (aE:Cal P w K mg base CX0 "note_of_notes" 3 ["word","one","other"] (kK K cs)) (R_NoNote:XRaise K mg "NoNote" cN)
  (aK:Cal P w K mg base (CXE P w) "note_within" (5+d) ["left","told"] (jE K cs cN d)):FnOk P w K mg base (CXE P w) (5+d+1) f fd ["left","told"] (jE K cs cN (d+1)):=by
 refine F.okX ae.fs (fun vs H Q E h=>?_) (fun cdv A outer s H vs Q E hr h=>?_)
 ·rcases h with ⟨p,n,rfl,_⟩ | ⟨v,rfl,_⟩ <;> rfl
 refine⟨_,(`f (`m (`k (@fk _) (`b 0 ae rfl) `c (dm _)) (`n (@iH _ _ _ _ _ _ _ _ _ _ _ iw hr rfl R_NoNote (`a `p `o (aN rfl)) (aN rfl) (by rfl) rfl)) (@dw _)) (`f (`m (@PW.pt _ _ _ (@jr _ _ _ _ _ _ _ (@gc _ _ _ _ (@fP _ _ _ (`i gB rfl M.m_isinstance fj (`a (`b 1 ae rfl) (`a (@gH _ _ (.ty "tuple") _ _ rfl M.m_tuple iN rfl aL rfl) `o (aN rfl)) (aN rfl)) ar rfl (aN rfl) (cg rfl aW)) (fZ rfl))) (@jr _ _ _ _ _ _ _ (`k (@fk _) (`i cQ rfl M.m_len fM (`a (`b 1 ae rfl) `o (aN rfl)) aq rfl (aN rfl) aW) `c (dm _)) (@jt _ _ _ _ (@gc _ _ _ _ (@fP _ _ _ (`i gB rfl M.m_isinstance fj (`a (`g (@ix_tup _) (`b 1 ae rfl) `c (fun _ _=>rfl)) (`a (@gH _ _ (.ty "str") _ _ rfl M.m_str qV rfl eR rfl) `o (aN rfl)) (aN rfl)) ar rfl (aN rfl) (cg rfl aW)) (fZ rfl))))))) (`n (@iH _ _ _ _ _ _ _ _ _ _ _ iw hr rfl R_NoNote (`a `p `o (aN rfl)) (aN rfl) (by rfl) rfl)) (@dw _)) (`f (`m (@PW.pt _ _ _ (@iu _ _ _ _ _ _ _ (`k (@fk _) (`i cQ rfl M.m_len fM (`a (`b 1 ae rfl) `o (aN rfl)) aq rfl (aN rfl) aW) `c (dm _)) (@gZ _ _ _ _ (`k mD (`g (@ix_tup _) (`b 1 ae rfl) `c (fun _ _=>rfl)) (`j (`a `p (`a `p (`a `p `o (aN rfl)) (aN rfl)) (aN rfl))) (by with_unfolding_all rfl))))) (`f (`h 2 ae (@gR _ _ _ _ _ _ _ _ _ _ _ _ _ aK hr rfl iL (`a (`d (@jz _) (`b 0 ae rfl) `c) (`a (`g (@ix_tup _) (`b 1 ae rfl) `c (fun _ _=>rfl)) `o (aN rfl)) (aN rfl)) (by exact Oz114) rfl (aN rfl) (cg rfl aW)) rfl) (`f (`h 3 ae (@gR _ _ _ _ _ _ _ _ _ _ _ _ _ aK hr rfl iL (`a (`d (@jz _) (`b 0 ae rfl) `c) (`a (`g (@ix_tup _) (`b 1 ae rfl) `c (fun _ _=>rfl)) `o (aN rfl)) (aN rfl)) (by exact Oz114) rfl (aN rfl) (cg rfl aW)) rfl) (`n (`q (`e aE hr rfl (`a (`g (@ix_tup _) (`b 1 ae rfl) `c (fun _ _=>rfl)) (`a (`b 2 ae rfl) (`a (`b 3 ae rfl) `o (aN rfl)) (aN rfl)) (aN rfl)) (by omega) rfl (aN rfl) (cg rfl (cg rfl aW))))))) (@dw _)) (`n (`q (@gR _ _ _ _ _ _ _ _ _ _ _ _ _ aJ hr rfl iL (`a (`b 1 ae rfl) `o (aN rfl)) (by omega) rfl (aN rfl) aW)))))),?_⟩
 obtain⟨v,rfl⟩:∃ v,vs=[V.int ((d+1:Nat):Int),v]:=by rcases h with ⟨p,n,ev,_⟩ | ⟨v,ev,_⟩ <;> exact⟨_,ev⟩
 by_cases hp:∃ p,v=.ref p
 ·obtain⟨p,rfl⟩:=hp
  trivial
  rw[if_neg (by exact Oz56)]
  rcases h with ⟨p',n,ev,R,ok,dp,q⟩ | ⟨v',ev,B,e⟩ <;> cases ev
  ·have one:n.dp=1→∀ H',Same H H'→kj K cs cN [V.ref p] H' Q E:=fun h H' e=>.inl ⟨p,n,rfl,R.same e,ok,h,fun a H2 e2=>q a H2 (e.trans e2)⟩
   cases pJ R with
   | any T =>
    refine⟨_,Kd.tup T,?_⟩
    rw[if_neg (by decide)]
    refine⟨_,.inr T,?_⟩
    rw[if_neg (by simp)]
    refine⟨_,T,_,rfl,_,(show Kd K H (.str _) .str from rfl),?_⟩
    rw[if_neg (by decide)]
    refine⟨_,.inr T,?_⟩
    rw[if_neg (by simp)]
    exact one rfl _ (Same.refl _)
   | made T =>
    refine⟨_,Kd.tup T,?_⟩
    rw[if_neg (by decide)]
    refine⟨_,.inr T,?_⟩
    rw[if_neg (by simp)]
    refine⟨_,T,_,rfl,_,(show Kd K H (.str _) .str from rfl),?_⟩
    rw[if_neg (by decide)]
    refine⟨_,.inr T,?_⟩
    rw[if_neg (by simp)]
    exact one rfl _ (Same.refl _)
   | used T =>
    refine⟨_,Kd.tup T,?_⟩
    rw[if_neg (by decide)]
    refine⟨_,.inr T,?_⟩
    rw[if_neg (by simp)]
    refine⟨_,T,_,rfl,_,(show Kd K H (.str _) .str from rfl),?_⟩
    rw[if_neg (by decide)]
    refine⟨_,.inr T,?_⟩
    rw[if_neg (by simp)]
    exact one rfl _ (Same.refl _)
   | chief T =>
    refine⟨_,Kd.tup T,?_⟩
    rw[if_neg (by decide)]
    refine⟨_,.inr T,?_⟩
    rw[if_neg (by simp)]
    refine⟨_,T,_,rfl,_,(show Kd K H (.str _) .str from rfl),?_⟩
    rw[if_neg (by decide)]
    refine⟨_,.inr T,?_⟩
    rw[if_neg (by simp)]
    exact one rfl _ (Same.refl _)
   | over T T1 T2 =>
    refine⟨_,Kd.tup T,?_⟩
    rw[if_neg (by decide)]
    refine⟨_,.inr T,?_⟩
    rw[if_neg (by simp)]
    refine⟨_,T,_,rfl,_,(show Kd K H (.str _) .str from rfl),?_⟩
    rw[if_neg (by decide)]
    refine⟨_,.inr T,?_⟩
    rw[if_pos (by simp)]
    refine⟨_,T,_,rfl,by decide,fun p1 hp1=>?_⟩
    obtain⟨H1,g1,S1,T1⟩:=bN (K:=K) hp1 [V.str (Dj "both"),V.str (Dj "either"),V.str (Dj "but")]
    rw[← g1]
    clear g1
    refine⟨p1,_,rfl,.inr T1,rfl,rfl,_,rfl,?_⟩
    rw[if_neg (by decide)]
    exact one rfl _ S1
   | @both a1 a2 x y T R1 R2 =>
    have dd:max x.dp y.dp+1≤d+1:=dp
    obtain⟨ok1,ok2⟩:=ok
    refine⟨_,Kd.tup T,?_⟩
    rw[if_neg (by decide)]
    refine⟨_,.inr T,?_⟩
    rw[if_neg (by simp)]
    refine⟨_,T,_,rfl,_,(show Kd K H (.str _) .str from rfl),?_⟩
    rw[if_neg (by decide)]
    refine⟨_,.inr T,?_⟩
    rw[if_pos (by simp)]
    refine⟨_,T,_,rfl,by decide,fun p1 hp1=>?_⟩
    obtain⟨H1,g1,S1,T1⟩:=bN (K:=K) hp1 [V.str (Dj "both"),V.str (Dj "either"),V.str (Dj "but")]
    rw[← g1]
    clear g1
    refine⟨p1,_,rfl,.inr T1,rfl,rfl,_,rfl,?_⟩
    rw[if_pos (by decide)]
    have ed:((d+1:Nat):Int)-1=(d:Int):=by exact Oz38
    rw[ed]
    refine⟨_,Same.tup S1 T,_,rfl,.inl ⟨a1,x,rfl,R1.same S1,ok1,by exact Oz7 dd,fun o1 H2 S2 O1=>?_⟩⟩
    have S12:=S1.trans S2
    refine⟨_,Same.tup S12 T,_,rfl,.inl ⟨a2,y,rfl,R2.same S12,ok2,by exact Oz6 dd,fun o2 H3 S3 O2=>?_⟩⟩
    have S13:=S12.trans S3
    exact⟨_,Same.tup S13 T,_,rfl,_,o1,o2,x,y,_,rfl,(.inl ⟨rfl,rfl⟩),ObjN.same S3 O1,O2,fun a H' e=>q a H' (S13.trans e)⟩
   | @either a1 a2 x y T R1 R2 =>
    have dd:max x.dp y.dp+1≤d+1:=dp
    obtain⟨ok1,ok2⟩:=ok
    refine⟨_,Kd.tup T,?_⟩
    rw[if_neg (by decide)]
    refine⟨_,.inr T,?_⟩
    rw[if_neg (by simp)]
    refine⟨_,T,_,rfl,_,(show Kd K H (.str _) .str from rfl),?_⟩
    rw[if_neg (by decide)]
    refine⟨_,.inr T,?_⟩
    rw[if_pos (by simp)]
    refine⟨_,T,_,rfl,by decide,fun p1 hp1=>?_⟩
    obtain⟨H1,g1,S1,T1⟩:=bN (K:=K) hp1 [V.str (Dj "both"),V.str (Dj "either"),V.str (Dj "but")]
    rw[← g1]
    clear g1
    refine⟨p1,_,rfl,.inr T1,rfl,rfl,_,rfl,?_⟩
    rw[if_pos (by decide)]
    have ed:((d+1:Nat):Int)-1=(d:Int):=by exact Oz38
    rw[ed]
    refine⟨_,Same.tup S1 T,_,rfl,.inl ⟨a1,x,rfl,R1.same S1,ok1,by exact Oz7 dd,fun o1 H2 S2 O1=>?_⟩⟩
    have S12:=S1.trans S2
    refine⟨_,Same.tup S12 T,_,rfl,.inl ⟨a2,y,rfl,R2.same S12,ok2,by exact Oz6 dd,fun o2 H3 S3 O2=>?_⟩⟩
    have S13:=S12.trans S3
    exact⟨_,Same.tup S13 T,_,rfl,_,o1,o2,x,y,_,rfl,(.inr (.inl ⟨rfl,rfl⟩)),ObjN.same S3 O1,O2,fun a H' e=>q a H' (S13.trans e)⟩
   | @but a1 a2 x y T R1 R2 =>
    have dd:max x.dp y.dp+1≤d+1:=dp
    obtain⟨ok1,ok2⟩:=ok
    refine⟨_,Kd.tup T,?_⟩
    rw[if_neg (by decide)]
    refine⟨_,.inr T,?_⟩
    rw[if_neg (by simp)]
    refine⟨_,T,_,rfl,_,(show Kd K H (.str _) .str from rfl),?_⟩
    rw[if_neg (by decide)]
    refine⟨_,.inr T,?_⟩
    rw[if_pos (by simp)]
    refine⟨_,T,_,rfl,by decide,fun p1 hp1=>?_⟩
    obtain⟨H1,g1,S1,T1⟩:=bN (K:=K) hp1 [V.str (Dj "both"),V.str (Dj "either"),V.str (Dj "but")]
    rw[← g1]
    clear g1
    refine⟨p1,_,rfl,.inr T1,rfl,rfl,_,rfl,?_⟩
    rw[if_pos (by decide)]
    have ed:((d+1:Nat):Int)-1=(d:Int):=by exact Oz38
    rw[ed]
    refine⟨_,Same.tup S1 T,_,rfl,.inl ⟨a1,x,rfl,R1.same S1,ok1,by exact Oz7 dd,fun o1 H2 S2 O1=>?_⟩⟩
    have S12:=S1.trans S2
    refine⟨_,Same.tup S12 T,_,rfl,.inl ⟨a2,y,rfl,R2.same S12,ok2,by exact Oz6 dd,fun o2 H3 S3 O2=>?_⟩⟩
    have S13:=S12.trans S3
    exact⟨_,Same.tup S13 T,_,rfl,_,o1,o2,x,y,_,rfl,(.inr (.inr ⟨rfl,rfl⟩)),ObjN.same S3 O1,O2,fun a H' e=>q a H' (S13.trans e)⟩
  ·have ed:((d+1:Nat):Int)-1=(d:Int):=by exact Oz38
   cases B with
   | no hk ne =>
    refine⟨_,hk,?_⟩
    rw[if_pos (jI ne)]
    exact⟨by decide,e _ (Same.refl _)⟩
   | nil T =>
    refine⟨_,Kd.tup T,?_⟩
    rw[if_neg (by decide)]
    refine⟨_,.inr T,?_⟩
    rw[if_pos (by rfl)]
    exact⟨by decide,e _ (Same.refl _)⟩
   | @head _ _ x k xs T hk ne =>
    refine⟨_,Kd.tup T,?_⟩
    rw[if_neg (by decide)]
    refine⟨_,.inr T,?_⟩
    rw[if_neg (by rw[DF]; exact Oz56)]
    refine⟨_,T,_,(show atI (x::xs) ((0:Nat):Int)=some _ from dX rfl),_,hk,?_⟩
    rw[if_pos (j8 ne)]
    exact⟨by decide,e _ (Same.refl _)⟩
   | @one _ _ z rest T nz B =>
    have last:∀ H',Same H H'→kj K cs cN [V.ref p] H' Q E:=fun H' S=>.inr ⟨p,z,rest,rfl,Same.tup S T,B.same S,fun H2 S2=>e _ (S.trans S2)⟩
    refine⟨_,Kd.tup T,?_⟩
    rw[if_neg (by decide)]
    refine⟨_,.inr T,?_⟩
    rw[if_neg (by rw[DF]; exact Oz56)]
    refine⟨_,T,_,(show atI (V.str z::rest) ((0:Nat):Int)=some _ from dX rfl),_,(show Kd K H (.str z) .str from rfl),?_⟩
    rw[if_neg (by decide)]
    refine⟨_,.inr T,?_⟩
    by_cases l2:rest.length=2
    ·rw[if_pos (by rw[DF]; omega)]
     obtain⟨u1,u2,rfl⟩:∃ u1 u2,rest=[u1,u2]:=match rest,l2 with | [u1,u2],_=>⟨u1,u2,rfl⟩
     rcases nz with h | rfl | rfl | rfl | rfl
     ·exact absurd l2 h
     ·skip
      refine⟨_,T,_,rfl,by decide,fun p1 hp1=>?_⟩
      obtain⟨H1,g1,S1,T1⟩:=bN (K:=K) hp1 [V.str (Dj "both"),V.str (Dj "either"),V.str (Dj "but")]
      rw[← g1]
      clear g1
      refine⟨p1,_,rfl,.inr T1,rfl,rfl,_,rfl,?_⟩
      rw[if_neg (by decide)]
      exact last _ S1
     ·skip
      refine⟨_,T,_,rfl,by decide,fun p1 hp1=>?_⟩
      obtain⟨H1,g1,S1,T1⟩:=bN (K:=K) hp1 [V.str (Dj "both"),V.str (Dj "either"),V.str (Dj "but")]
      rw[← g1]
      clear g1
      refine⟨p1,_,rfl,.inr T1,rfl,rfl,_,rfl,?_⟩
      rw[if_neg (by decide)]
      exact last _ S1
     ·skip
      refine⟨_,T,_,rfl,by decide,fun p1 hp1=>?_⟩
      obtain⟨H1,g1,S1,T1⟩:=bN (K:=K) hp1 [V.str (Dj "both"),V.str (Dj "either"),V.str (Dj "but")]
      rw[← g1]
      clear g1
      refine⟨p1,_,rfl,.inr T1,rfl,rfl,_,rfl,?_⟩
      rw[if_neg (by decide)]
      exact last _ S1
     ·skip
      refine⟨_,T,_,rfl,by decide,fun p1 hp1=>?_⟩
      obtain⟨H1,g1,S1,T1⟩:=bN (K:=K) hp1 [V.str (Dj "both"),V.str (Dj "either"),V.str (Dj "but")]
      rw[← g1]
      clear g1
      refine⟨p1,_,rfl,.inr T1,rfl,rfl,_,rfl,?_⟩
      rw[if_neg (by decide)]
      exact last _ S1
    ·rw[if_neg (by rw[DF]; omega)]
     exact last _ (Same.refl _)
   | @fst _ _ z v1 v2 hz T B =>
    refine⟨_,Kd.tup T,?_⟩
    rw[if_neg (by decide)]
    refine⟨_,.inr T,?_⟩
    rw[if_neg (by simp)]
    refine⟨_,T,_,rfl,_,(show Kd K H (.str _) .str from rfl),?_⟩
    rw[if_neg (by decide)]
    refine⟨_,.inr T,?_⟩
    rw[if_pos (by simp)]
    refine⟨_,T,_,rfl,by decide,fun p1 hp1=>?_⟩
    obtain⟨H1,g1,S1,T1⟩:=bN (K:=K) hp1 [V.str (Dj "both"),V.str (Dj "either"),V.str (Dj "but")]
    rw[← g1]
    clear g1
    refine⟨p1,_,rfl,.inr T1,rfl,rfl,_,rfl,?_⟩
    rw[if_pos (by rcases hz with rfl | rfl | rfl <;> decide),ed]
    exact⟨_,Same.tup S1 T,_,rfl,.inr ⟨v1,rfl,B.same S1,fun H2 S2=>e _ (S1.trans S2)⟩⟩
   | @snd _ _ z v1 v2 r hz T R1 ok1 dp1 B =>
    obtain⟨a1,rfl⟩:=gq R1
    refine⟨_,Kd.tup T,?_⟩
    rw[if_neg (by decide)]
    refine⟨_,.inr T,?_⟩
    rw[if_neg (by simp)]
    refine⟨_,T,_,rfl,_,(show Kd K H (.str _) .str from rfl),?_⟩
    rw[if_neg (by decide)]
    refine⟨_,.inr T,?_⟩
    rw[if_pos (by simp)]
    refine⟨_,T,_,rfl,by decide,fun p1 hp1=>?_⟩
    obtain⟨H1,g1,S1,T1⟩:=bN (K:=K) hp1 [V.str (Dj "both"),V.str (Dj "either"),V.str (Dj "but")]
    rw[← g1]
    clear g1
    refine⟨p1,_,rfl,.inr T1,rfl,rfl,_,rfl,?_⟩
    rw[if_pos (by rcases hz with rfl | rfl | rfl <;> decide),ed]
    refine⟨_,Same.tup S1 T,_,rfl,.inl ⟨a1,r,rfl,R1.same S1,ok1,dp1,fun o1 H2 S2 O1=>?_⟩⟩
    have S12:=S1.trans S2
    exact⟨_,Same.tup S12 T,_,rfl,.inr ⟨v2,rfl,B.same S12,fun H3 S3=>e _ (S12.trans S3)⟩⟩
 ·rcases h with ⟨p,n,ev,R,ok,dp,q⟩ | ⟨v',ev,B,e⟩ <;> cases ev
  ·exact absurd ⟨p,rfl⟩ hp
  ·cases B with
   | no hk ne =>
    trivial
    rw[if_neg (by exact Oz56)]
    refine⟨_,hk,?_⟩
    rw[if_pos (jI ne)]
    exact⟨by decide,e _ (Same.refl _)⟩
   | _=>exact absurd ⟨_,rfl⟩ hp
def Zq {s1 tl:TS} {D:Ends} {σ:St} {H:Hp} (h:∀ tl',tl'=tl→mq s1 tl' D σ H):mq s1 tl D σ H:=h tl rfl
def tZ (F:Fun K "note_within" "note_within" bj f fd) (M:Mg mg) (aJ:Cal P w K mg base (CXE P w) "note_of_one" 4 ["told"] (kj K cs cN)) (aE:Cal P w K mg base CX0 "note_of_notes" 3 ["word","one","other"] (kK K cs)) (R_NoNote:XRaise K mg "NoNote" cN)
  (aK:Cal P w K mg base (CXE P w) "note_within" 4 ["left","told"] Ca):FnOk P w K mg base (CXE P w) (4+1) f fd ["left","told"] (jE K cs cN 0):=by
 refine F.okX ae.fs (fun vs H Q E h=>?_) (fun cdv A outer s H vs Q E hr h=>?_)
 ·rcases h with ⟨p,n,rfl,_⟩ | ⟨v,rfl,_⟩ <;> rfl
 refine⟨_,(`f (`m (`k (@fk _) (`b 0 ae rfl) `c (dm _)) (`n (@iH _ _ _ _ _ _ _ _ _ _ _ iw hr rfl R_NoNote (`a `p `o (aN rfl)) (aN rfl) (by rfl) rfl)) (@dw _)) (`f (`m (@PW.pt _ _ _ (@jr _ _ _ _ _ _ _ (@gc _ _ _ _ (@fP _ _ _ (`i gB rfl M.m_isinstance fj (`a (`b 1 ae rfl) (`a (@gH _ _ (.ty "tuple") _ _ rfl M.m_tuple iN rfl aL rfl) `o (aN rfl)) (aN rfl)) ar rfl (aN rfl) (cg rfl aW)) (fZ rfl))) (@jr _ _ _ _ _ _ _ (`k (@fk _) (`i cQ rfl M.m_len fM (`a (`b 1 ae rfl) `o (aN rfl)) aq rfl (aN rfl) aW) `c (dm _)) (@jt _ _ _ _ (@gc _ _ _ _ (@fP _ _ _ (`i gB rfl M.m_isinstance fj (`a (`g (@ix_tup _) (`b 1 ae rfl) `c (fun _ _=>rfl)) (`a (@gH _ _ (.ty "str") _ _ rfl M.m_str qV rfl eR rfl) `o (aN rfl)) (aN rfl)) ar rfl (aN rfl) (cg rfl aW)) (fZ rfl))))))) (`n (@iH _ _ _ _ _ _ _ _ _ _ _ iw hr rfl R_NoNote (`a `p `o (aN rfl)) (aN rfl) (by rfl) rfl)) (@dw _)) (`f (`m (@PW.pt _ _ _ (@iu _ _ _ _ _ _ _ (`k (@fk _) (`i cQ rfl M.m_len fM (`a (`b 1 ae rfl) `o (aN rfl)) aq rfl (aN rfl) aW) `c (dm _)) (@gZ _ _ _ _ (`k mD (`g (@ix_tup _) (`b 1 ae rfl) `c (fun _ _=>rfl)) (`j (`a `p (`a `p (`a `p `o (aN rfl)) (aN rfl)) (aN rfl))) (by with_unfolding_all rfl))))) (`f (`h 2 ae (@gR _ _ _ _ _ _ _ _ _ _ _ _ _ aK hr rfl iL (`a (`d (@jz _) (`b 0 ae rfl) `c) (`a (`g (@ix_tup _) (`b 1 ae rfl) `c (fun _ _=>rfl)) `o (aN rfl)) (aN rfl)) (by exact Oz111) rfl (aN rfl) (cg rfl aW)) rfl) (`f (`h 3 ae (@gR _ _ _ _ _ _ _ _ _ _ _ _ _ aK hr rfl iL (`a (`d (@jz _) (`b 0 ae rfl) `c) (`a (`g (@ix_tup _) (`b 1 ae rfl) `c (fun _ _=>rfl)) `o (aN rfl)) (aN rfl)) (by exact Oz111) rfl (aN rfl) (cg rfl aW)) rfl) (`n (`q (`e aE hr rfl (`a (`g (@ix_tup _) (`b 1 ae rfl) `c (fun _ _=>rfl)) (`a (`b 2 ae rfl) (`a (`b 3 ae rfl) `o (aN rfl)) (aN rfl)) (aN rfl)) (by omega) rfl (aN rfl) (cg rfl (cg rfl aW))))))) (@dw _)) (`n (`q (@gR _ _ _ _ _ _ _ _ _ _ _ _ _ aJ hr rfl iL (`a (`b 1 ae rfl) `o (aN rfl)) (by exact Oz111) rfl (aN rfl) aW)))))),?_⟩
 rcases h with ⟨p,n,rfl,R,ok,dp,q⟩ | ⟨v,rfl,B,e⟩
 ·have:=Nt.dp_pos n
  exact (Oz60 dp this).elim
 ·refine Zq fun tl htl=>?_
  trivial
  rw[if_pos (by rfl)]
  exact⟨by decide,e _ (Same.refl _)⟩
theorem lg (F:Fun K "note_within" "note_within" bj f fd) (M:Mg mg) (aJ:Cal P w K mg base (CXE P w) "note_of_one" 4 ["told"] (kj K cs cN)) (aE:Cal P w K mg base CX0 "note_of_notes" 3 ["word","one","other"] (kK K cs)) (R_NoNote:XRaise K mg "NoNote" cN) (b:Binds K fd ["left","told"] []) (kp:Es K (.ref f)=true) (m:mg "note_within"=some (.ref f)):∀ d:Nat,FnOk P w K mg base (CXE P w) (5+d) f fd ["left","told"] (jE K cs cN d)
 | 0=>tZ F M aJ aE R_NoNote ⟨⟨f,fd,CM,b,kp,m⟩⟩
 | d+1=>tS F M aJ aE R_NoNote ⟨⟨f,fd,lg F M aJ aE R_NoNote b kp m d,b,kp,m⟩⟩
def vZ (F:Fun K "note_of" "note_of" fG f fd) (M:Mg mg) (aK:Cal P w K mg base (CXE P w) "note_within" 10 ["left","told"] (jE K cs cN 5)):FnOk P w K mg base (CXE P w) 11 f fd ["told"] (rz K cs cN):=by
 refine F.okX gn.fs (fun vs H Q E h=>?_) (fun cdv A outer s H vs Q E hr h=>?_)
 ·rcases h with ⟨p,n,rfl,_⟩ | ⟨v,rfl,_⟩ <;> rfl
 refine⟨_,(`n (`q (@gR _ _ _ _ _ _ _ _ _ _ _ _ _ aK hr rfl iL (`a `c (`a (`b 0 gn rfl) `o (aN rfl)) (aN rfl)) (by decide) rfl (aN rfl) (cg rfl aW)))),?_⟩
 rcases h with ⟨p,n,rfl,R,ok,dp,q⟩ | ⟨v,rfl,B,e⟩
 ·trivial
  exact .inl ⟨p,n,rfl,R,ok,dp,q⟩
 ·trivial
  exact .inr ⟨v,rfl,B,e⟩
end
end _C
namespace _D
open _y _C PySem _l
noncomputable def top (i:Nat):Stmt:=PySem.Challenge.pw_tariffgate_k42_trees_refused.main.body.getD i (.Pass ⟨0,0,0,0⟩)
def jp:NnB "max":=by decide
abbrev cW:Stmt:=top 23
def cf:ScV ["kinds","look","stuff"] ["kinds","look","stuff"] cW:=scv (by decide +kernel)
abbrev cX:Stmt:=top 24
def ci:ScV ["kinds","look","use"] ["kinds","look","use"] cX:=scv (by decide +kernel)
abbrev cj:Stmt:=top 25
def a7:ScV ["kinds","look","stuff","greatest"] ["kinds","look","stuff"] cj:=scv (by decide +kernel)
abbrev eG:Stmt:=top 26
def bb:ScV ["kinds","look","kind"] ["kinds","look","kind"] eG:=scv (by decide +kernel)
abbrev fH:Stmt:=top 27
def bh:ScV ["kinds","look","one","other"] ["kinds","look","one","other"] fH:=scv (by decide +kernel)
abbrev cq:Stmt:=top 28
def bT:ScV ["places"] ["places"] cq:=scv (by decide +kernel)
structure Ground (K:cy) (H:Hp) (kl lt:Addr) (ks:List Kd2) (lk:List Int):Prop where
 kx:∃ xs,SqL K H kl xs∧KnA K H xs ks
 look:SqT K H lt (lk.map V.int)
 len:lk.length=ks.length
 pos:1≤ks.length
 le:ks.length≤4
 ok:∀ k∈ks,okKind k
 nn:∀ x∈lk,0≤x
def Ground.same {lt:Addr} {ks:List Kd2} (G:Ground K H kl lt ks lk) (e:Same H H'):Ground K H' kl lt ks lk :=
 ⟨let ⟨xs,a,b⟩:=G.kx; ⟨xs,e.seq a,b.same e⟩,Same.tup e G.look,G.len,G.pos,G.le,G.ok,G.nn⟩
def Ground.at {lt:Addr} {ks:List Kd2} (G:Ground K H kl lt ks lk) {i:Nat} {k:Kd2} (h:ks[i]?=some k):∃ x,lk[i]?=some x∧atI (lk.map V.int) (i:Int)=some (.int x)∧x∈lk∧0≤x:=by
 have hi:=(yp.mp h).1
 have hj:i<lk.length:=by rw[G.len]; exact hi
 have e:lk[i]?=some lk[i]:=Dm hj
 have m:lk[i]∈lk:=Gu _
 exact⟨_,e,dX (by rw[Dq,e]; rfl),m,G.nn _ m⟩
noncomputable def mR (ks:List Kd2) (lk:List Int) (p:Kd2→Int→Bool):Bool:=(ks.zip lk).any fun q=>p q.1 q.2
noncomputable def jw (ks:List Kd2) (lk:List Int) (p:Kd2→Int→Bool) (i:Nat):Bool:=((ks.zip lk).take i).any fun q=>p q.1 q.2
def lT {ks:List Kd2} {p:Kd2→Int→Bool} {i:Nat} {k:Kd2} {x:Int} (h1:ks[i]?=some k) (h2:lk[i]?=some x):jw ks lk p (i+1)=(jw ks lk p i || p k x):=by
 unfold jw
 have e:(ks.zip lk)[i]?=some (k,x):=by
  rw[List.getElem?_zip_eq_some]
  exact⟨h1,h2⟩
 rw[E1,e,List.any_append]
 simp
def mO {ks:List Kd2} {p:Kd2→Int→Bool} (h:lk.length=ks.length):jw ks lk p ks.length=mR ks lk p:=by
 unfold jw mR
 rw[Dw (by rw[GO]; omega)]
noncomputable def jW (lk:List Int) (s:List Nat) (k:Kd2) (x:Int):Bool:=decide (x≠0) && decide (k.1=s)
noncomputable def j4 (lk:List Int) (s:List Nat) (k:Kd2) (x:Int):Bool:=decide (x≠0) && decide (k.2=s)
noncomputable def jc (lk:List Int) (s:List Nat) (k:Kd2) (x:Int):Bool:=decide (∀ y∈lk,y≤x) && decide (k.1=s)
def jF (K:cy) (p:List Int→List Nat→Kd2→Int→Bool):Sp:=fun vs H Q _=>∃ (kl lt:Addr) (s:List Nat) (ks:List Kd2) (lk:List Int),vs=[.ref kl,.ref lt,.str (txt s)]∧Ground K H kl lt ks lk ∧
 ∀ l xs H',Same H H'→H' l=some (.lst xs)→xs.length≤4→xs.isEmpty = !(mR ks lk (p lk s))→Q (.ref l) H'
def lN (K:cy):Sp:=fun vs H Q _=>∃ (l:Addr) (xs:List V),vs=[.ref l]∧H l=some (.lst xs)∧∀ p y H',Same H H'→SqT K H' p [.bl (!xs.isEmpty),y]→Q (.ref p) H'
noncomputable def jJ (ks:List Kd2) (lk:List Int) (k:Kd2):Int:=(((ks.zip lk).find? fun q=>decide (q.1=k)).map (·.2)).getD 0
def vF (K:cy):Sp:=fun vs H Q _=>∃ (kl lt p:Addr) (ks:List Kd2) (lk:List Int) (k:Kd2),vs=[.ref kl,.ref lt,.ref p]∧Ground K H kl lt ks lk∧SqT K H p (kRow k)∧okKind k∧∀ H',Same H H'→Q (.int (jJ ks lk k)) H'
def yb (K:cy):Sp:=fun vs H Q _=>∃ (kl lt p1 p2:Addr) (ks:List Kd2) (lk:List Int) (k1 k2:Kd2),vs=[.ref kl,.ref lt,.ref p1,.ref p2]∧Ground K H kl lt ks lk∧SqT K H p1 (kRow k1)∧okKind k1∧SqT K H p2 (kRow k2)∧okKind k2∧∀ H',Same H H'→Q (.bl (decide (jJ ks lk k1 > jJ ks lk k2))) H'
def zK {ks:List Kd2} {k:Kd2} (h:k∈ks):∃ j:Nat,ks[j]?=some k∧∀ (m:Nat) (z:Kd2),m<j→ks[m]?=some z→z≠k:=by
 induction ks with
 | nil=>cases h
 | cons c ks ih =>
  by_cases e:c=k
  ·exact⟨0,by rw[e]; rfl,fun m z hm=>absurd hm (by omega)⟩
  ·have h':k∈ks:=by
    rcases Du.mp h with z | z
    ·exact absurd z.symm e
    ·exact z
   obtain⟨j,h1,h2⟩:=ih h'
   refine⟨j+1,by simpa using h1,fun m z hm hz=>?_⟩
   cases m with
   | zero=>simp at hz; rw[← hz]; exact e
   | succ m=>exact h2 m z (by omega) (by simpa using hz)
theorem tL {k:Kd2} {x:Int}:∀ {j:Nat} {ks:List Kd2} {lk:List Int},ks[j]?=some k→(∀ (m:Nat) (z:Kd2),m<j→ks[m]?=some z→z≠k)→lk[j]?=some x→jJ ks lk k=x
 | _,[],_,h,_,_=>by simp at h
 | _,_::_,[],_,_,h=>by simp at h
 | 0,c::ks,y::lk,h,_,h2=>by
  simp at h h2
  subst h h2
  unfold jJ
  simp
 | j+1,c::ks,y::lk,h,hno,h2=>by
  have e:c≠k:=hno 0 c (by omega) rfl
  have ih:=tL (j:=j) (ks:=ks) (lk:=lk) (k:=k) (x:=x) (by simpa using h) (fun m z hm hz=>hno (m+1) z (by exact Oz108 hm) (by simpa using hz)) (by simpa using h2)
  unfold jJ at ih ⊢
  rw[HU,IP (by simpa using e)]
  exact ih
theorem qa {k:Kd2}:∀ {ks:List Kd2} {lk:List Int},k ∉ ks→jJ ks lk k=0
 | [],_,_=>rfl
 | _::_,[],_=>rfl
 | c::ks,y::lk,h=>by
  have e:c≠k:=fun z=>h (by rw[z]; exact DX)
  have ih:=qa (ks:=ks) (lk:=lk) (k:=k) fun z=>h (DI _ z)
  unfold jJ at ih ⊢
  rw[HU,IP (by simpa using e)]
  exact ih
def txtV {a b:List Nat}:V.str (txt a)=V.str (txt b)↔a=b:=by
 constructor
 ·intro e
  have e2:txt a=txt b:=by injection e
  refine of_decide_eq_true ?_
  rw[← pP,e2]
  exact beq_self_eq_true _
 ·intro e
  rw[e]
def pT (F:Fun K "made_places" "made_places" cW f fd) (M:Mg mg):FnOk P w K mg base CX0 1 f fd ["kinds","look","stuff"] (jF K jW):=by
 refine F.ok cf.fs (fun vs H Q E h=>?_) (fun cdv A outer s H vs Q E hr h=>?_)
 ·obtain⟨kl,lt,s,ks,lk,rfl,_⟩:=h
  rfl
 obtain⟨kl,lt,st,ks,lk,rfl,G,q⟩:=h
 obtain⟨kx,L,A⟩:=G.kx
 have lx:=A.length
 refine⟨_,(`n (`q (`r rfl (CompOk.make (N':=["stuff","look","place","kind"]) (ix:=[2,1]) (nl:=2) (by rfl) (fm1 rfl (fm1 rfl fm0)) (by rfl) (by decide +kernel) rfl (by decide +kernel) rfl (EH ⟨rfl,.inl rfl,.inl rfl⟩ (EH ⟨rfl,.inl rfl,.inl rfl⟩ DY))) (@qY _ _ _ _ _ (@lF _ _ _ _ _ _ _ _ rfl M.m_enumerate (`a (`b 0 cf rfl) `o (aN rfl)) (by rfl)) (@lS _ _ _ _ _ _ _ _ rfl M.m_enumerate (`a (`b 0 cf rfl) `o (aN rfl)) (by rfl))) (fun _ _ _ _ _=>(@mQ _ K _ _ 2 _ _ rfl rfl (@gD _ _ _ _ _ (@dH _ _ 2 _ (show D5 (["stuff","look","place","kind"]:List Str) from by decide) rfl (Or.inl rfl) (by first | exact .inl rfl | exact .inr rfl | assumption)) (@gD _ _ _ _ _ (@dH _ _ 3 _ (show D5 (["stuff","look","place","kind"]:List Str) from by decide) rfl (Or.inl rfl) (by first | exact .inl rfl | exact .inr rfl | assumption)) (@j9 _) (by rfl)) (by rfl)) (by rfl) (by rfl))) (fun _ _ _ _ _=>(@iO _ _ _ (@PW.pt _ _ _ (@iu _ _ _ _ _ _ _ (`k (@nT _) (`g (gG (K:=K) rfl) (@pv _ 1 _ _ (by rfl) (by decreasing_trivial) (by decide) (by decide)) (@pv _ 2 _ _ (by rfl) (by decreasing_trivial) (by decide) (by decide)) (fun _ _=>rfl)) `c (dm _)) (@gZ _ _ _ _ (`k (@fk _) (`g (gG (K:=K) rfl) (@pv _ 3 _ _ (by rfl) (by decreasing_trivial) (by decide) (by decide)) `c (fun _ _=>rfl)) (@pv _ 0 _ _ (by rfl) (by decreasing_trivial) (by decide) (by decide)) (dm _))))))) (fun _ _ _ _ _=>(@pv _ 2 _ _ (by rfl) (by decreasing_trivial) (by decide) (by decide))) (by intro _; rfl)))),?_⟩
 trivial
 obtain⟨Pc,hC⟩:∃ Pc:Addr→Nat→St→Hp→Prop,Pc=fun D i τ H'=>∃ y z xs,H' D=some (.lst xs)∧xs.length≤i∧xs.isEmpty = !(jw ks lk (jW lk st) i)∧Same H H'∧τ=[some (.str (txt st)),some (.ref lt),y,z]:=⟨_,rfl⟩
 refine jG kx (.inl L) _ Pc ?_ (fun D i τ H' hD h=>by rw[hC] at h; obtain⟨y,z,xs,_,_,_,e,_⟩:=h; exact e) ?_ ?_
 ·intro D hD
  rw[hC]
  exact⟨_,_,_,aT,Nat.le_refl _,rfl,bO hD _,rfl⟩
 ·intro D i x T τ H' R' hD hx h hT next
  rw[hC] at h
  obtain⟨y,z,xs,d1,d3,d4,d2,rfl⟩:=h
  obtain⟨p,k,rfl,hk,hp⟩:=A.at hx
  obtain⟨x,e1,e2,m,nn⟩:=G.at hk
  have li:=(yp.mp hk).1
  have l4:=G.le
  obtain⟨H2,g2,S2,T2⟩:=bN (K:=K) hT [.int i,.ref p]
  rw[← g2]
  clear g2
  replace d1:=S2 _ _ d1
  replace d2:=d2.trans S2
  trivial
  refine⟨_,T2,rfl,?_⟩
  trivial
  refine⟨_,Same.tup d2 G.look,_,e2,rfl,?_⟩
  have stp:=lT (p:=jW lk st) hk e1
  have nx:∀ (xs':List V) (H3:Hp),H3 D=some (.lst xs')→xs'.length≤i+1→xs'.isEmpty = !(jw ks lk (jW lk st) (i+1))→Same H H3→R' [some (.str (txt st)),some (.ref lt),some (.int i),some (.ref p)] H3:=fun xs' H3 a1 a2 a3 a4=>next _ _ (by rw[hC]; exact⟨_,_,_,a1,a2,a3,a4,rfl⟩)
  by_cases hz:x=0
  ·rw[if_pos (by rw[hz])]
   exact nx _ _ d1 (by exact Oz18 d3) (by rw[stp,d4]; simp [jW,hz]) d2
  ·rw[if_neg (fun e=>hz (by injection e))]
   refine⟨_,Same.tup d2 hp,_,rfl,rfl,?_⟩
   by_cases hs:k.1=st
   ·rw[if_pos (txtV.mpr hs)]
    refine⟨_,d1,Nat.lt_of_le_of_lt d3 (Nat.lt_of_lt_of_le (m:=64) (by exact Oz55 li l4) (by decide)),nx _ _ aT (by rw[Dp]; simp; exact Oz25 d3) (by rw[stp]; simp [jW,hz,hs]) (dI d2 hD _)⟩
   ·rw[if_neg fun e=>hs (txtV.mp e)]
    exact nx _ _ d1 (by exact Oz18 d3) (by rw[stp,d4]; simp [jW,hs]) d2
 ·intro D τ H' hD h
  rw[hC] at h
  obtain⟨y,z,xs,d1,d3,d4,d2,rfl⟩:=h
  have l4:=G.le
  rw[lx] at d3 d4
  rw[mO G.len] at d4
  exact q _ _ _ d2 d1 (by exact Oz57 d3 l4) d4
def pL (F:Fun K "used_places" "used_places" cX f fd) (M:Mg mg):FnOk P w K mg base CX0 1 f fd ["kinds","look","use"] (jF K j4):=by
 refine F.ok ci.fs (fun vs H Q E h=>?_) (fun cdv A outer s H vs Q E hr h=>?_)
 ·obtain⟨kl,lt,s,ks,lk,rfl,_⟩:=h
  rfl
 obtain⟨kl,lt,st,ks,lk,rfl,G,q⟩:=h
 obtain⟨kx,L,A⟩:=G.kx
 have lx:=A.length
 refine⟨_,(`n (`q (`r rfl (CompOk.make (N':=["use","look","place","kind"]) (ix:=[2,1]) (nl:=2) (by rfl) (fm1 rfl (fm1 rfl fm0)) (by rfl) (by decide +kernel) rfl (by decide +kernel) rfl (EH ⟨rfl,.inl rfl,.inl rfl⟩ (EH ⟨rfl,.inl rfl,.inl rfl⟩ DY))) (@qY _ _ _ _ _ (@lF _ _ _ _ _ _ _ _ rfl M.m_enumerate (`a (`b 0 ci rfl) `o (aN rfl)) (by rfl)) (@lS _ _ _ _ _ _ _ _ rfl M.m_enumerate (`a (`b 0 ci rfl) `o (aN rfl)) (by rfl))) (fun _ _ _ _ _=>(@mQ _ K _ _ 2 _ _ rfl rfl (@gD _ _ _ _ _ (@dH _ _ 2 _ (show D5 (["use","look","place","kind"]:List Str) from by decide) rfl (Or.inl rfl) (by first | exact .inl rfl | exact .inr rfl | assumption)) (@gD _ _ _ _ _ (@dH _ _ 3 _ (show D5 (["use","look","place","kind"]:List Str) from by decide) rfl (Or.inl rfl) (by first | exact .inl rfl | exact .inr rfl | assumption)) (@j9 _) (by rfl)) (by rfl)) (by rfl) (by rfl))) (fun _ _ _ _ _=>(@iO _ _ _ (@PW.pt _ _ _ (@iu _ _ _ _ _ _ _ (`k (@nT _) (`g (gG (K:=K) rfl) (@pv _ 1 _ _ (by rfl) (by decreasing_trivial) (by decide) (by decide)) (@pv _ 2 _ _ (by rfl) (by decreasing_trivial) (by decide) (by decide)) (fun _ _=>rfl)) `c (dm _)) (@gZ _ _ _ _ (`k (@fk _) (`g (gG (K:=K) rfl) (@pv _ 3 _ _ (by rfl) (by decreasing_trivial) (by decide) (by decide)) `c (fun _ _=>rfl)) (@pv _ 0 _ _ (by rfl) (by decreasing_trivial) (by decide) (by decide)) (dm _))))))) (fun _ _ _ _ _=>(@pv _ 2 _ _ (by rfl) (by decreasing_trivial) (by decide) (by decide))) (by intro _; rfl)))),?_⟩
 trivial
 obtain⟨Pc,hC⟩:∃ Pc:Addr→Nat→St→Hp→Prop,Pc=fun D i τ H'=>∃ y z xs,H' D=some (.lst xs)∧xs.length≤i∧xs.isEmpty = !(jw ks lk (j4 lk st) i)∧Same H H'∧τ=[some (.str (txt st)),some (.ref lt),y,z]:=⟨_,rfl⟩
 refine jG kx (.inl L) _ Pc ?_ (fun D i τ H' hD h=>by rw[hC] at h; obtain⟨y,z,xs,_,_,_,e,_⟩:=h; exact e) ?_ ?_
 ·intro D hD
  rw[hC]
  exact⟨_,_,_,aT,Nat.le_refl _,rfl,bO hD _,rfl⟩
 ·intro D i x T τ H' R' hD hx h hT next
  rw[hC] at h
  obtain⟨y,z,xs,d1,d3,d4,d2,rfl⟩:=h
  obtain⟨p,k,rfl,hk,hp⟩:=A.at hx
  obtain⟨x,e1,e2,m,nn⟩:=G.at hk
  have li:=(yp.mp hk).1
  have l4:=G.le
  obtain⟨H2,g2,S2,T2⟩:=bN (K:=K) hT [.int i,.ref p]
  rw[← g2]
  clear g2
  replace d1:=S2 _ _ d1
  replace d2:=d2.trans S2
  trivial
  refine⟨_,T2,rfl,?_⟩
  trivial
  refine⟨_,Same.tup d2 G.look,_,e2,rfl,?_⟩
  have stp:=lT (p:=j4 lk st) hk e1
  have nx:∀ (xs':List V) (H3:Hp),H3 D=some (.lst xs')→xs'.length≤i+1→xs'.isEmpty = !(jw ks lk (j4 lk st) (i+1))→Same H H3→R' [some (.str (txt st)),some (.ref lt),some (.int i),some (.ref p)] H3:=fun xs' H3 a1 a2 a3 a4=>next _ _ (by rw[hC]; exact⟨_,_,_,a1,a2,a3,a4,rfl⟩)
  by_cases hz:x=0
  ·rw[if_pos (by rw[hz])]
   exact nx _ _ d1 (by exact Oz18 d3) (by rw[stp,d4]; simp [j4,hz]) d2
  ·rw[if_neg (fun e=>hz (by injection e))]
   refine⟨_,Same.tup d2 hp,_,rfl,rfl,?_⟩
   by_cases hs:k.2=st
   ·rw[if_pos (txtV.mpr hs)]
    refine⟨_,d1,Nat.lt_of_le_of_lt d3 (Nat.lt_of_lt_of_le (m:=64) (by exact Oz55 li l4) (by decide)),nx _ _ aT (by rw[Dp]; simp; exact Oz25 d3) (by rw[stp]; simp [j4,hz,hs]) (dI d2 hD _)⟩
   ·rw[if_neg fun e=>hs (txtV.mp e)]
    exact nx _ _ d1 (by exact Oz18 d3) (by rw[stp,d4]; simp [j4,hs]) d2
 ·intro D τ H' hD h
  rw[hC] at h
  obtain⟨y,z,xs,d1,d3,d4,d2,rfl⟩:=h
  have l4:=G.le
  rw[lx] at d3 d4
  rw[mO G.len] at d4
  exact q _ _ _ d2 d1 (by exact Oz57 d3 l4) d4
def om (F:Fun K "chief_places" "chief_places" cj f fd) (M:Mg mg):FnOk P w K mg base CX0 1 f fd ["kinds","look","stuff"] (jF K jc):=by
 refine F.ok a7.fs (fun vs H Q E h=>?_) (fun cdv A outer s H vs Q E hr h=>?_)
 ·obtain⟨kl,lt,s,ks,lk,rfl,_⟩:=h
  rfl
 obtain⟨kl,lt,st,ks,lk,rfl,G,q⟩:=h
 obtain⟨kx,L,A⟩:=G.kx
 have lx:=A.length
 refine⟨_,(`f (`h 3 a7 (`i (yV rfl) rfl M.m_max CJ (`a (`b 1 a7 rfl) `o (aN rfl)) jp rfl (aN rfl) aW) rfl) (`n (`q (`r rfl (CompOk.make (N':=["greatest","stuff","look","place","kind"]) (ix:=[3,2,1]) (nl:=2) (by rfl) (fm1 rfl (fm1 rfl (fm1 rfl fm0))) (by rfl) (by decide +kernel) rfl (by decide +kernel) rfl (EH ⟨rfl,.inl rfl,.inl rfl⟩ (EH ⟨rfl,.inl rfl,.inl rfl⟩ (EH ⟨rfl,.inl rfl,.inl rfl⟩ DY)))) (@qY _ _ _ _ _ (@lF _ _ _ _ _ _ _ _ rfl M.m_enumerate (`a (`b 0 a7 rfl) `o (aN rfl)) (by rfl)) (@lS _ _ _ _ _ _ _ _ rfl M.m_enumerate (`a (`b 0 a7 rfl) `o (aN rfl)) (by rfl))) (fun _ _ _ _ _=>(@mQ _ K _ _ 2 _ _ rfl rfl (@gD _ _ _ _ _ (@dH _ _ 3 _ (show D5 (["greatest","stuff","look","place","kind"]:List Str) from by decide) rfl (Or.inl rfl) (by first | exact .inl rfl | exact .inr rfl | assumption)) (@gD _ _ _ _ _ (@dH _ _ 4 _ (show D5 (["greatest","stuff","look","place","kind"]:List Str) from by decide) rfl (Or.inl rfl) (by first | exact .inl rfl | exact .inr rfl | assumption)) (@j9 _) (by rfl)) (by rfl)) (by rfl) (by rfl))) (fun _ _ _ _ _=>(@iO _ _ _ (@PW.pt _ _ _ (@iu _ _ _ _ _ _ _ (`k (@fk _) (`g (gG (K:=K) rfl) (@pv _ 2 _ _ (by rfl) (by decreasing_trivial) (by decide) (by decide)) (@pv _ 3 _ _ (by rfl) (by decreasing_trivial) (by decide) (by decide)) (fun _ _=>rfl)) (@pv _ 0 _ _ (by rfl) (by decreasing_trivial) (by decide) (by decide)) (dm _)) (@gZ _ _ _ _ (`k (@fk _) (`g (gG (K:=K) rfl) (@pv _ 4 _ _ (by rfl) (by decreasing_trivial) (by decide) (by decide)) `c (fun _ _=>rfl)) (@pv _ 1 _ _ (by rfl) (by decreasing_trivial) (by decide) (by decide)) (dm _))))))) (fun _ _ _ _ _=>(@pv _ 3 _ _ (by rfl) (by decreasing_trivial) (by decide) (by decide))) (by intro _; rfl))))),?_⟩
 trivial
 refine⟨lk,.inr G.look,by rw[G.len]; exact G.pos,fun mx hm htop=>?_⟩
 obtain⟨Pc,hC⟩:∃ Pc:Addr→Nat→St→Hp→Prop,Pc=fun D i τ H'=>∃ y z xs,H' D=some (.lst xs)∧xs.length≤i∧xs.isEmpty = !(jw ks lk (jc lk st) i)∧Same H H'∧τ=[some (.int mx),some (.str (txt st)),some (.ref lt),y,z]:=⟨_,rfl⟩
 refine jG kx (.inl L) _ Pc ?_ (fun D i τ H' hD h=>by rw[hC] at h; obtain⟨y,z,xs,_,_,_,e,_⟩:=h; exact e) ?_ ?_
 ·intro D hD
  rw[hC]
  exact⟨_,_,_,aT,Nat.le_refl _,rfl,bO hD _,rfl⟩
 ·intro D i x T τ H' R' hD hx h hT next
  rw[hC] at h
  obtain⟨y,z,xs,d1,d3,d4,d2,rfl⟩:=h
  obtain⟨p,k,rfl,hk,hp⟩:=A.at hx
  obtain⟨x,e1,e2,m,nn⟩:=G.at hk
  have li:=(yp.mp hk).1
  have l4:=G.le
  obtain⟨H2,g2,S2,T2⟩:=bN (K:=K) hT [.int i,.ref p]
  rw[← g2]
  clear g2
  replace d1:=S2 _ _ d1
  replace d2:=d2.trans S2
  trivial
  refine⟨_,T2,rfl,?_⟩
  trivial
  refine⟨_,Same.tup d2 G.look,_,e2,rfl,?_⟩
  have stp:=lT (p:=jc lk st) hk e1
  have nx:∀ (xs':List V) (H3:Hp),H3 D=some (.lst xs')→xs'.length≤i+1→xs'.isEmpty = !(jw ks lk (jc lk st) (i+1))→Same H H3→R' [some (.int mx),some (.str (txt st)),some (.ref lt),some (.int i),some (.ref p)] H3:=fun xs' H3 a1 a2 a3 a4=>next _ _ (by rw[hC]; exact⟨_,_,_,a1,a2,a3,a4,rfl⟩)
  have hz':x=mx↔∀ y∈lk,y≤x:=⟨fun e y hy=>e ▸ htop y hy,fun h=>by
   have a:=htop x m
   have b:=h mx hm
   omega⟩
  by_cases hz:¬ ∀ y∈lk,y≤x
  ·rw[if_neg (fun e=>hz (hz'.mp (by injection e)))]
   exact nx _ _ d1 (by exact Oz18 d3) (by rw[stp,d4]; simp [jc,hz]) d2
  ·rw[if_pos (by rw[hz'.mpr (JQ.mp hz)])]
   refine⟨_,Same.tup d2 hp,_,rfl,rfl,?_⟩
   by_cases hs:k.1=st
   ·rw[if_pos (txtV.mpr hs)]
    refine⟨_,d1,Nat.lt_of_le_of_lt d3 (Nat.lt_of_lt_of_le (m:=64) (by exact Oz55 li l4) (by decide)),nx _ _ aT (by rw[Dp]; simp; exact Oz25 d3) (by rw[stp,show jc lk st k x=true from by unfold jc; rw[decide_eq_true (JQ.mp hz),decide_eq_true hs]; rfl]; simp) (dI d2 hD _)⟩
   ·rw[if_neg fun e=>hs (txtV.mp e)]
    exact nx _ _ d1 (by exact Oz18 d3) (by rw[stp,d4]; simp [jc,hs]) d2
 ·intro D τ H' hD h
  rw[hC] at h
  obtain⟨y,z,xs,d1,d3,d4,d2,rfl⟩:=h
  have l4:=G.le
  rw[lx] at d3 d4
  rw[mO G.len] at d4
  exact q _ _ _ d2 d1 (by exact Oz57 d3 l4) d4
def oz (F:Fun K "place_reason" "place_reason" cq f fd) (M:Mg mg):FnOk P w K mg base CX0 1 f fd ["places"] (lN K):=by
 refine F.ok bT.fs (fun vs H Q E h=>?_) (fun cdv A outer s H vs Q E hr h=>?_)
 ·obtain⟨l,xs,rfl,_⟩:=h
  rfl
 obtain⟨l,xs,rfl,hl,q⟩:=h
 refine⟨_,(`f (`m (`k (@fk _) (`i cQ rfl M.m_len fM (`a (`b 0 bT rfl) `o (aN rfl)) aq rfl (aN rfl) aW) `c (dm _)) (`n (`q (`j (`a (@fY _ _ _ _) (`a (@iV _ _ _) `o (aN rfl)) (aN rfl))))) (@dw _)) (`n (`q (`j (`a (@fY _ _ _ _) (`a (`g (@ix_list _) (`b 0 bT rfl) `c (fun _ _=>rfl)) `o (aN rfl)) (aN rfl)))))),?_⟩
 trivial
 refine⟨xs,.inl (SqL.of hl),?_⟩
 cases xs with
 | nil =>
  rw[if_pos (show ((([]:List V).length:Nat):Int)=0 from rfl)]
  exact⟨by decide,fun p hp=>q _ _ _ (bO hp _) (SqT.of aT)⟩
 | cons x xs =>
  rw[if_neg (by rw[DF]; exact Oz56)]
  exact⟨_,SqL.of hl,x,(dX (j:=0) rfl:atI (x::xs) ((0:Nat):Int)=some x),by decide,fun p hp=>q _ _ _ (bO hp _) (SqT.of aT)⟩
def sN (F:Fun K "number_in" "number_in" eG f fd) (M:Mg mg):FnOk P w K mg base CX0 1 f fd ["kinds","look","kind"] (vF K):=by
 refine F.ok bb.fs (fun vs H Q E h=>?_) (fun cdv A outer s H vs Q E hr h=>?_)
 ·obtain⟨kl,lt,p,ks,lk,k,rfl,_⟩:=h
  rfl
 obtain⟨kl,lt,p,ks,lk,k,rfl,G,hp,ok,q⟩:=h
 obtain⟨kx,L,A⟩:=G.kx
 have lx:=A.length
 refine⟨_,(`f (`m (`k (qI (jk hr)) (`b 2 bb rfl) (`b 0 bb rfl) (by with_unfolding_all rfl)) (`n (`q `c)) (@dw _)) (`n (`q (`g (@ix_tup _) (`b 1 bb rfl) (@iG _ _ _ _ _ _ _ _ _ _ _ _ DQ PySem.F.slot_list_index PySem.F.type_list_index (zh (K:=K) rfl (jk hr)) (`b 0 bb rfl) (`a (`b 2 bb rfl) `o (aN rfl)) (by rfl) (by rfl) (by rfl) (by rfl) (by rfl)) (fun _ _=>rfl))))),?_⟩
 trivial
 refine yK hp ok L A G.ok ⟨_,rfl,?_⟩
 by_cases hk:k∈ks
 ·rw[if_neg (by simp [hk])]
  refine⟨.inl ⟨rfl,_,L⟩,?_⟩
  obtain⟨j,hj,hno⟩:=zK hk
  have lj:=(yp.mp hj).1
  have l4:=G.le
  obtain⟨x,e1,e2,_,_⟩:=G.at hj
  obtain⟨f1,f2⟩:=j7 G.ok
  refine⟨kl,.ref p,kD k,ks.map kD,j,rfl,rfl,by omega,iQ hp,.lst L A.rep,kG ok,⟨f1,?_⟩,⟨kD k,by rw[Dq,hj]; rfl,by rw[lQ]; exact decide_eq_true rfl⟩,fun m z hm hz=>?_,?_⟩
  ·show DO (ks.map kD)+1≤40
   exact Oz31 f2
  ·rw[Dq] at hz
   obtain⟨z',ez,rfl⟩:=EB.mp hz
   rw[lQ]
   exact decide_eq_false (hno m z' hm ez)
  ·refine⟨_,_,rfl,G.look,_,e2,?_⟩
   rw[← tL hj hno e1]
   exact q _ (Same.refl _)
 ·rw[if_pos (by simp [hk])]
  rw[← qa (lk:=lk) hk]
  exact q _ (Same.refl _)
def wD (F:Fun K "is_over" "is_over" fH f fd) (M:Mg mg) (cJ:Cal P w K mg base CX0 "number_in" 1 ["kinds","look","kind"] (vF K)):FnOk P w K mg base CX0 2 f fd ["kinds","look","one","other"] (yb K):=by
 refine F.ok bh.fs (fun vs H Q E h=>?_) (fun cdv A outer s H vs Q E hr h=>?_)
 ·obtain⟨kl,lt,p1,p2,ks,lk,k1,k2,rfl,_⟩:=h
  rfl
 obtain⟨kl,lt,p1,p2,ks,lk,k1,k2,rfl,G,h1,o1,h2,o2,q⟩:=h
 refine⟨_,(`n (`q (@ig _ _ _ _ _ _ _ _ (@wA _) (`e cJ hr rfl (`a (`b 0 bh rfl) (`a (`b 1 bh rfl) (`a (`b 2 bh rfl) `o (aN rfl)) (aN rfl)) (aN rfl)) (by decide) rfl (aN rfl) (cg rfl (cg rfl aW))) (`e cJ hr rfl (`a (`b 0 bh rfl) (`a (`b 1 bh rfl) (`a (`b 3 bh rfl) `o (aN rfl)) (aN rfl)) (aN rfl)) (by decide) rfl (aN rfl) (cg rfl (cg rfl aW))) (dm _)))),?_⟩
 trivial
 refine⟨_,_,_,ks,lk,k1,rfl,G,h1,o1,fun H1 S1=>?_⟩
 trivial
 refine⟨_,_,_,ks,lk,k2,rfl,G.same S1,Same.tup S1 h2,o2,fun H2 S2=>?_⟩
 trivial
 exact q _ (S1.trans S2)
end _D
namespace _E
open _y _C _D PySem _l
noncomputable def top (i:Nat):Stmt:=PySem.Challenge.pw_tariffgate_k42_trees_refused.main.body.getD i (.Pass ⟨0,0,0,0⟩)
noncomputable def inner:Stmt→Nat→Stmt
 | .ClassDef _ _ _ b _ _ _ _ _ _ _,j=>b.getD j (.Pass ⟨0,0,0,0⟩)
 | st,_=>st
noncomputable abbrev bK:Stmt:=inner (top 30) 1
def fJ:ScV ["self","kinds","look"] ["self","kinds","look"] bK:=scv (by decide +kernel)
noncomputable abbrev cY:Stmt:=inner (top 31) 2
def bE:ScV ["self","kinds","look"] ["self","kinds","look"] cY:=scv (by decide +kernel)
noncomputable abbrev cZ:Stmt:=inner (top 32) 2
def bF:ScV ["self","kinds","look"] ["self","kinds","look"] cZ:=scv (by decide +kernel)
noncomputable abbrev cu:Stmt:=inner (top 33) 2
def bu:ScV ["self","kinds","look"] ["self","kinds","look"] cu:=scv (by decide +kernel)
noncomputable abbrev db:Stmt:=inner (top 34) 2
def bf:ScV ["self","kinds","look"] ["self","kinds","look"] db:=scv (by decide +kernel)
noncomputable abbrev bL:Stmt:=inner (top 36) 1
def ax:ScV ["self","kinds","look","first","second"] ["self","kinds","look"] bL:=scv (by decide +kernel)
noncomputable abbrev bv:Stmt:=inner (top 37) 1
def au:ScV ["self","kinds","look","first","second"] ["self","kinds","look"] bv:=scv (by decide +kernel)
noncomputable abbrev bU:Stmt:=inner (top 38) 1
def ay:ScV ["self","kinds","look","first","second"] ["self","kinds","look"] bU:=scv (by decide +kernel)
noncomputable abbrev bM:Stmt:=inner (top 29) 0
def bG:ScV ["self","kinds","look"] ["self","kinds","look"] bM:=scv (by decide +kernel)
def at0:atI (v::xs) 0=some v:=(dX (j:=0) rfl:atI (v::xs) ((0:Nat):Int)=some v)
noncomputable def Ck:Nt→Nat
 | .any=>0
 | .made _=>1
 | .used _=>2
 | .chief _=>3
 | .over _ _=>4
 | .both _ _=>5
 | .either _ _=>6
 | .but _ _=>7
noncomputable def jn (cs:NC):Nat→Addr
 | 0=>cs.any
 | 1=>cs.made
 | 2=>cs.used
 | 3=>cs.chief
 | 4=>cs.over
 | 5=>cs.both
 | 6=>cs.either
 | _=>cs.but
noncomputable def dz (ks:List Kd2) (lk:List Int):Nt→Bool
 | .any=>true
 | .made s=>mR ks lk (jW lk s)
 | .used s=>mR ks lk (j4 lk s)
 | .chief s=>mR ks lk (jc lk s)
 | .over a b=>decide (jJ ks lk a > jJ ks lk b)
 | .both x y=>dz ks lk x && dz ks lk y
 | .either x y=>dz ks lk x || dz ks lk y
 | .but x y=>dz ks lk x && !dz ks lk y
def fU (K:cy) (cs:NC) (d j:Nat):Sp:=fun vs H Q _=>∃ (a kl lt:Addr) (n:Nt) (ks:List Kd2) (lk:List Int),vs=[.ref a,.ref kl,.ref lt]∧Ck n=j∧ObjN K cs H a n∧n.ok∧n.dp≤d∧Ground K H kl lt ks lk∧∀ p ys H',Same H H'→SqT K H' p (.bl (dz ks lk n)::ys)→Q (.ref p) H'
def iR (K:cy) (cs:NC) (d:Nat) (C:Addr) (sp:Sp):Prop:=∃ j,j<8∧C=jn cs j∧sp=fU K cs d j
def iE {cs:NC} {a lt:Addr} {n:Nt} {ks:List Kd2} {d:Nat} (O:ObjN K cs H a n) (ok:n.ok) (dp:n.dp≤d) (G:Ground K H kl lt ks lk) (q:∀ p ys H',Same H H'→SqT K H' p (.bl (dz ks lk n)::ys)→Q (.ref p) H'):∃ C dx fs,H a=some (.ins C dx fs)∧fs.lookup ("reason":Str)=none∧∃ sp,iR K cs d C sp∧sp [.ref a,.ref kl,.ref lt] H Q E0:=by
 have fin:fU K cs d (Ck n) [.ref a,.ref kl,.ref lt] H Q E0:=⟨a,kl,lt,n,ks,lk,rfl,rfl,O,ok,dp,G,q⟩
 cases n with
 | any=>obtain⟨dx,h⟩:=O; exact⟨_,_,_,h,rfl,_,⟨0,by decide,rfl,rfl⟩,fin⟩
 | made s=>obtain⟨dx,h⟩:=O; exact⟨_,_,_,h,rfl,_,⟨1,by decide,rfl,rfl⟩,fin⟩
 | used s=>obtain⟨dx,h⟩:=O; exact⟨_,_,_,h,rfl,_,⟨2,by decide,rfl,rfl⟩,fin⟩
 | chief s=>obtain⟨dx,h⟩:=O; exact⟨_,_,_,h,rfl,_,⟨3,by decide,rfl,rfl⟩,fin⟩
 | over k1 k2=>obtain⟨dx,_,_,h,_⟩:=O; exact⟨_,_,_,h,rfl,_,⟨4,by decide,rfl,rfl⟩,fin⟩
 | both x y=>obtain⟨dx,_,_,h,_⟩:=O; exact⟨_,_,_,h,rfl,_,⟨5,by decide,rfl,rfl⟩,fin⟩
 | either x y=>obtain⟨dx,_,_,h,_⟩:=O; exact⟨_,_,_,h,rfl,_,⟨6,by decide,rfl,rfl⟩,fin⟩
 | but x y=>obtain⟨dx,_,_,h,_⟩:=O; exact⟨_,_,_,h,rfl,_,⟨7,by decide,rfl,rfl⟩,fin⟩
section
variable {cs:NC}
def l7 {k d:Nat} (F:Fun K "reason" "Anything.reason" bK f fd) (M:Mg mg):FnOk P w K mg base CX0 (k+3) f fd ["self","kinds","look"] (fU K cs d 0):=by
 refine F.ok fJ.fs (fun vs H Q E h=>?_) (fun cdv A outer s H vs Q E hr h=>?_)
 ·obtain⟨a,kl,lt,n,ks,lk,rfl,_⟩:=h
  rfl
 obtain⟨a,kl,lt,n,ks,lk,rfl,hk,O,ok,dp,G,q⟩:=h
 refine⟨_,(`n (`q (`j (`a (@fY _ _ _ _) (`a (@iV _ _ _) `o (aN rfl)) (aN rfl))))),?_⟩
 trivial
 cases n with
 | any =>
  exact⟨by decide,fun p hp=>q _ _ _ (bO hp _) (SqT.of aT)⟩
 | _=>cases hk
def oX {k d:Nat} (F:Fun K "reason" "Made.reason" cY f fd) (M:Mg mg) (cl:Cls K cs.made) (na:NoAttr K cs.made "stuff") (de:Cal P w K mg base CX0 "made_places" 1 ["kinds","look","stuff"] (jF K jW)) (aH:Cal P w K mg base CX0 "place_reason" 1 ["places"] (lN K)):FnOk P w K mg base CX0 (k+3) f fd ["self","kinds","look"] (fU K cs d 1):=by
 refine F.ok bE.fs (fun vs H Q E h=>?_) (fun cdv A outer s H vs Q E hr h=>?_)
 ·obtain⟨a,kl,lt,n,ks,lk,rfl,_⟩:=h
  rfl
 obtain⟨a,kl,lt,n,ks,lk,rfl,hk,O,ok,dp,G,q⟩:=h
 refine⟨_,(`n (`q (`e aH hr rfl (`a (`e de hr rfl (`a (`b 1 bE rfl) (`a (`b 2 bE rfl) (`a (@gz _ _ _ _ _ (`b 0 bE rfl) (by rfl)) `o (aN rfl)) (aN rfl)) (aN rfl)) (by exact Oz17) rfl (aN rfl) (cg rfl (cg rfl aW))) `o (aN rfl)) (by exact Oz17) rfl (aN rfl) aW))),?_⟩
 trivial
 cases n with
 | made s =>
  obtain⟨dx,h⟩:=O
  refine⟨_,_,_,h,cl,na,_,rfl,?_⟩
  refine⟨_,_,_,ks,lk,rfl,G,fun l xs H1 S1 hl l4 he=>?_⟩
  refine⟨_,xs,rfl,hl,fun p y H2 S2 T=>?_⟩
  rw[he,JZ] at T
  exact q _ _ _ (S1.trans S2) T
 | _=>cases hk
def pI {k d:Nat} (F:Fun K "reason" "Used.reason" cZ f fd) (M:Mg mg) (cl:Cls K cs.used) (na:NoAttr K cs.used "use") (df:Cal P w K mg base CX0 "used_places" 1 ["kinds","look","use"] (jF K j4)) (aH:Cal P w K mg base CX0 "place_reason" 1 ["places"] (lN K)):FnOk P w K mg base CX0 (k+3) f fd ["self","kinds","look"] (fU K cs d 2):=by
 refine F.ok bF.fs (fun vs H Q E h=>?_) (fun cdv A outer s H vs Q E hr h=>?_)
 ·obtain⟨a,kl,lt,n,ks,lk,rfl,_⟩:=h
  rfl
 obtain⟨a,kl,lt,n,ks,lk,rfl,hk,O,ok,dp,G,q⟩:=h
 refine⟨_,(`n (`q (`e aH hr rfl (`a (`e df hr rfl (`a (`b 1 bF rfl) (`a (`b 2 bF rfl) (`a (@gz _ _ _ _ _ (`b 0 bF rfl) (by rfl)) `o (aN rfl)) (aN rfl)) (aN rfl)) (by exact Oz17) rfl (aN rfl) (cg rfl (cg rfl aW))) `o (aN rfl)) (by exact Oz17) rfl (aN rfl) aW))),?_⟩
 trivial
 cases n with
 | used s =>
  obtain⟨dx,h⟩:=O
  refine⟨_,_,_,h,cl,na,_,rfl,?_⟩
  refine⟨_,_,_,ks,lk,rfl,G,fun l xs H1 S1 hl l4 he=>?_⟩
  refine⟨_,xs,rfl,hl,fun p y H2 S2 T=>?_⟩
  rw[he,JZ] at T
  exact q _ _ _ (S1.trans S2) T
 | _=>cases hk
def ow {k d:Nat} (F:Fun K "reason" "Chief.reason" cu f fd) (M:Mg mg) (cl:Cls K cs.chief) (na:NoAttr K cs.chief "stuff") (cw:Cal P w K mg base CX0 "chief_places" 1 ["kinds","look","stuff"] (jF K jc)) (aH:Cal P w K mg base CX0 "place_reason" 1 ["places"] (lN K)):FnOk P w K mg base CX0 (k+3) f fd ["self","kinds","look"] (fU K cs d 3):=by
 refine F.ok bu.fs (fun vs H Q E h=>?_) (fun cdv A outer s H vs Q E hr h=>?_)
 ·obtain⟨a,kl,lt,n,ks,lk,rfl,_⟩:=h
  rfl
 obtain⟨a,kl,lt,n,ks,lk,rfl,hk,O,ok,dp,G,q⟩:=h
 refine⟨_,(`n (`q (`e aH hr rfl (`a (`e cw hr rfl (`a (`b 1 bu rfl) (`a (`b 2 bu rfl) (`a (@gz _ _ _ _ _ (`b 0 bu rfl) (by rfl)) `o (aN rfl)) (aN rfl)) (aN rfl)) (by exact Oz17) rfl (aN rfl) (cg rfl (cg rfl aW))) `o (aN rfl)) (by exact Oz17) rfl (aN rfl) aW))),?_⟩
 trivial
 cases n with
 | chief s =>
  obtain⟨dx,h⟩:=O
  refine⟨_,_,_,h,cl,na,_,rfl,?_⟩
  refine⟨_,_,_,ks,lk,rfl,G,fun l xs H1 S1 hl l4 he=>?_⟩
  refine⟨_,xs,rfl,hl,fun p y H2 S2 T=>?_⟩
  rw[he,JZ] at T
  exact q _ _ _ (S1.trans S2) T
 | _=>cases hk
def o8 {k d:Nat} (F:Fun K "reason" "Over.reason" db f fd) (M:Mg mg) (t4:TwoC K cs.over) (fK:Cal P w K mg base CX0 "is_over" 2 ["kinds","look","one","other"] (yb K)):FnOk P w K mg base CX0 (k+3) f fd ["self","kinds","look"] (fU K cs d 4):=by
 refine F.ok bf.fs (fun vs H Q E h=>?_) (fun cdv A outer s H vs Q E hr h=>?_)
 ·obtain⟨a,kl,lt,n,ks,lk,rfl,_⟩:=h
  rfl
 obtain⟨a,kl,lt,n,ks,lk,rfl,hk,O,ok,dp,G,q⟩:=h
 refine⟨_,(`n (`q (`j (`a (`e fK hr rfl (`a (`b 1 bf rfl) (`a (`b 2 bf rfl) (`a (@gz _ _ _ _ _ (`b 0 bf rfl) (by rfl)) (`a (@gz _ _ _ _ _ (`b 0 bf rfl) (by rfl)) `o (aN rfl)) (aN rfl)) (aN rfl)) (aN rfl)) (by omega) rfl (aN rfl) (cg rfl (cg rfl (cg rfl aW)))) (`a (@iV _ _ _) `o (aN rfl)) (aN rfl))))),?_⟩
 trivial
 cases n with
 | over k1 k2 =>
  obtain⟨dx,p1,p2,h,T1,T2⟩:=O
  refine⟨_,_,_,h,t4.cl,t4.n1,_,rfl,_,_,_,h,t4.cl,t4.n2,_,rfl,?_⟩
  refine⟨_,_,_,_,ks,lk,k1,k2,rfl,G,T1,ok.1,T2,ok.2,fun H1 S1=>?_⟩
  exact⟨by decide,fun p hp=>q _ _ _ (S1.trans (bO hp _)) (SqT.of aT)⟩
 | _=>cases hk
def oY {d:Nat} (F:Fun K "reason" "Both.reason" bL f fd) (M:Mg mg) (tt:TwoC K cs.both) (D_reason:∀ C sp,iR K cs d C sp→Disp P w K mg base "reason" (3+d) ["self","kinds","look"] C sp):FnOk P w K mg base CX0 (3+d+1) f fd ["self","kinds","look"] (fU K cs (d+1) 5):=by
 refine F.ok ax.fs (fun vs H Q E h=>?_) (fun cdv A outer s H vs Q E hr h=>?_)
 ·obtain⟨a,kl,lt,n,ks,lk,rfl,_⟩:=h
  rfl
 obtain⟨a,kl,lt,n,ks,lk,rfl,hk,O,ok,dp,G,q⟩:=h
 refine⟨_,(`f (`h 3 ax (@iX _ _ _ _ _ _ _ _ _ _ _ _ _ _ (@gz _ _ _ _ _ (`b 0 ax rfl) (by rfl)) D_reason hr (`a (`b 1 ax rfl) (`a (`b 2 ax rfl) `o (aN rfl)) (aN rfl)) (by exact Oz26) (aN rfl) (cg rfl aW) (by rfl)) rfl) (`f (`h 4 ax (@iX _ _ _ _ _ _ _ _ _ _ _ _ _ _ (@gz _ _ _ _ _ (`b 0 ax rfl) (by rfl)) D_reason hr (`a (`b 1 ax rfl) (`a (`b 2 ax rfl) `o (aN rfl)) (aN rfl)) (by exact Oz26) (aN rfl) (cg rfl aW) (by rfl)) rfl) (`f (`m (@gc _ _ _ _ (@fP _ _ _ (`g (@ix_tup _) (`b 3 ax rfl) `c (fun _ _=>rfl)) (fZ rfl))) (`n (`q (`j (`a (@fY _ _ _ _) (`a `c (`a (`b 3 ax rfl) `o (aN rfl)) (aN rfl)) (aN rfl))))) (@dw _)) (`f (`m (@gc _ _ _ _ (@fP _ _ _ (`g (@ix_tup _) (`b 4 ax rfl) `c (fun _ _=>rfl)) (fZ rfl))) (`n (`q (`j (`a (@fY _ _ _ _) (`a `c (`a (`b 4 ax rfl) `o (aN rfl)) (aN rfl)) (aN rfl))))) (@dw _)) (`n (`q (`j (`a (@fY _ _ _ _) (`a (`b 3 ax rfl) (`a (`b 4 ax rfl) `o (aN rfl)) (aN rfl)) (aN rfl))))))))),?_⟩
 trivial
 cases n with
 | both x y =>
  obtain⟨dx,a1,a2,h,O1,O2⟩:=O
  have dd:max x.dp y.dp+1≤d+1:=dp
  refine⟨_,_,_,h,tt.cl,tt.n1,_,rfl,_,rfl,?_⟩
  refine iE O1 ok.1 (show x.dp≤d by exact Oz7 dd) G fun p1 y1 H1 S1 R1=>?_
  refine⟨_,_,_,S1 _ _ h,tt.cl,tt.n2,_,rfl,_,rfl,?_⟩
  refine iE (ObjN.same S1 O2) ok.2 (show y.dp≤d by exact Oz6 dd) (G.same S1) fun p2 y2 H2 S2 R2=>?_
  refine⟨_,rfl,_,Same.tup S2 R1,_,at0,_,rfl,?_⟩
  have S3:=S1.trans S2
  by_cases hx:dz ks lk x=false
  ·rw[if_pos hx]
   exact⟨by decide,fun p hp=>q p [.int 0,.ref p1] _ (S3.trans (bO hp _)) (by rw[show dz ks lk (.both x y)=false from by simp [dz,hx]]; exact SqT.of aT)⟩
  ·rw[if_neg hx]
   have hx':dz ks lk x=true:=by revert hx; cases dz ks lk x <;> simp
   refine⟨_,rfl,_,R2,_,at0,_,rfl,?_⟩
   by_cases hy:dz ks lk y=false
   ·rw[if_pos hy]
    exact⟨by decide,fun p hp=>q p [.int 1,.ref p2] _ (S3.trans (bO hp _)) (by rw[show dz ks lk (.both x y)=false from by simp [dz,hx',hy]]; exact SqT.of aT)⟩
   ·rw[if_neg hy]
    have hy':dz ks lk y=true:=by revert hy; cases dz ks lk y <;> simp
    exact⟨by decide,fun p hp=>q p [.ref p1,.ref p2] _ (S3.trans (bO hp _)) (by rw[show dz ks lk (.both x y)=true from by simp [dz,hx',hy']]; exact SqT.of aT)⟩
 | _=>cases hk
def pB {k j:Nat} (F:Fun K "reason" "Both.reason" bL f fd):FnOk P w K mg base CX0 (k+3) f fd ["self","kinds","look"] (fU K cs 0 j):=by
 refine F.ok ax.fs (fun vs H Q E h=>?_) (fun cdv A outer s H vs Q E hr h=>?_)
 ·obtain⟨a,kl,lt,n,ks,lk,rfl,_⟩:=h
  rfl
 obtain⟨a,kl,lt,n,ks,lk,rfl,hk,O,ok,dp,G,q⟩:=h
 have:=Nt.dp_pos n
 exact (Oz60 dp this).elim
def ny {d:Nat} (F:Fun K "reason" "Either.reason" bv f fd) (M:Mg mg) (tt:TwoC K cs.either) (D_reason:∀ C sp,iR K cs d C sp→Disp P w K mg base "reason" (3+d) ["self","kinds","look"] C sp):FnOk P w K mg base CX0 (3+d+1) f fd ["self","kinds","look"] (fU K cs (d+1) 6):=by
 refine F.ok au.fs (fun vs H Q E h=>?_) (fun cdv A outer s H vs Q E hr h=>?_)
 ·obtain⟨a,kl,lt,n,ks,lk,rfl,_⟩:=h
  rfl
 obtain⟨a,kl,lt,n,ks,lk,rfl,hk,O,ok,dp,G,q⟩:=h
 refine⟨_,(`f (`h 3 au (@iX _ _ _ _ _ _ _ _ _ _ _ _ _ _ (@gz _ _ _ _ _ (`b 0 au rfl) (by rfl)) D_reason hr (`a (`b 1 au rfl) (`a (`b 2 au rfl) `o (aN rfl)) (aN rfl)) (by exact Oz26) (aN rfl) (cg rfl aW) (by rfl)) rfl) (`f (`h 4 au (@iX _ _ _ _ _ _ _ _ _ _ _ _ _ _ (@gz _ _ _ _ _ (`b 0 au rfl) (by rfl)) D_reason hr (`a (`b 1 au rfl) (`a (`b 2 au rfl) `o (aN rfl)) (aN rfl)) (by exact Oz26) (aN rfl) (cg rfl aW) (by rfl)) rfl) (`f (`m (@fP _ _ _ (`g (@ix_tup _) (`b 3 au rfl) `c (fun _ _=>rfl)) (fZ rfl)) (`n (`q (`j (`a (@fY _ _ _ _) (`a `c (`a (`b 3 au rfl) `o (aN rfl)) (aN rfl)) (aN rfl))))) (@dw _)) (`f (`m (@fP _ _ _ (`g (@ix_tup _) (`b 4 au rfl) `c (fun _ _=>rfl)) (fZ rfl)) (`n (`q (`j (`a (@fY _ _ _ _) (`a `c (`a (`b 4 au rfl) `o (aN rfl)) (aN rfl)) (aN rfl))))) (@dw _)) (`n (`q (`j (`a (@fY _ _ _ _) (`a (`b 3 au rfl) (`a (`b 4 au rfl) `o (aN rfl)) (aN rfl)) (aN rfl))))))))),?_⟩
 trivial
 cases n with
 | either x y =>
  obtain⟨dx,a1,a2,h,O1,O2⟩:=O
  have dd:max x.dp y.dp+1≤d+1:=dp
  refine⟨_,_,_,h,tt.cl,tt.n1,_,rfl,_,rfl,?_⟩
  refine iE O1 ok.1 (show x.dp≤d by exact Oz7 dd) G fun p1 y1 H1 S1 R1=>?_
  refine⟨_,_,_,S1 _ _ h,tt.cl,tt.n2,_,rfl,_,rfl,?_⟩
  refine iE (ObjN.same S1 O2) ok.2 (show y.dp≤d by exact Oz6 dd) (G.same S1) fun p2 y2 H2 S2 R2=>?_
  refine⟨_,rfl,_,Same.tup S2 R1,_,at0,_,rfl,?_⟩
  have S3:=S1.trans S2
  by_cases hx:dz ks lk x=true
  ·rw[if_pos hx]
   exact⟨by decide,fun p hp=>q p [.int 0,.ref p1] _ (S3.trans (bO hp _)) (by rw[show dz ks lk (.either x y)=true from by simp [dz,hx]]; exact SqT.of aT)⟩
  ·rw[if_neg hx]
   have hx':dz ks lk x=false:=by revert hx; cases dz ks lk x <;> simp
   refine⟨_,rfl,_,R2,_,at0,_,rfl,?_⟩
   by_cases hy:dz ks lk y=true
   ·rw[if_pos hy]
    exact⟨by decide,fun p hp=>q p [.int 1,.ref p2] _ (S3.trans (bO hp _)) (by rw[show dz ks lk (.either x y)=true from by simp [dz,hx',hy]]; exact SqT.of aT)⟩
   ·rw[if_neg hy]
    have hy':dz ks lk y=false:=by revert hy; cases dz ks lk y <;> simp
    exact⟨by decide,fun p hp=>q p [.ref p1,.ref p2] _ (S3.trans (bO hp _)) (by rw[show dz ks lk (.either x y)=false from by simp [dz,hx',hy']]; exact SqT.of aT)⟩
 | _=>cases hk
def nO {k j:Nat} (F:Fun K "reason" "Either.reason" bv f fd):FnOk P w K mg base CX0 (k+3) f fd ["self","kinds","look"] (fU K cs 0 j):=by
 refine F.ok au.fs (fun vs H Q E h=>?_) (fun cdv A outer s H vs Q E hr h=>?_)
 ·obtain⟨a,kl,lt,n,ks,lk,rfl,_⟩:=h
  rfl
 obtain⟨a,kl,lt,n,ks,lk,rfl,hk,O,ok,dp,G,q⟩:=h
 have:=Nt.dp_pos n
 exact (Oz60 dp this).elim
def qM {d:Nat} (F:Fun K "reason" "But.reason" bU f fd) (M:Mg mg) (tt:TwoC K cs.but) (D_reason:∀ C sp,iR K cs d C sp→Disp P w K mg base "reason" (3+d) ["self","kinds","look"] C sp):FnOk P w K mg base CX0 (3+d+1) f fd ["self","kinds","look"] (fU K cs (d+1) 7):=by
 refine F.ok ay.fs (fun vs H Q E h=>?_) (fun cdv A outer s H vs Q E hr h=>?_)
 ·obtain⟨a,kl,lt,n,ks,lk,rfl,_⟩:=h
  rfl
 obtain⟨a,kl,lt,n,ks,lk,rfl,hk,O,ok,dp,G,q⟩:=h
 refine⟨_,(`f (`h 3 ay (@iX _ _ _ _ _ _ _ _ _ _ _ _ _ _ (@gz _ _ _ _ _ (`b 0 ay rfl) (by rfl)) D_reason hr (`a (`b 1 ay rfl) (`a (`b 2 ay rfl) `o (aN rfl)) (aN rfl)) (by exact Oz26) (aN rfl) (cg rfl aW) (by rfl)) rfl) (`f (`h 4 ay (@iX _ _ _ _ _ _ _ _ _ _ _ _ _ _ (@gz _ _ _ _ _ (`b 0 ay rfl) (by rfl)) D_reason hr (`a (`b 1 ay rfl) (`a (`b 2 ay rfl) `o (aN rfl)) (aN rfl)) (by exact Oz26) (aN rfl) (cg rfl aW) (by rfl)) rfl) (`f (`m (@gc _ _ _ _ (@fP _ _ _ (`g (@ix_tup _) (`b 3 ay rfl) `c (fun _ _=>rfl)) (fZ rfl))) (`n (`q (`j (`a (@fY _ _ _ _) (`a `c (`a (`b 3 ay rfl) `o (aN rfl)) (aN rfl)) (aN rfl))))) (@dw _)) (`f (`m (@fP _ _ _ (`g (@ix_tup _) (`b 4 ay rfl) `c (fun _ _=>rfl)) (fZ rfl)) (`n (`q (`j (`a (@fY _ _ _ _) (`a `c (`a (`b 4 ay rfl) `o (aN rfl)) (aN rfl)) (aN rfl))))) (@dw _)) (`n (`q (`j (`a (@fY _ _ _ _) (`a (`b 3 ay rfl) (`a (`b 4 ay rfl) `o (aN rfl)) (aN rfl)) (aN rfl))))))))),?_⟩
 trivial
 cases n with
 | but x y =>
  obtain⟨dx,a1,a2,h,O1,O2⟩:=O
  have dd:max x.dp y.dp+1≤d+1:=dp
  refine⟨_,_,_,h,tt.cl,tt.n1,_,rfl,_,rfl,?_⟩
  refine iE O1 ok.1 (show x.dp≤d by exact Oz7 dd) G fun p1 y1 H1 S1 R1=>?_
  refine⟨_,_,_,S1 _ _ h,tt.cl,tt.n2,_,rfl,_,rfl,?_⟩
  refine iE (ObjN.same S1 O2) ok.2 (show y.dp≤d by exact Oz6 dd) (G.same S1) fun p2 y2 H2 S2 R2=>?_
  refine⟨_,rfl,_,Same.tup S2 R1,_,at0,_,rfl,?_⟩
  have S3:=S1.trans S2
  by_cases hx:dz ks lk x=false
  ·rw[if_pos hx]
   exact⟨by decide,fun p hp=>q p [.int 0,.ref p1] _ (S3.trans (bO hp _)) (by rw[show dz ks lk (.but x y)=false from by simp [dz,hx]]; exact SqT.of aT)⟩
  ·rw[if_neg hx]
   have hx':dz ks lk x=true:=by revert hx; cases dz ks lk x <;> simp
   refine⟨_,rfl,_,R2,_,at0,_,rfl,?_⟩
   by_cases hy:dz ks lk y=true
   ·rw[if_pos hy]
    exact⟨by decide,fun p hp=>q p [.int 1,.ref p2] _ (S3.trans (bO hp _)) (by rw[show dz ks lk (.but x y)=false from by simp [dz,hx',hy]]; exact SqT.of aT)⟩
   ·rw[if_neg hy]
    have hy':dz ks lk y=false:=by revert hy; cases dz ks lk y <;> simp
    exact⟨by decide,fun p hp=>q p [.ref p1,.ref p2] _ (S3.trans (bO hp _)) (by rw[show dz ks lk (.but x y)=true from by simp [dz,hx',hy']]; exact SqT.of aT)⟩
 | _=>cases hk
def qQ {k j:Nat} (F:Fun K "reason" "But.reason" bU f fd):FnOk P w K mg base CX0 (k+3) f fd ["self","kinds","look"] (fU K cs 0 j):=by
 refine F.ok ay.fs (fun vs H Q E h=>?_) (fun cdv A outer s H vs Q E hr h=>?_)
 ·obtain⟨a,kl,lt,n,ks,lk,rfl,_⟩:=h
  rfl
 obtain⟨a,kl,lt,n,ks,lk,rfl,hk,O,ok,dp,G,q⟩:=h
 have:=Nt.dp_pos n
 exact (Oz60 dp this).elim
abbrev jH (P:Dz) (w:World) (K:cy) (mg:Str→Option Value) (base:Heap) (cs:NC) (j:Nat):Prop:=∀ k d,∃ f fd,Meth K (jn cs j) "reason" f∧FnOk P w K mg base CX0 (k+3) f fd ["self","kinds","look"] (fU K cs d j)∧Binds K fd ["self","kinds","look"] []
abbrev m5 (P:Dz) (w:World) (K:cy) (mg:Str→Option Value) (base:Heap) (cs:NC) (j:Nat):Prop:=(∀ k,∃ f fd,Meth K (jn cs j) "reason" f∧FnOk P w K mg base CX0 (k+3) f fd ["self","kinds","look"] (fU K cs 0 j)∧Binds K fd ["self","kinds","look"] []) ∧
 ∀ d,(∀ C sp,iR K cs d C sp→Disp P w K mg base "reason" (3+d) ["self","kinds","look"] C sp)→∃ f fd,Meth K (jn cs j) "reason" f∧FnOk P w K mg base CX0 (3+d+1) f fd ["self","kinds","look"] (fU K cs (d+1) j)∧Binds K fd ["self","kinds","look"] []
def xm (cl:∀ j,j<8→Cls K (jn cs j)) (h0:jH P w K mg base cs 0) (h1:jH P w K mg base cs 1) (h2:jH P w K mg base cs 2) (h3:jH P w K mg base cs 3) (h4:jH P w K mg base cs 4) (h5:m5 P w K mg base cs 5) (h6:m5 P w K mg base cs 6) (h7:m5 P w K mg base cs 7) :
  ∀ d C sp,iR K cs d C sp→Disp P w K mg base "reason" (3+d) ["self","kinds","look"] C sp:=by
 intro d
 induction d with
 | zero =>
  rintro C sp ⟨j,hj,rfl,rfl⟩
  refine⟨cl j hj,?_⟩
  have:j=0∨j=1∨j=2∨j=3∨j=4∨j=5∨j=6∨j=7:=by exact Oz9 hj
  rcases this with e | e | e | e | e | e | e | e <;> subst e
  ·exact h0 0 0
  ·exact h1 0 0
  ·exact h2 0 0
  ·exact h3 0 0
  ·exact h4 0 0
  ·exact h5.1 0
  ·exact h6.1 0
  ·exact h7.1 0
 | succ d ih =>
  rintro C sp ⟨j,hj,rfl,rfl⟩
  refine⟨cl j hj,?_⟩
  have:j=0∨j=1∨j=2∨j=3∨j=4∨j=5∨j=6∨j=7:=by exact Oz9 hj
  rcases this with e | e | e | e | e | e | e | e <;> subst e
  ·have:=h0 (d+1) (d+1)
   rwa [show d+1+3=3+(d+1) by exact Oz24] at this
  ·have:=h1 (d+1) (d+1)
   rwa [show d+1+3=3+(d+1) by exact Oz24] at this
  ·have:=h2 (d+1) (d+1)
   rwa [show d+1+3=3+(d+1) by exact Oz24] at this
  ·have:=h3 (d+1) (d+1)
   rwa [show d+1+3=3+(d+1) by exact Oz24] at this
  ·have:=h4 (d+1) (d+1)
   rwa [show d+1+3=3+(d+1) by exact Oz24] at this
  ·exact h5.2 d ih
  ·exact h6.2 d ih
  ·exact h7.2 d ih
end
def lP (K:cy) (cs:NC):Sp:=fun vs H Q _=>∃ (a kl lt:Addr) (n:Nt) (ks:List Kd2) (lk:List Int),vs=[.ref a,.ref kl,.ref lt]∧ObjN K cs H a n∧n.ok∧n.dp≤5∧Ground K H kl lt ks lk∧∀ H',Same H H'→Q (.bl (dz ks lk n)) H'
section
variable {cs:NC}
def pN (F:Fun K "claims" "Note.claims" bM f fd) (M:Mg mg) (D_reason:∀ C sp,iR K cs 5 C sp→Disp P w K mg base "reason" 8 ["self","kinds","look"] C sp):FnOk P w K mg base CX0 9 f fd ["self","kinds","look"] (lP K cs):=by
 refine F.ok bG.fs (fun vs H Q E h=>?_) (fun cdv A outer s H vs Q E hr h=>?_)
 ·obtain⟨a,kl,lt,n,ks,lk,rfl,_⟩:=h
  rfl
 obtain⟨a,kl,lt,n,ks,lk,rfl,O,ok,dp,G,q⟩:=h
 refine⟨_,(`n (`q (`g (@ix_tup _) (@iX _ _ _ _ _ _ _ _ _ _ _ _ _ _ (`b 0 bG rfl) D_reason hr (`a (`b 1 bG rfl) (`a (`b 2 bG rfl) `o (aN rfl)) (aN rfl)) (by decide) (aN rfl) (cg rfl aW) (by rfl)) `c (fun _ _=>rfl)))),?_⟩
 trivial
 refine iE O ok dp G fun p ys H1 S1 T=>?_
 exact⟨_,rfl,_,T,_,at0,q _ S1⟩
end
end _E
namespace _F
open _y _C _D _E PySem _l
def at1 {u:V}:atI (u::v::xs) 1=some v:=(dX (j:=1) rfl:atI (u::v::xs) ((1:Nat):Int)=some v)
def at2 {u x:V}:atI (u::v::x::xs) 2=some x:=(dX (j:=2) rfl:atI (u::v::x::xs) ((2:Nat):Int)=some x)
end _F
namespace _G
open _y _C _D _E _F PySem _l
noncomputable def top (i:Nat):Stmt:=PySem.Challenge.pw_tariffgate_k42_trees_refused.main.body.getD i (.Pass ⟨0,0,0,0⟩)
abbrev eI:Stmt:=top 55
def av:ScV ["_law_cell","_law_kinds_here","_law_one","_law_other"] ["_law_cell","_law_kinds_here"] eI:=scv (by decide +kernel)
abbrev dB:Stmt:=top 56
def az:ScV ["_law_cell","_law_kinds_here","_law_deep_here","_law_one","_law_other"] ["_law_cell","_law_kinds_here","_law_deep_here"] dB:=scv (by decide +kernel)
def lE (K:cy):Sp:=fun vs H Q _=>∃ (c:Int) (kl:Addr) (kx:List V) (ks:List Kd2),vs=[.int c,.ref kl]∧SqL K H kl kx∧KnA K H kx ks∧1≤ks.length∧ks.length≤4∧(∀ k∈ks,okKind k) ∧
 ∀ (p:Addr) (H':Hp) (n:Nt),Same H H'→ToldAt K H' (.ref p) n→n.ok→n.dp=1→Q (.ref p) H'
def mX (K:cy) (d:Nat):Sp:=fun vs H Q _=>∃ (c:Int) (kl:Addr) (kx:List V) (ks:List Kd2),vs=[.int c,.ref kl,.int (d:Int)]∧1≤d∧0≤c∧c≤10 ^ 9∧SqL K H kl kx∧KnA K H kx ks∧1≤ks.length∧ks.length≤4∧(∀ k∈ks,okKind k) ∧
 ∀ (p:Addr) (H':Hp) (n:Nt),Same H H'→ToldAt K H' (.ref p) n→n.ok→n.dp≤d→Q (.ref p) H'
def eV {n:Nat} (h:n≤64:=by decide):n≤sizeLine:=Nat.le_trans h (by decide)
def eU {s1 tl:TS} {D:Ends} (h:∀ tl',tl'=tl→mq s1 tl' D σ H):mq s1 tl D σ H:=h tl rfl
def AA {s1 s2 tl:TS} {D:Ends} (h:∀ tl',tl'=tl→mq s1 (mq s2 tl') D σ H):mq s1 (mq s2 tl) D σ H:=h tl rfl
def rO (F:Fun K "_law_plain" "_law_plain" eI f fd) (M:Mg mg):FnOk P w K mg base CX0 1 f fd ["_law_cell","_law_kinds_here"] (lE K):=by
 refine F.ok av.fs (fun vs H Q E h=>?_) (fun cdv A outer s H vs Q E hr h=>?_)
 ·obtain⟨c,kl,kx,ks,rfl,_⟩:=h
  rfl
 obtain⟨c,kl,kx,ks,rfl,LK,KA,k1,k4,okk,q⟩:=h
 have lk:=KA.length
 refine⟨_,(`f (`h 2 av (`g (@ix_list _) (`b 1 av rfl) (`d (@dF _) (`d (@dY _) (`b 0 av rfl) `c) (`i cQ rfl M.m_len fM (`a (`b 1 av rfl) `o (aN rfl)) aq rfl (aN rfl) aW)) (fun _ _=>rfl)) rfl) (`f (`h 3 av (`g (@ix_list _) (`b 1 av rfl) (`d (@dF _) (`d (@dY _) (`b 0 av rfl) `c) (`i cQ rfl M.m_len fM (`a (`b 1 av rfl) `o (aN rfl)) aq rfl (aN rfl) aW)) (fun _ _=>rfl)) rfl) (`f (`m (`k (@fk _) (`d (@dF _) (`d (@dY _) (`b 0 av rfl) `c) `c) `c (dm _)) (`n (`h 2 av (`j (`a (`g (@ix_tup _) (`b 2 av rfl) `c (fun _ _=>rfl)) (`a (`g (@ix_tup _) (`b 2 av rfl) `c (fun _ _=>rfl)) `o (aN rfl)) (aN rfl))) rfl)) (@dw _)) (`n (`q (@iM _ _ _ _ _ _ _ (`a (`j (`a `p `o (aN rfl))) (`a (`j (`a `p (`a (`g (@ix_tup _) (`b 2 av rfl) `c (fun _ _=>rfl)) `o (aN rfl)) (aN rfl))) (`a (`j (`a `p (`a (`g (@ix_tup _) (`b 2 av rfl) `c (fun _ _=>rfl)) `o (aN rfl)) (aN rfl))) (`a (`j (`a `p (`a (`g (@ix_tup _) (`b 2 av rfl) `c (fun _ _=>rfl)) `o (aN rfl)) (aN rfl))) (`a (`j (`a `p (`a (`b 2 av rfl) (`a (`b 3 av rfl) `o (aN rfl)) (aN rfl)) (aN rfl))) `o (aN rfl)) (aN rfl)) (aN rfl)) (aN rfl)) (aN rfl)) (`d (@dF _) (`b 0 av rfl) `c) (fun _ _=>rfl))))))),?_⟩
 refine AA fun tl htl=>?_
 trivial
 have pick:∀ z:Int,∃ (a:Addr) (k:Kd2),atI kx (z % (kx.length:Int))=some (.ref a)∧SqT K H a (kRow k)∧okKind k:=fun z=>by
  have j0:=DB z (show (kx.length:Int)≠0 by exact Oz34 k1 lk)
  have j1:=Dv z (show (0:Int)<(kx.length:Int) by exact Oz12 k1 lk)
  obtain⟨j,hj⟩:∃ j:Nat,z % (kx.length:Int)=j:=⟨(z % (kx.length:Int)).toNat,by exact Oz0 j0⟩
  obtain⟨x,hx⟩:∃ x,kx[j]?=some x:=⟨_,Dm (by exact Oz16 j1 hj)⟩
  obtain⟨a,k,rfl,hk,T⟩:=KA.at hx
  exact⟨a,k,by rw[hj]; exact dX hx,T,okk _ (Ds hk)⟩
 obtain⟨a1,k1',p1,T1,o1⟩:=pick (c / 5)
 obtain⟨a2,k2',p2,T2,o2⟩:=pick (c / 20)
 refine⟨cdiv (by decide) (by decide),_,.inl LK,by exact Oz12 k1 lk,_,LK,_,p1,cdiv (by decide) (by decide),_,.inl LK,by exact Oz12 k1 lk,_,LK,_,p2,?_⟩
 show tl _ _ _
 rw[htl]
 clear htl tl
 refine eU fun tl htl=>?_
 have fin:∀ (H1:Hp) (a:Addr) (k:Kd2),Same H H1→SqT K H1 a (kRow k)→okKind k→tl { nx:=fun _ H'=>Q .non H',rt:=Q } [some (V.int c),some (V.ref kl),some (V.ref a),some (V.ref a2)] H1:=fun H1 a k S1 T ok=>by
  rw[htl]
  trivial
  have e0:atI (kRow k) 0=some (.str (txt k.1)):=rfl
  have e1:atI (kRow k) 1=some (.str (txt k.2)):=rfl
  refine⟨eV,fun t0 ht0=>?_⟩
  obtain⟨H6,g6,S6,T6⟩:=bN (K:=K) ht0 [V.str (Dj "any")]
  rw[← g6]
  clear g6
  refine⟨_,Same.tup S6 T,_,e0,eV,fun t1 ht1=>?_⟩
  obtain⟨H7,g7,S7,T7⟩:=bN (K:=K) ht1 [V.str (Dj "made"),V.str (txt k.1)]
  rw[← g7]
  clear g7
  refine⟨_,Same.tup (S6.trans S7) T,_,e1,eV,fun t2 ht2=>?_⟩
  obtain⟨H8,g8,S8,T8⟩:=bN (K:=K) ht2 [V.str (Dj "used"),V.str (txt k.2)]
  rw[← g8]
  clear g8
  refine⟨_,Same.tup (S6.trans (S7.trans S8)) T,_,e0,eV,fun t3 ht3=>?_⟩
  obtain⟨H9,g9,S9,T9⟩:=bN (K:=K) ht3 [V.str (Dj "chief"),V.str (txt k.1)]
  rw[← g9]
  clear g9
  refine⟨eV,fun t4 ht4=>?_⟩
  obtain⟨H10,g10,S10,T10⟩:=bN (K:=K) ht4 [V.str (Dj "over"),V.ref a,V.ref a2]
  rw[← g10]
  clear g10
  have S610:=S6.trans (S7.trans (S8.trans (S9.trans S10)))
  obtain⟨i,hi,li⟩:∃ i:Nat,c % 5=i∧i<5:=⟨(c % 5).toNat,by omega,by omega⟩
  have all:∀ v∈[V.ref t0,V.ref t1,V.ref t2,V.ref t3,V.ref t4],∃ (t:Addr) (n:Nt),v=.ref t∧ToldAt K H10 (.ref t) n∧n.ok∧n.dp=1:=by
   simp only [Jl]
   exact⟨⟨_,.any,rfl,.tup (Same.tup (S7.trans (S8.trans (S9.trans S10))) T6) (.cons (.str _) .nil),trivial,rfl⟩,
    ⟨_,.made k.1,rfl,.tup (Same.tup (S8.trans (S9.trans S10)) T7) (.cons (.str _) (.cons (.str _) .nil)),ok.1,rfl⟩,
    ⟨_,.used k.2,rfl,.tup (Same.tup (S9.trans S10) T8) (.cons (.str _) (.cons (.str _) .nil)),ok.2,rfl⟩,
    ⟨_,.chief k.1,rfl,.tup (Same.tup S10 T9) (.cons (.str _) (.cons (.str _) .nil)),ok.1,rfl⟩,
    ⟨_,.over k k2',rfl,.tup T10 (.cons (.str _) (.cons (iQ (Same.tup S610 T)) (.cons (iQ (Same.tup (S1.trans S610) T2)) .nil))),⟨ok,o2⟩,rfl⟩,fun _ h=>by cases h⟩
  obtain⟨v,hv⟩:∃ v,([V.ref t0,V.ref t1,V.ref t2,V.ref t3,V.ref t4]:List V)[i]?=some v:=⟨_,Dm (by show i<5; omega)⟩
  obtain⟨t,n,rfl,R,o,d⟩:=all v (Ds hv)
  exact⟨eV,by decide,by omega,_,(by rw[hi,EA]; exact hv),q _ _ n (S1.trans S610) R o d⟩
 trivial
 refine⟨cdiv (by decide) (by decide),by decide,?_⟩
 by_cases h1:c / 80 % 6=1
 ·rw[if_pos h1]
  refine⟨_,T1,_,rfl,_,T1,_,rfl,eV,fun t ht=>?_⟩
  obtain⟨H1,g1,S1,N1⟩:=bN (K:=K) ht (kRow (k1'.2,k1'.1))
  have g1':H1=upd H t (.tup [V.str (txt k1'.2),V.str (txt k1'.1)]):=g1
  rw[← g1']
  exact fin H1 t _ S1 N1 ⟨o1.2,o1.1⟩
 ·rw[if_neg h1]
  exact fin H a1 k1' (Same.refl _) T1 o1
def zo {d:Nat} (F:Fun K "_law_note" "_law_note" dB f fd) (M:Mg mg) (bo:Cal P w K mg base CX0 "_law_plain" 1 ["_law_cell","_law_kinds_here"] (lE K))
  (bH:Cal P w K mg base CX0 "_law_note" (2+d) ["_law_cell","_law_kinds_here","_law_deep_here"] (mX K d)):FnOk P w K mg base CX0 (2+d+1) f fd ["_law_cell","_law_kinds_here","_law_deep_here"] (mX K (d+1)):=by
 refine F.ok az.fs (fun vs H Q E h=>?_) (fun cdv A outer s H vs Q E hr h=>?_)
 ·obtain⟨c,kl,kx,ks,rfl,_⟩:=h
  rfl
 obtain⟨c,kl,kx,ks,rfl,d1,c0,c9,LK,KA,k1,k4,okk,q⟩:=h
 refine⟨_,(`f (`m (@PW.pt _ _ _ (@jr _ _ _ _ _ _ _ (`k (@fk _) (`b 2 az rfl) `c (dm _)) (@jt _ _ _ _ (`k (@fk _) (`d (@dF _) (`b 0 az rfl) `c) `c (dm _))))) (`n (`q (`e bo hr rfl (`a (`d (@dY _) (`b 0 az rfl) `c) (`a (`b 1 az rfl) `o (aN rfl)) (aN rfl)) (by omega) rfl (aN rfl) (cg rfl aW)))) (@dw _)) (`f (`h 3 az (`e bH hr rfl (`a (`d (@dF _) (`d (@k8 _) (`b 0 az rfl) `c) `c) (`a (`b 1 az rfl) (`a (`d (@jz _) (`b 2 az rfl) `c) `o (aN rfl)) (aN rfl)) (aN rfl)) (by exact Oz113) rfl (aN rfl) (cg rfl (cg rfl aW))) rfl) (`f (`h 4 az (`e bH hr rfl (`a (`d (@dF _) (`d (@k8 _) (`b 0 az rfl) `c) `c) (`a (`b 1 az rfl) (`a (`d (@jz _) (`b 2 az rfl) `c) `o (aN rfl)) (aN rfl)) (aN rfl)) (by exact Oz113) rfl (aN rfl) (cg rfl (cg rfl aW))) rfl) (`n (`q (`j (`a (@iM _ _ _ _ _ _ _ (`a `p (`a `p (`a `p `o (aN rfl)) (aN rfl)) (aN rfl)) (`d (@dF _) (`d (@dY _) (`b 0 az rfl) `c) `c) (fun _ _=>rfl)) (`a (`b 3 az rfl) (`a (`b 4 az rfl) `o (aN rfl)) (aN rfl)) (aN rfl)))))))),?_⟩
 trivial
 have plain:CDivB c 3∧lE K [V.int (c / 3),V.ref kl] H Q E0:=⟨cdiv (by decide) (by decide),c / 3,kl,kx,ks,rfl,LK,KA,k1,k4,okk,fun p H' n e R o dd=>q p H' n e R o (by omega)⟩
 by_cases h1:((d+1:Nat):Int)=1
 ·rw[if_pos h1]
  exact plain
 rw[if_neg h1]
 refine⟨by decide,?_⟩
 by_cases h3:c % 3=0
 ·rw[if_pos h3]
  exact plain
 rw[if_neg h3]
 have ed:((d+1:Nat):Int)-1=(d:Int):=by exact Oz38
 rw[ed]
 have big:(10:Int) ^ 9≤10 ^ 61:=by decide
 have r0:=DB (c * 48271) (show (1000003:Int)≠0 by decide)
 have r1:=Dv (c * 48271) (show (0:Int)<1000003 by decide)
 have s0:=DB (c * 69621) (show (999983:Int)≠0 by decide)
 have s1:=Dv (c * 69621) (show (0:Int)<999983 by decide)
 refine⟨rN (by exact Oz105 c0) (by exact Oz112 c9) (by decide) (by decide),by decide,_,kl,kx,ks,rfl,by exact Oz67 h1,r0,by omega,LK,KA,k1,k4,okk,fun p1 H1 x S1 R1 o1 dp1=>?_⟩
 refine⟨rN (by exact Oz105 c0) (by exact Oz112 c9) (by decide) (by decide),by decide,_,kl,kx,ks,rfl,by exact Oz67 h1,s0,by omega,S1.seq LK,KA.same S1,k1,k4,okk,fun p2 H2 y S2 R2 o2 dp2=>?_⟩
 have R1':=R1.same S2
 obtain⟨j,hj⟩:∃ j:Int,c / 3 % 3=j:=⟨_,rfl⟩
 refine⟨eV,cdiv (by decide) (by decide),by decide,by omega,?_⟩
 rw[hj]
 have:j=0∨j=1∨j=2:=by omega
 rcases this with e | e | e <;> subst e
 ·refine⟨_,rfl,eV,fun t ht=>q _ _ (.both x y) (S1.trans (S2.trans (bO ht _))) (.tup (SqT.of aT) (.cons (.str _) (.cons (R1'.same (bO ht _)) (.cons (R2.same (bO ht _)) .nil)))) ⟨o1,o2⟩ ?_⟩
  show max x.dp y.dp+1≤d+1
  exact Oz23 dp1 dp2
 ·refine⟨_,rfl,eV,fun t ht=>q _ _ (.either x y) (S1.trans (S2.trans (bO ht _))) (.tup (SqT.of aT) (.cons (.str _) (.cons (R1'.same (bO ht _)) (.cons (R2.same (bO ht _)) .nil)))) ⟨o1,o2⟩ ?_⟩
  show max x.dp y.dp+1≤d+1
  exact Oz23 dp1 dp2
 ·refine⟨_,rfl,eV,fun t ht=>q _ _ (.but x y) (S1.trans (S2.trans (bO ht _))) (.tup (SqT.of aT) (.cons (.str _) (.cons (R1'.same (bO ht _)) (.cons (R2.same (bO ht _)) .nil)))) ⟨o1,o2⟩ ?_⟩
  show max x.dp y.dp+1≤d+1
  exact Oz23 dp1 dp2
theorem ni (F:Fun K "_law_note" "_law_note" dB f fd) (M:Mg mg) (bo:Cal P w K mg base CX0 "_law_plain" 1 ["_law_cell","_law_kinds_here"] (lE K))
  (b:Binds K fd ["_law_cell","_law_kinds_here","_law_deep_here"] []) (kp:Es K (.ref f)=true) (m:mg "_law_note"=some (.ref f)):∀ d:Nat,FnOk P w K mg base CX0 (2+d) f fd ["_law_cell","_law_kinds_here","_law_deep_here"] (mX K d)
 | 0=>by
  refine F.ok az.fs (fun vs H Q E h=>?_) (fun cdv A outer s H vs Q E hr h=>?_)
  ·obtain⟨c,kl,kx,ks,rfl,_⟩:=h
   rfl
  obtain⟨c,kl,kx,ks,rfl,d1,_⟩:=h
  exact absurd d1 (by decide)
 | d+1=>zo F M bo ⟨⟨f,fd,ni F M bo b kp m d,b,kp,m⟩⟩
end _G
namespace _I
open _y _B _C _D _E _F _G PySem _l
noncomputable def top (i:Nat):Stmt:=PySem.Challenge.pw_tariffgate_k42_trees_refused.main.body.getD i (.Pass ⟨0,0,0,0⟩)
abbrev eZ:Stmt:=top 57
def af:ScV ["_law_script","_law_kinds_here","_law_cell","_law_rows_here","_law_k","_law_more","_law_at","_law_elder","_law_note_here","_law_number"] ["_law_script","_law_kinds_here"] eZ:=scv (by decide +kernel)
def zG {cs:List Nat} (a:asc cs):DN (.str (txt cs))=true:=by
 show (txt cs).cps.all (·<0x110000)=true
 rw[List.all_toArray,Ek]
 intro c hc
 have:=of_decide_eq_true (Ek.mp a c hc)
 exact decide_eq_true (by exact Oz117 this)
def two_flat {z:Str} {s:List Nat} (e:DN (.str z)=true) (h:nameB s=true):DN (.tuple [.str z,.str (txt s)])=true:=by
 show (DN (.str z) && (DN (.str (txt s)) && true))=true
 rw[e,zG (gJ h).1]
 rfl
def vq {k:Kd2} (h:okKind k):DN (kD k)=true:=by
 show (DN (.str (txt k.1)) && (DN (.str (txt k.2)) && true))=true
 rw[zG (gJ h.1).1,zG (gJ h.2).1]
 rfl
def jX {z:Str} {x y:PyData} (e:DN (.str z)=true) (a:DN x=true) (b:DN y=true):DN (.tuple [.str z,x,y])=true:=by
 show (DN (.str z) && (DN x && (DN y && true)))=true
 rw[e,a,b]
 rfl
theorem jD:∀ n:Nt,n.ok→DN n.data=true∧Fz n.data≤n.dp+1
 | .any,_=>⟨by decide +kernel,by show max 0 0+1≤1+1; decide⟩
 | .made s,h=>⟨two_flat (by decide +kernel) h,by show max 0 (max 0 0)+1≤1+1; decide⟩
 | .used s,h=>⟨two_flat (by decide +kernel) h,by show max 0 (max 0 0)+1≤1+1; decide⟩
 | .chief s,h=>⟨two_flat (by decide +kernel) h,by show max 0 (max 0 0)+1≤1+1; decide⟩
 | .over a b,h=>⟨jX (by decide +kernel) (vq h.1) (vq h.2),by show max 0 (max (max 0 (max 0 0)+1) (max (max 0 (max 0 0)+1) 0))+1≤1+1; decide⟩
 | .both x y,h=>by
  obtain⟨a1,b1⟩:=jD x h.1
  obtain⟨a2,b2⟩:=jD y h.2
  exact⟨jX (by decide +kernel) a1 a2,by show max 0 (max (Fz x.data) (max (Fz y.data) 0))+1≤max x.dp y.dp+1+1; exact Oz3 b1 b2⟩
 | .either x y,h=>by
  obtain⟨a1,b1⟩:=jD x h.1
  obtain⟨a2,b2⟩:=jD y h.2
  exact⟨jX (by decide +kernel) a1 a2,by show max 0 (max (Fz x.data) (max (Fz y.data) 0))+1≤max x.dp y.dp+1+1; exact Oz3 b1 b2⟩
 | .but x y,h=>by
  obtain⟨a1,b1⟩:=jD x h.1
  obtain⟨a2,b2⟩:=jD y h.2
  exact⟨jX (by decide +kernel) a1 a2,by show max 0 (max (Fz x.data) (max (Fz y.data) 0))+1≤max x.dp y.dp+1+1; exact Oz3 b1 b2⟩
def TS (H H':Hp):Prop:=∀ b u,H b=some u→((∃ ys,u=.tup ys)∨∃ ob ys,u=.frz ob (.tup ys))→H' b=some u
def TS.of (e:Same H H'):TS H H':=fun b u h _=>e b u h
def TS.trans (a:TS H H') (b:TS H' H2):TS H H2:=fun c u h k=>b c u (a c u h k) k
def TS.upd {o':HO} (hD:H D=some o) (n1:∀ ys,o≠.tup ys) (n2:∀ ob ys,o≠.frz ob (.tup ys)):TS H (_l.upd H D o'):=fun b u h k=>by
 rw[aZ]
 ·exact h
 ·rintro rfl
  rw[hD] at h
  cases h
  rcases k with ⟨ys,e⟩ | ⟨ob,ys,e⟩
  ·exact n1 _ e
  ·exact n2 _ _ e
def TS.lst {o':HO} (hD:H D=some (.lst xs)):TS H (_l.upd H D o'):=TS.upd hD (fun _ z=>by cases z) (fun _ _ z=>by cases z)
def TS.tup {K:cy} {H H':Hp} {p:Addr} {xs:List V} (e:TS H H') (h:SqT K H p xs):SqT K H' p xs:=by
 rcases h with (h | ⟨o,h⟩) | h
 ·exact .inl (.inl (e _ _ h (.inl ⟨_,rfl⟩)))
 ·exact .inl (.inr ⟨o,e _ _ h (.inr ⟨_,_,rfl⟩)⟩)
 ·exact .inr h
def TS.at {p:Addr} (e:TS H H') (h:H p=some (.tup xs)):H' p=some (.tup xs):=e _ _ h (.inl ⟨_,rfl⟩)
theorem ie {K:cy} {H H':Hp} (e:TS H H'):∀ {n:Nt} {v:V},ToldAt K H v n→ToldAt K H' v n
 | .any,v,R=>by
  obtain⟨a,rfl⟩:=gq R
  obtain⟨x0,T,r0⟩:=uX R
  cases fO r0
  exact .tup (e.tup T) (.cons (.str _) .nil)
 | .made s,v,R=>by
  obtain⟨a,rfl⟩:=gq R
  obtain⟨x0,y0,T,r0,r1⟩:=ko R
  cases fO r0
  cases fO r1
  exact .tup (e.tup T) (.cons (.str _) (.cons (.str _) .nil))
 | .used s,v,R=>by
  obtain⟨a,rfl⟩:=gq R
  obtain⟨x0,y0,T,r0,r1⟩:=ko R
  cases fO r0
  cases fO r1
  exact .tup (e.tup T) (.cons (.str _) (.cons (.str _) .nil))
 | .chief s,v,R=>by
  obtain⟨a,rfl⟩:=gq R
  obtain⟨x0,y0,T,r0,r1⟩:=ko R
  cases fO r0
  cases fO r1
  exact .tup (e.tup T) (.cons (.str _) (.cons (.str _) .nil))
 | .over k k',v,R=>by
  obtain⟨a,rfl⟩:=gq R
  obtain⟨x0,y0,z0,T,r0,r1,r2⟩:=iB R
  cases fO r0
  obtain⟨p1,rfl,T1⟩:=lC r1
  obtain⟨p2,rfl,T2⟩:=lC r2
  exact .tup (e.tup T) (.cons (.str _) (.cons (iQ (e.tup T1)) (.cons (iQ (e.tup T2)) .nil)))
 | .both x y,v,R=>by
  obtain⟨a,rfl⟩:=gq R
  obtain⟨x0,y0,z0,T,r0,r1,r2⟩:=iB R
  cases fO r0
  exact .tup (e.tup T) (.cons (.str _) (.cons (ie e r1) (.cons (ie e r2) .nil)))
 | .either x y,v,R=>by
  obtain⟨a,rfl⟩:=gq R
  obtain⟨x0,y0,z0,T,r0,r1,r2⟩:=iB R
  cases fO r0
  exact .tup (e.tup T) (.cons (.str _) (.cons (ie e r1) (.cons (ie e r2) .nil)))
 | .but x y,v,R=>by
  obtain⟨a,rfl⟩:=gq R
  obtain⟨x0,y0,z0,T,r0,r1,r2⟩:=iB R
  cases fO r0
  exact .tup (e.tup T) (.cons (.str _) (.cons (ie e r1) (.cons (ie e r2) .nil)))
structure Rw where
 num:List Int
 note:Nt
 rule:Str
def RowAt (K:cy) (H:Hp) (v:V) (r:Rw):Prop:=∃ p a t:Addr,v=.ref p∧SqT K H p [.ref a,.ref t,.str r.rule]∧H a=some (.tup (r.num.map V.int))∧ToldAt K H (.ref t) r.note
def RowAt.ts {r:Rw} (h:RowAt K H v r) (e:TS H H'):RowAt K H' v r:=by
 obtain⟨p,a,t,h1,h2,h3,h4⟩:=h
 exact⟨p,a,t,h1,e.tup h2,e.at h3,ie e h4⟩
abbrev RowsAt (K:cy) (H:Hp) (vs:List V) (rs:List Rw):Prop:=Paired (fun v r=>RowAt K H v r) vs rs
theorem iy {α β:Type} {R:α→β→Prop} {a:α} {b:β} (h:R a b):∀ {xs:List α} {ys:List β},Paired R xs ys→Paired R (xs++[a]) (ys++[b])
 | _,_,.nil=>.cons h .nil
 | _,_,.cons r t=>.cons r (iy h t)
theorem gy {α β:Type} {R:α→β→Prop}:∀ {xs:List α} {ys:List β} {i:Nat} {x:α},Paired R xs ys→xs[i]?=some x→∃ y,ys[i]?=some y∧R x y
 | _,_,_,_,.nil,h=>by cases h
 | _,_,0,_,.cons r _,h=>by cases h; exact⟨_,rfl,r⟩
 | _,_,i+1,_,.cons _ t,h=>gy (i:=i) t (by simpa using h)
def RowsAt.ts {rs:List Rw} (h:RowsAt K H vs rs) (e:TS H H'):RowsAt K H' vs rs:=Paired.mapP h fun v r=>fun h=>RowAt.ts h e
noncomputable def upN (k:List Int):List Int:=k.dropLast
structure RsOk (d:Nat) (rs:List Rw):Prop where
 nd:(rs.map Rw.num).Nodup
 len:∀ r∈rs,1≤r.num.length∧r.num.length≤4
 part:∀ r∈rs,∀ x∈r.num,1≤x∧x≤99
 up:∀ r∈rs,upN r.num=[]∨upN r.num∈rs.map Rw.num
 ok:∀ r∈rs,r.note.ok∧r.note.dp≤d
 rule:∀ r∈rs,r.rule = "one"∨r.rule = "near"
noncomputable def lastF (c:Int) (j:Nat):Int:=1+(c / 8+37 * (j:Int)) % 99
def zJ (c:Int) (j:Nat):1≤lastF c j∧lastF c j≤99:=by
 unfold lastF
 omega
def zm {c:Int} {i j:Nat} (hi:i<99) (hj:j<99) (h:lastF c i=lastF c j):i=j:=by
 unfold lastF at h
 omega
noncomputable def cnt (rs:List Rw) (at':List Int):Nat:=(rs.filter fun r=>decide (upN r.num=at')).length
structure Grow (c:Int) (rs:List Rw):Prop extends RsOk 4 rs where
 el:∀ r∈rs,∃ j,j<cnt rs (upN r.num)∧r.num=upN r.num++[lastF c j]∧(j=0→r.note.dp≤3)
def rq (rs:List Rw) (r:Rw) (at':List Int):cnt (rs++[r]) at'=cnt rs at'+if upN r.num=at' then 1 else 0:=by
 unfold cnt
 rw[EC,Dp]
 by_cases h:upN r.num=at'
 ·rw[if_pos h,Ex (by simpa using h)]
  rfl
 ·rw[if_neg h,Em (by simpa using h)]
  rfl
def Ab (c:Int):Grow c []:=⟨⟨.nil,(fun r h=>by cases h),(fun r h=>by cases h),(fun r h=>by cases h),(fun r h=>by cases h),fun r h=>by cases h⟩,fun r h=>by cases h⟩
def mE (at':List Int) (x:Int):upN (at'++[x])=at':=by unfold upN; simp
def yX {c:Int} {rs:List Rw} {at':List Int} {n:Nt} {z:Str} (g:Grow c rs) (h64:rs.length<90) (ha:at'=[]∨at'∈rs.map Rw.num) (l3:at'.length≤3) (okn:n.ok) (d4:n.dp≤4) (d3:cnt rs at'=0→n.dp≤3) (hz:z = "one"∨z = "near"):Grow c (rs++[⟨at'++[lastF c (cnt rs at')],n,z⟩]):=by
 have mem:∀ {r:Rw},r∈rs++[⟨at'++[lastF c (cnt rs at')],n,z⟩]→r∈rs∨r=⟨at'++[lastF c (cnt rs at')],n,z⟩:=fun {r} h=>by
  rcases DV.mp h with h | h
  ·exact .inl h
  ·exact .inr (DA.mp h)
 have pa:∀ x∈at',1≤x∧x≤99:=fun x hx=>by
  rcases ha with rfl | ha
  ·cases hx
  ·obtain⟨r,hr,rfl⟩:=DZ.mp ha
   exact g.part r hr x hx
 have new:at'++[lastF c (cnt rs at')] ∉ rs.map Rw.num:=fun h=>by
  obtain⟨r,hr,e⟩:=DZ.mp h
  obtain⟨j,hj,e2,_⟩:=g.el r hr
  have eu:upN r.num=at':=by rw[e]; exact mE _ _
  rw[eu] at hj e2
  rw[e] at e2
  have el:lastF c (cnt rs at')=lastF c j:=by
   have:=List.append_cancel_left e2
   simpa using this
  have cl:cnt rs at'≤rs.length:=D6 _ _
  have:=zm (by omega) (by omega) el
  omega
 refine⟨⟨?_,fun r hr=>?_,fun r hr x hx=>?_,fun r hr=>?_,fun r hr=>?_,fun r hr=>?_⟩,fun r hr=>?_⟩
 ·rw[DH]
  refine Ik.mpr ⟨g.nd,by simp,fun a ha b hb=>?_⟩
  have:b=at'++[lastF c (cnt rs at')]:=by simpa using hb
  rw[this]
  rintro rfl
  exact new ha
 ·rcases mem hr with h | rfl
  ·exact g.len r h
  ·show 1≤(at'++[lastF c (cnt rs at')]).length∧_≤4
   rw[Dp,G3]
   omega
 ·rcases mem hr with h | rfl
  ·exact g.part r h x hx
  ·rcases DV.mp hx with h | h
   ·exact pa x h
   ·rw[DA.mp h]
    exact zJ _ _
 ·rw[DH]
  rcases mem hr with h | rfl
  ·rcases g.up r h with h | h
   ·exact .inl h
   ·exact .inr (Fd _ h)
  ·show upN (at'++_)=[]∨upN (at'++_)∈_
   rw[mE]
   rcases ha with h | h
   ·exact .inl h
   ·exact .inr (Fd _ h)
 ·rcases mem hr with h | rfl
  ·exact g.ok r h
  ·exact⟨okn,d4⟩
 ·rcases mem hr with h | rfl
  ·exact g.rule r h
  ·exact hz
 ·rcases mem hr with h | rfl
  ·obtain⟨j,hj,e,d⟩:=g.el r h
   exact⟨j,by rw[rq]; omega,e,d⟩
  ·refine⟨cnt rs at',?_,?_,d3⟩
   ·show cnt rs at'<cnt _ (upN (at'++_))
    rw[mE,rq]
    show cnt rs at'<cnt rs at'+if upN (at'++_)=at' then 1 else 0
    rw[mE,if_pos rfl]
    omega
   ·show at'++_=upN (at'++_)++_
    rw[mE]
def C9 {k:List Int}:gC (k.map V.int) none (some 3)=(k.take 3).map V.int:=by
 have e:_ht.sIx (k.map V.int).length (k.map V.int).length (some 3)=min 3 (k.map V.int).length:=_ht.sIx_nat _ _ 3
 unfold gC
 rw[e,_ht.sIx_none,FF,Nat.sub_zero,iz,Fx]
 by_cases h:k.length≤3
 ·rw[Nat.min_eq_right h,Dw (by rw[iz]; exact Nat.le_refl _),Dw (by rw[iz]; exact h)]
 ·rw[Nat.min_eq_left (by omega)]
def wQ {k:List Int} (h:1≤k.length):gC (k.map V.int) none (some (-1))=(upN k).map V.int:=by
 have e:_ht.sIx (k.map V.int).length (k.map V.int).length (some (-1))=k.length-1:=by
  rw[iz]
  show (if (-1:Int)<0 then (-1+(k.length:Int)).toNat else min (-1:Int).toNat k.length)=_
  rw[if_pos (by decide)]
  exact Oz5
 unfold gC upN
 rw[e,_ht.sIx_none,FF,Nat.sub_zero,G8,Fx]
noncomputable def gp (k:List Int):PyData:=.tuple (k.map PyData.int)
def jC (k k':List Int):Eu (gp k) (gp k')=decide (k=k'):=_ht.eqvAll_ints k k'
theorem oA {K:cy} {H:Hp}:∀ ns:List Int,RepAll K H (ns.map V.int) (ns.map PyData.int)
 | []=>.nil
 | n::ns=>.cons (.int n) (oA ns)
def i7 {p:Addr} {k:List Int} (h:SqT K H p (k.map V.int)):Rep K H (.ref p) (gp k):=.tup h (oA k)
theorem jR:∀ ns:List Int,Ea (ns.map PyData.int)=true∧DO (ns.map PyData.int)=0
 | []=>⟨rfl,rfl⟩
 | n::ns=>by
  obtain⟨a,b⟩:=jR ns
  refine⟨?_,?_⟩
  ·show (true && Ea (ns.map PyData.int))=true
   rw[a]
   rfl
  ·show max 0 (DO (ns.map PyData.int))=0
   omega
def iF (k:List Int):iC (gp k):=⟨(jR k).1,by show DO (k.map PyData.int)+1≤40; rw[(jR k).2]; decide⟩
noncomputable def rwD (r:Rw):PyData:=.tuple [gp r.num,r.note.data,.str r.rule]
def AL {r:Rw} (h:RowAt K H v r):Rep K H v (rwD r):=by
 obtain⟨p,a,t,rfl,h2,h3,h4⟩:=h
 exact .tup h2 (.cons (i7 (SqT.of h3)) (.cons h4 (.cons (.str _) .nil)))
theorem sP {K:cy} {H:Hp}:∀ {vs:List V} {rs:List Rw},RowsAt K H vs rs→RepAll K H vs (rs.map rwD)
 | _,_,.nil=>.nil
 | _,_,.cons h t=>.cons (AL h) (sP t)
def zU {r:Rw} (h:r.note.ok∧r.note.dp≤5) (hz:r.rule = "one"∨r.rule = "near"):DN (rwD r)=true∧Fz (rwD r)≤10:=by
 obtain⟨a,b⟩:=jD r.note h.1
 have c:=iF r.num
 have d:DN (.str r.rule)=true:=by rcases hz with e | e <;> rw[e] <;> decide +kernel
 refine⟨?_,?_⟩
 ·show (DN (gp r.num) && (DN r.note.data && (DN (.str r.rule) && true)))=true
  rw[c.1,a,d]
  rfl
 ·show max (DO (r.num.map PyData.int)+1) (max (Fz r.note.data) (max 0 0))+1≤10
  rw[(jR r.num).2]
  omega
theorem qh:∀ {rs:List Rw},(∀ r∈rs,(r.note.ok∧r.note.dp≤5)∧(r.rule = "one"∨r.rule = "near"))→Ea (rs.map rwD)=true∧DO (rs.map rwD)≤10
 | [],_=>⟨rfl,by show 0≤10; decide⟩
 | r::rs,h=>by
  obtain⟨a,b⟩:=zU (h r (.head _)).1 (h r (.head _)).2
  obtain⟨c,d⟩:=qh fun r hr=>h r (.tail _ hr)
  refine⟨?_,?_⟩
  ·show (DN (rwD r) && Ea (rs.map rwD))=true
   rw[a,c]
   rfl
  ·show max (Fz (rwD r)) (DO (rs.map rwD))≤10
   omega
def RsOk.mono {d e:Nat} {rs:List Rw} (h:RsOk d rs) (l:d≤e):RsOk e rs:=⟨h.nd,h.len,h.part,h.up,fun r hr=>⟨(h.ok r hr).1,Nat.le_trans (h.ok r hr).2 l⟩,h.rule⟩
def RsOk.flat {rs:List Rw} (h:RsOk 5 rs):iC (.list (rs.map rwD)):=by
 obtain⟨a,b⟩:=qh fun r hr=>⟨⟨(h.ok r hr).1,by have:=(h.ok r hr).2; omega⟩,h.rule r hr⟩
 exact⟨a,by show DO (rs.map rwD)+1≤40; omega⟩
def zA {rs:List Rw} {at':List Int} {j:Nat} {r:Rw} (h:rs[j]?=some r):(rs.take (j+1)).filter (fun r=>decide (upN r.num=at'))=(rs.take j).filter (fun r=>decide (upN r.num=at'))++if upN r.num=at' then [r] else []:=by
 rw[E1,h,EC]
 by_cases e:upN r.num=at'
 ·rw[if_pos e]
  show _++[r].filter _=_
  rw[Ex (by simpa using e)]
  rfl
 ·rw[if_neg e]
  show _++[r].filter _=_
  rw[Em (by simpa using e)]
  rfl
def sM (K:cy):Sp:=fun vs H Q E=>∃ d,d≤3∧mX K d vs H Q E
def vH (K:cy):Sp:=fun vs H Q _=>∃ (a kl:Addr) (ns:List Int) (kx:List V) (ks:List Kd2),vs=[.ref a,.ref kl]∧SqL K H a (ns.map V.int)∧SqL K H kl kx∧KnA K H kx ks∧1≤ks.length∧ks.length≤4∧(∀ k∈ks,okKind k) ∧
 ∀ (l:Addr) (vs:List V) (rs:List Rw) (H':Hp),Same H H'→H l=none→H' l=some (.lst vs)→RowsAt K H' vs rs→RsOk 4 rs→1≤rs.length→rs.length≤8→Q (.ref l) H'
def uI (F:Fun K "_law_rows" "_law_rows" eZ f fd) (M:Mg mg) (am:Cal P w K mg base CX0 "_law_cell_at" 1 ["_law_script","_law_k"] (kF K)) (bH:Cal P w K mg base CX0 "_law_note" 5 ["_law_cell","_law_kinds_here","_law_deep_here"] (sM K)):FnOk P w K mg base CX0 6 f fd ["_law_script","_law_kinds_here"] (vH K):=by
 refine F.ok af.fs (fun vs H Q E h=>?_) (fun cdv A outer s H vs Q E hr h=>?_)
 ·obtain⟨a,kl,ns,kx,ks,rfl,_⟩:=h
  rfl
 obtain⟨a,kl,ns,kx,ks,rfl,hS,LK,KA,k1,k4,okk,q⟩:=h
 have lk:=KA.length
 refine⟨_,(`f (`h 2 af (`e am hr rfl (`a (`b 0 af rfl) (`a `c `o (aN rfl)) (aN rfl)) (by decide) rfl (aN rfl) (cg rfl aW)) rfl) (`f (`h 3 af (@fS _ _ _ _ `o) rfl) (`f (@jx _ _ _ _ _ _ _ _ FQ rfl (@iT _ _ _ _ _ _ rfl M.m_range (`a (`d (@gQ _) `c (`d (@dF _) (`b 2 af rfl) (@iM _ _ _ _ _ _ _ (`a `c (`a `c (`a `c (`a `c `o (aN rfl)) (aN rfl)) (aN rfl)) (aN rfl)) (`d (@jz _) (`i cQ rfl M.m_len fM (`a (`b 1 af rfl) `o (aN rfl)) aq rfl (aN rfl) aW) `c) (fun _ _=>rfl)))) `o (aN rfl)) (star1' rfl)) (@dH _ _ 4 _ af.nd rfl (ScV.loc af 4 rfl) (.inl rfl)) (`f (`h 5 af (`e am hr rfl (`a (`b 0 af rfl) (`a (`d (@gQ _) `c (`b 4 af rfl)) `o (aN rfl)) (aN rfl)) (by decide) rfl (aN rfl) (cg rfl aW)) rfl) (`f (`h 6 af (`j `o) rfl) (`f (`m (@PW.pt _ _ _ (@iu _ _ _ _ _ _ _ (`k (rV (jk hr)) (`b 3 af rfl) (@fS _ _ _ _ `o) (dm _)) (@gZ _ _ _ _ (`k (@fk _) (`d (@dF _) (`b 5 af rfl) `c) `c (dm _))))) (`n (`h 6 af (@gK _ _ _ _ _ _ _ _ _ _ vm (`g (@ix_tup _) (`g (@ix_list _) (`b 3 af rfl) (`d (@dF _) (`d (@dY _) (`b 5 af rfl) `c) (`i cQ rfl M.m_len fM (`a (`b 3 af rfl) `o (aN rfl)) aq rfl (aN rfl) aW)) (fun _ _=>rfl)) `c (fun _ _=>rfl)) (@iA _) (@gP _ _ _ `c)) rfl)) (@dw _)) (`f (@ju _ _ _ _ _ _ _ _ _ _ _ _ _ _ _ 7 _ _ _ af.nd rfl (ScV.loc af 7 rfl) rfl (CompOk.make (N':=["_law_at","_law_row"]) (ix:=[6]) (nl:=1) (by rfl) (fm1 rfl fm0) (by rfl) (by decide +kernel) rfl (by decide +kernel) rfl (EH ⟨rfl,.inl rfl,.inl rfl⟩ DY)) (@gw _ _ _ _ (`b 3 af rfl)) (fun _ _ _ _ _=>(@dH _ _ 1 _ (show D5 (["_law_at","_law_row"]:List Str) from by decide) rfl (Or.inl rfl) (by first | exact .inl rfl | exact .inr rfl | assumption))) (fun _ _ _ _ _=>(@iO _ _ _ (`k (vz (K:=K) rfl (jk hr)) (@gK _ _ _ _ _ _ _ _ _ _ (kE (K:=K) rfl) (`g (gG (K:=K) rfl) (@pv _ 1 _ _ (by rfl) (by decreasing_trivial) (by decide) (by decide)) `c (fun _ _=>rfl)) (@iA _) (@gP _ _ _ (@kI _ _ _ _ _ _ (@jO _) `c))) (@pv _ 0 _ _ (by rfl) (by decreasing_trivial) (by decide) (by decide)) (dm _)))) (fun _ _ _ _ _=>(@pv _ 1 _ _ (by rfl) (by decreasing_trivial) (by decide) (by decide))) (by rfl) (by intro _; rfl) (by first | exact .inl rfl | exact .inr rfl | assumption)) (`f (`h 8 af (`e bH hr rfl (`a (`d (@dF _) (`d (@ye _) (`b 5 af rfl) `c) `c) (`a (`b 1 af rfl) (`a (`d (@jz _) `c (`d (@dY _) (`i cQ rfl M.m_len fM (`a (`b 1 af rfl) `o (aN rfl)) aq rfl (aN rfl) aW) `c)) `o (aN rfl)) (aN rfl)) (aN rfl)) (by decide) rfl (aN rfl) (cg rfl (cg rfl aW))) rfl) (`f (`m (`k (@fk _) (`d (@dF _) (`d (@dY _) (`b 5 af rfl) `c) `c) `c (dm _)) (`n (`h 8 af (`j (`a `p `o (aN rfl))) rfl)) (@dw _)) (`f (`m (@PW.pt _ _ _ (@iu _ _ _ _ _ _ _ (`k (@wA _) (`d (@dF _) (`d (@dY _) (`b 5 af rfl) `c) `c) `c (dm _)) (@gZ _ _ _ _ (`k (@fk _) (`i cQ rfl M.m_len fM (`a (`b 7 af rfl) `o (aN rfl)) aq rfl (aN rfl) aW) `c (dm _))))) (`n (`h 8 af (`j (`a `p (`a (`j (`a `p `o (aN rfl))) (`a (`g (@ix_tup _) (`g (@ix_list _) (`b 7 af rfl) `c (fun _ _=>rfl)) `c (fun _ _=>rfl)) `o (aN rfl)) (aN rfl)) (aN rfl))) rfl)) (@dw _)) (`f (`h 9 af (`d zW (`b 6 af rfl) (`j (`a (`d (@gQ _) `c (`d (@dF _) (`d (@gQ _) (`d (@dY _) (`b 2 af rfl) `c) (`d (@k8 _) `c (`i cQ rfl M.m_len fM (`a (`b 7 af rfl) `o (aN rfl)) aq rfl (aN rfl) aW))) `c)) `o (aN rfl)))) rfl) (`n (@gY _ _ _ _ (@iG _ _ _ _ _ _ _ _ _ _ _ _ DQ EO ER iS (`b 3 af rfl) (`a (`j (`a (`b 9 af rfl) (`a (`b 8 af rfl) (`a (@iM _ _ _ _ _ _ _ (`a `p (`a `p `o (aN rfl)) (aN rfl)) (`d (@dF _) (`d (@dY _) (`b 5 af rfl) `c) `c) (fun _ _=>rfl)) `o (aN rfl)) (aN rfl)) (aN rfl))) `o (aN rfl)) (by rfl) (by rfl) (by rfl) (by rfl) (by rfl)) (fV rfl))))))))))) (by intro _; rfl)) (`n (`q (`b 3 af rfl)))))),?_⟩
 trivial
 refine fm hS (by decide) ?_
 obtain⟨c,hc⟩:∃ c,cellAt ns 5=c:=⟨_,rfl⟩
 rw[hc]
 refine⟨eV,fun l hl=>?_⟩
 obtain⟨H1,g1,S1,L1⟩:∃ H1,H1=upd H l (.lst [])∧Same H H1∧H1 l=some (.lst []):=⟨_,rfl,bO hl _,aT⟩
 rw[← g1]
 clear g1
 obtain⟨mv,hmv,m4,m8⟩:∃ mv:Int,[V.int 8,V.int 8,V.int 8,V.int 4][((kx.length:Int)-1).toNat]?=some (.int mv)∧4≤mv∧mv≤8:=by
  have:kx.length=1∨kx.length=2∨kx.length=3∨kx.length=4:=by omega
  rcases this with e | e | e | e <;> rw[e]
  ·exact⟨8,rfl,by decide,by decide⟩
  ·exact⟨8,rfl,by decide,by decide⟩
  ·exact⟨8,rfl,by decide,by decide⟩
  ·exact⟨4,rfl,by decide,by decide⟩
 have e0:=DB c (show mv≠0 by omega)
 have e1:=Dv c (show 0<mv by exact Oz94 m4)
 obtain⟨mm,hmm,mm1,mm8⟩:∃ mm:Nat,1+c % mv=(mm:Int)∧1≤mm∧mm≤8:=⟨(1+c % mv).toNat,by omega,by omega,by omega⟩
 refine⟨eV,_,.inl (S1.seq LK),by omega,_,hmv,_,rfl,_,rfl,by exact Oz94 m4,by omega,by omega,?_⟩
 rw[hmm,EA]
 obtain⟨Pv,hP⟩:∃ Pv:Nat→St→Hp→Prop,Pv=fun i σ H'=>∃ (vs:List V) (rs:List Rw) (y4 y5 y6 y7 y8 y9:Option V),H' l=some (.lst vs)∧RowsAt K H' vs rs∧Grow c rs∧rs.length=i∧Same H H'∧σ=[some (V.ref a),some (V.ref kl),some (V.int c),some (V.ref l),y4,y5,y6,y7,y8,y9]:=⟨_,rfl⟩
 refine i8 Pv ?_ ?_ ?_
 ·rw[hP]
  exact⟨[],[],_,_,_,_,_,_,L1,.nil,Ab c,rfl,S1,rfl⟩
 ·intro i σ H' hi h
  rw[hP] at h
  obtain⟨vs,rs,y4,y5,y6,y7,y8,y9,dl,ra,gr,li,e,rfl⟩:=h
  have lv:vs.length=rs.length:=DT ra
  refine AA fun tl htl=>?_
  trivial
  refine fm (e.seq hS) (by omega) ?_
  obtain⟨mo,hmo⟩:∃ mo,cellAt ns (6+(0+(i:Int)))=mo:=⟨_,rfl⟩
  rw[hmo]
  refine⟨eV,fun p6 hp6=>?_⟩
  obtain⟨H2,g2,S2,T2⟩:∃ H2,H2=upd H' p6 (.tup [])∧Same H' H2∧H2 p6=some (.tup []):=⟨_,rfl,bO hp6 _,aT⟩
  rw[← g2]
  clear g2
  show tl _ _ _
  rw[htl]
  clear htl tl
  refine eU fun tl htl=>?_
  obtain⟨DE,hDE⟩:∃ DE:Ends,DE={ nx:=Pv (i+1),rt:=Q,bk:=zC (nM 3) { nx:=fun _ H'=>Q .non H',rt:=Q },ct:=Pv (i+1) }:=⟨_,rfl⟩
  rw[← hDE]
  have c3:∀ (H3:Hp) (pa:Addr) (at':List Int),Same H' H3→H3 pa=some (.tup (at'.map V.int))→(at'=[]∨at'∈rs.map Rw.num)→at'.length≤3→tl DE [some (V.ref a),some (V.ref kl),some (V.int c),some (V.ref l),some (V.int (0+(i:Int))),some (V.int mo),some (V.ref pa),y7,y8,y9] H3:=by
   intro H3 pa at' S3 TA ha l3
   rw[htl]
   clear htl tl
   refine eU fun tl htl=>?_
   have dl3:=S3 _ _ dl
   have ra3:=RowsAt.ts ra (TS.of S3)
   trivial
   refine⟨⟨_,SqL.of dl3⟩,fun D hD=>?_⟩
   obtain⟨Pc,hC⟩:∃ Pc:Nat→St→Hp→Prop,Pc=fun j τ H4=>∃ (es:List V) (z:Option V),H4 D=some (.lst es)∧RowsAt K H4 es ((rs.take j).filter fun r=>decide (upN r.num=at'))∧Same H3 H4∧τ=[some (.ref pa),z]:=⟨_,rfl⟩
   refine fR vs Pc ?_ (fun j τ H4 _ h=>by rw[hC] at h; obtain⟨_,_,_,_,e,_⟩:=h; exact SqL.of (e _ _ dl3)) ?_ ?_
   ·rw[hC]
    exact⟨[],_,aT,.nil,bO hD _,rfl⟩
   ·intro j v τ H4 R' hv h next
    rw[hC] at h
    obtain⟨es,z,dD,re,e4,rfl⟩:=h
    have lj:=(yp.mp hv).1
    obtain⟨r,hr',hrow⟩:=gy (RowsAt.ts ra3 (TS.of e4)) hv
    obtain⟨p',a',t',rfl,h2',h3',h4'⟩:=id hrow
    have mr:=Ds hr'
    trivial
    refine⟨_,h2',_,at0,a',_,rfl,SqT.of h3',fun p7 H5 S5 T5=>?_⟩
    rw[wQ (gr.len r mr).1] at T5
    refine⟨_,_,i7 T5,i7 (SqT.of ((e4.trans S5) _ _ TA)),iF _,iF _,_,rfl,?_⟩
    rw[if_neg (show ¬ (false=true) from DC),jC]
    have dD5:=S5 _ _ dD
    have re5:=RowsAt.ts re (TS.of S5)
    have le:es.length≤8:=by
     have:=DT re
     rw[this]
     refine Nat.le_trans (D6 _ _) ?_
     rw[Dt]
     omega
    have ct:=zA (at':=at') hr'
    by_cases eu:upN r.num=at'
    ·rw[if_pos (decide_eq_true eu)]
     refine⟨_,dD5,Nat.lt_of_lt_of_le (m:=64) (by omega) (by decide),next _ _ ?_⟩
     rw[hC]
     refine⟨es++[.ref p'],_,aT,?_,dI (e4.trans S5) hD _,rfl⟩
     rw[ct,if_pos eu]
     exact iy (RowAt.ts (RowAt.ts hrow (TS.of S5)) (TS.lst dD5)) (RowsAt.ts re5 (TS.lst dD5))
    ·rw[if_neg (by rw[decide_eq_false eu]; decide)]
     refine next _ _ ?_
     rw[hC]
     exact⟨es,_,dD5,by rw[ct,if_neg eu,D9]; exact re5,e4.trans S5,rfl⟩
   intro τ H4 h
   rw[hC] at h
   obtain⟨es,z,dD,re,e4,rfl⟩:=h
   clear hC Pc
   rw[lv,EW] at re
   show tl _ _ _
   rw[htl]
   clear htl tl
   refine eU fun tl htl=>?_
   trivial
   have S4:=S3.trans e4
   have les:es.length=cnt rs at':=DT re
   have lc8:cnt rs at'≤rs.length:=D6 _ _
   obtain⟨d,hd,d1,d3⟩:∃ d:Nat,3-(kx.length:Int) / 4=d∧1≤d∧d≤3:=⟨(3-(kx.length:Int) / 4).toNat,by omega,by omega,by omega⟩
   have r0:=DB (mo * 16807) (show (1000003:Int)≠0 by decide)
   have r1:=Dv (mo * 16807) (show (0:Int)<1000003 by decide)
   have eS:=e.trans S4
   refine⟨.inr ⟨by omega,by omega⟩,by decide,_,.inl (eS.seq LK),cdiv (by decide) (by decide),d,d3,_,kl,kx,ks,by rw[hd],d1,r0,by omega,eS.seq LK,KA.same eS,k1,k4,okk,fun t8 H5 n5 S5 R5 o5 dp5=>?_⟩
   show tl _ _ _
   rw[htl]
   clear htl tl
   refine eU fun tl htl=>?_
   have c6:∀ (H6:Hp) (t:Addr) (n:Nt),Same H4 H6→ToldAt K H6 (.ref t) n→n.ok→n.dp≤3→tl DE [some (V.ref a),some (V.ref kl),some (V.int c),some (V.ref l),some (V.int (0+(i:Int))),some (V.int mo),some (V.ref pa),some (V.ref D),some (V.ref t),y9] H6:=by
    intro H6 t6 n6 S6 R6 o6 dp6
    rw[htl]
    clear htl tl
    refine eU fun tl htl=>?_
    have c7:∀ (H7:Hp) (t:Addr) (n:Nt),Same H4 H7→ToldAt K H7 (.ref t) n→n.ok→n.dp≤4→(cnt rs at'=0→n.dp≤3)→tl DE [some (V.ref a),some (V.ref kl),some (V.int c),some (V.ref l),some (V.int (0+(i:Int))),some (V.int mo),some (V.ref pa),some (V.ref D),some (V.ref t),y9] H7:=by
     intro H7 t7 n7 S7 R7 o7 dp7 dz7
     rw[htl]
     clear htl tl
     trivial
     have dD7:=S7 _ _ dD
     have TA7:=(e4.trans S7) _ _ TA
     have big:(10:Int) ^ 9≤10 ^ 61:=by decide
     refine⟨cdiv (by decide) (by decide),_,.inl (SqL.of dD7),rN (by decide) (by decide) (by omega) (by omega),by decide,eV,fun p hp=>?_⟩
     have elast:1+(c / 8+37 * ((es.length:Nat):Int)) % 99=lastF c (cnt rs at'):=by
      rw[les]
      rfl
     rw[elast]
     obtain⟨H8,g8,S8,T8⟩:∃ H8,H8=upd H7 p (.tup [V.int (lastF c (cnt rs at'))])∧Same H7 H8∧H8 p=some (.tup [V.int (lastF c (cnt rs at'))]):=⟨_,rfl,bO hp _,aT⟩
     rw[← g8]
     clear g8
     refine⟨pa,p,_,_,rfl,rfl,S8 _ _ TA7,T8,Nat.le_trans (m:=64) (by rw[iz,G3]; omega) (by decide),fun p9 H9 S9 T9=>?_⟩
     have T9':H9 p9=some (.tup ((at'++[lastF c (cnt rs at')]).map V.int)):=by rw[T9,DH]; rfl
     have S39:=S4.trans (S7.trans (S8.trans S9))
     have dl9:=S39 _ _ dl
     obtain⟨z,hz,hz2⟩:∃ z:Str,[V.str (Dj "one"),V.str (Dj "near")][(mo / 64 % 2).toNat]?=some (.str z)∧(z = "one"∨z = "near"):=by
      have:mo / 64 % 2=0∨mo / 64 % 2=1:=by omega
      rcases this with e | e <;> rw[e]
      ·exact⟨_,rfl,.inl rfl⟩
      ·exact⟨_,rfl,.inr rfl⟩
     refine⟨.inl ⟨rfl,_,SqL.of dl9⟩,eV,cdiv (by decide) (by decide),by decide,by omega,_,hz,eV,fun p0 hp0=>?_⟩
     obtain⟨Ha,ga,Sa,Ta⟩:∃ Ha,Ha=upd H9 p0 (.tup [V.ref p9,V.ref t7,V.str z])∧Same H9 Ha∧Ha p0=some (.tup [V.ref p9,V.ref t7,V.str z]):=⟨_,rfl,bO hp0 _,aT⟩
     rw[← ga]
     clear ga
     have dla:=Sa _ _ dl9
     refine⟨_,dla,Nat.lt_of_lt_of_le (m:=64) (by omega) (by decide),?_⟩
     rw[hDE]
     show Pv (i+1) _ _
     rw[hP]
     have S3a:=S39.trans Sa
     have S7a:=(S8.trans S9).trans Sa
     refine⟨_,rs++[⟨at'++[lastF c (cnt rs at')],n7,z⟩],_,_,_,_,_,_,aT,?_,?_,by rw[Dp,li]; rfl,dI (e.trans S3a) hl _,rfl⟩
     ·refine iy (RowAt.ts ⟨p0,p9,t7,rfl,SqT.of Ta,Sa _ _ T9',R7.same S7a⟩ (TS.lst dla)) (RowsAt.ts (RowsAt.ts ra (TS.of S3a)) (TS.lst dla))
     ·exact yX gr (by omega) ha l3 o7 dp7 dz7 hz2
    trivial
    have dD6:=S6 _ _ dD
    refine⟨cdiv (by decide) (by decide),by decide,?_⟩
    have stay:=c7 H6 t6 n6 S6 R6 o6 (by omega) (fun _=>dp6)
    by_cases h1:1<mo / 16 % 4
    ·rw[if_pos h1]
     refine⟨_,.inl (SqL.of dD6),?_⟩
     by_cases h2:((es.length:Nat):Int)=1
     ·rw[if_pos h2]
      refine⟨eV,fun p hp=>?_⟩
      obtain⟨H7,g7,S7,T7⟩:=bN (K:=K) hp [V.str (Dj "any")]
      rw[← g7]
      clear g7
      have dD7:=S7 _ _ dD6
      obtain⟨x,hx⟩:∃ x,es[0]?=some x:=⟨_,Dm (by omega)⟩
      obtain⟨r,hr',hrow⟩:=gy (RowsAt.ts re (TS.of (S6.trans S7))) hx
      obtain⟨p',a',t',rfl,h2',h3',h4'⟩:=id hrow
      have mr:=FH.mp (Ds hr')
      have eu:upN r.num=at':=of_decide_eq_true mr.2
      obtain⟨j,hj,_,dj⟩:=gr.el r mr.1
      rw[eu] at hj
      have dr:=dj (by omega)
      have okr:=gr.ok r mr.1
      refine⟨_,SqL.of dD7,_,dX (j:=0) hx,_,rfl,_,h2',_,at1,eV,fun p8 hp8=>?_⟩
      obtain⟨H8,g8,S8,T8⟩:=bN (K:=K) hp8 [V.str (Dj "but"),V.ref p,V.ref t']
      rw[← g8]
      clear g8
      refine c7 H8 p8 (.but .any r.note) ((S6.trans S7).trans S8) (.tup T8 (.cons (.str _) (.cons (.tup (Same.tup S8 T7) (.cons (.str _) .nil)) (.cons (h4'.same S8) .nil)))) ⟨trivial,okr.1⟩ ?_ (fun z=>by omega)
      show max 1 r.note.dp+1≤4
      omega
     ·rw[if_neg h2]
      exact stay
    ·rw[if_neg h1]
     exact stay
   trivial
   refine⟨cdiv (by decide) (by decide),by decide,?_⟩
   by_cases h1:mo / 16 % 4=1
   ·rw[if_pos h1]
    refine⟨eV,fun p hp=>?_⟩
    obtain⟨H7,g7,S7,T7⟩:=bN (K:=K) hp [V.str (Dj "any")]
    rw[← g7]
    clear g7
    exact c6 H7 p .any (S5.trans S7) (.tup T7 (.cons (.str _) .nil)) trivial (by decide)
   ·rw[if_neg h1]
    exact c6 H5 t8 n5 S5 R5 o5 (by omega)
  trivial
  refine⟨eV,fun p hp=>?_⟩
  obtain⟨H3,g3,S3,L3⟩:∃ H3,H3=upd H2 p (.lst [])∧Same H2 H3∧H3 p=some (.lst []):=⟨_,rfl,bO hp _,aT⟩
  rw[← g3]
  clear g3
  have S23:=S2.trans S3
  have dl3:=S23 _ _ dl
  have ra3:=RowsAt.ts ra (TS.of S23)
  have keep:=c3 H3 p6 [] S23 (S3 _ _ T2) (.inl rfl) (by decide)
  refine⟨.list (rs.map rwD),.list [],.lst (SqL.of dl3) (sP ra3),.lst (SqL.of L3) .nil,(gr.toRsOk.mono (by decide)).flat,⟨by decide +kernel,by decide +kernel⟩,_,rfl,?_⟩
  by_cases hr0:rs=[]
  ·rw[if_neg (by rw[hr0]; decide)]
   exact keep
  ·rw[if_pos (by
    cases rs with
    | nil=>exact absurd rfl hr0
    | cons r rs=>rfl)]
   have r1:1≤rs.length:=by
    cases rs with
    | nil=>exact absurd rfl hr0
    | cons r rs=>simp
   refine⟨by decide,?_⟩
   by_cases hm2:mo % 2=1
   ·rw[if_pos hm2]
    have j0:=DB (mo / 2) (show (vs.length:Int)≠0 by omega)
    have j1:=Dv (mo / 2) (show (0:Int)<(vs.length:Int) by exact Oz81 lv r1)
    obtain⟨j,hj⟩:∃ j:Nat,mo / 2 % (vs.length:Int)=j:=⟨(mo / 2 % (vs.length:Int)).toNat,by exact Oz0 j0⟩
    obtain⟨x,hx⟩:∃ x,vs[j]?=some x:=⟨_,Dm (by exact Oz16 j1 hj)⟩
    obtain⟨r,hr,p',a',t',rfl,h2',h3',_⟩:=gy ra3 hx
    have mr:=Ds hr
    refine⟨cdiv (by decide) (by decide),_,.inl (SqL.of dl3),by exact Oz81 lv r1,_,SqL.of dl3,_,(by rw[hj]; exact dX hx),_,rfl,_,h2',_,at0,_,_,rfl,h3',fun p7 H4 S4 T4=>?_⟩
    rw[C9] at T4
    refine c3 H4 p7 _ (S23.trans S4) T4 ?_ (by rw[Dt]; omega)
    have ll:=gr.len r mr
    by_cases l4:r.num.length≤3
    ·rw[Dw l4]
     exact .inr (DZ.mpr ⟨r,mr,rfl⟩)
    ·have:r.num.take 3=upN r.num:=by
      unfold upN
      rw[G8,show r.num.length-1=3 by omega]
     rw[this]
     exact gr.up r mr
   ·rw[if_neg hm2]
    exact keep
 ·intro σ H' h
  rw[hP] at h
  obtain⟨vs,rs,y4,y5,y6,y7,y8,y9,dl,ra,gr,li,e,rfl⟩:=h
  trivial
  exact q _ vs rs _ e hl dl ra gr.toRsOk (by omega) (by omega)
end _I
variable {rs:List _I.Rw}
namespace _J
open _y _B _C _D _E _F _G _I PySem _l
noncomputable def top (i:Nat):Stmt:=PySem.Challenge.pw_tariffgate_k42_trees_refused.main.body.getD i (.Pass ⟨0,0,0,0⟩)
abbrev dP:Stmt:=top 58
def aB:ScV ["_law_rows_here","_law_cell","_law_at","_law_row"] ["_law_rows_here","_law_cell"] dP:=scv (by decide +kernel)
def RsOk.perm {d:Nat} {rs':List Rw} (h:RsOk d rs) (p:rs'.Perm rs):RsOk d rs' where
 nd:=(p.map Rw.num).nodup_iff.mpr h.nd
 len:=fun r hr=>h.len r (p.mem_iff.mp hr)
 part:=fun r hr=>h.part r (p.mem_iff.mp hr)
 up:=fun r hr=>(h.up r (p.mem_iff.mp hr)).imp id fun z=>(p.map Rw.num).mem_iff.mpr z
 ok:=fun r hr=>h.ok r (p.mem_iff.mp hr)
 rule:=fun r hr=>h.rule r (p.mem_iff.mp hr)
theorem lW {α β:Type} {R:α→β→Prop}:∀ (n:Nat) {xs:List α} {ys:List β},Paired R xs ys→Paired R (xs.take n) (ys.take n)
 | 0,_,_,_=>by rw[FW,FW]; exact .nil
 | n+1,_,_,.nil=>.nil
 | n+1,_,_,.cons r t=>.cons r (lW n t)
theorem lX {α β:Type} {R:α→β→Prop}:∀ (n:Nat) {xs:List α} {ys:List β},Paired R xs ys→Paired R (xs.drop n) (ys.drop n)
 | 0,_,_,h=>h
 | n+1,_,_,.nil=>.nil
 | n+1,_,_,.cons r t=>lX n t
theorem sV {α β:Type} {R:α→β→Prop} {xs':List α} {ys':List β} (h:Paired R xs' ys'):∀ {xs:List α} {ys:List β},Paired R xs ys→Paired R (xs++xs') (ys++ys')
 | _,_,.nil=>h
 | _,_,.cons r t=>.cons r (sV h t)
theorem sr {α β:Type} {R:α→β→Prop}:∀ {xs:List α} {ys:List β},Paired R xs ys→Paired R xs.reverse ys.reverse
 | _,_,.nil=>.nil
 | _,_,.cons r t=>by rw[GY,GY]; exact iy r (sr t)
def zT {n:Nat}:gC xs (some (n:Int)) none=xs.drop n:=by
 have e:_ht.sIx xs.length 0 (some (n:Int))=min n xs.length:=_ht.sIx_nat _ _ n
 unfold gC
 rw[e,_ht.sIx_none]
 by_cases h:n≤xs.length
 ·rw[Nat.min_eq_left h,Dw (by rw[ED]; exact Nat.le_refl _)]
 ·rw[Nat.min_eq_right (by exact Oz28 h),Ft (Nat.le_refl _),Ft (by exact Oz28 h),List.take_nil]
def oJ {n:Nat}:gC xs none (some (n:Int))=xs.take n:=by
 have e:_ht.sIx xs.length xs.length (some (n:Int))=min n xs.length:=_ht.sIx_nat _ _ n
 unfold gC
 rw[e,_ht.sIx_none,FF,Nat.sub_zero]
 by_cases h:n≤xs.length
 ·rw[Nat.min_eq_left h]
 ·rw[Nat.min_eq_right (by exact Oz28 h),Dw (Nat.le_refl _),Dw (by exact Oz28 h)]
def qi (K:cy):Sp:=fun vs H Q _=>∃ (l:Addr) (c:Int) (vs':List V) (rs:List Rw),vs=[.ref l,.int c]∧H l=some (.lst vs')∧RowsAt K H vs' rs∧1≤rs.length∧rs.length≤8 ∧
 ∀ (l':Addr) (us:List V) (rs':List Rw) (H':Hp),Same H H'→H l'=none→H' l'=some (.lst us)→RowsAt K H' us rs'→rs'.Perm rs→Q (.ref l') H'
def qJ (F:Fun K "_law_turned" "_law_turned" dP f fd) (M:Mg mg):FnOk P w K mg base CX0 1 f fd ["_law_rows_here","_law_cell"] (qi K):=by
 refine F.ok aB.fs (fun vs H Q E h=>?_) (fun cdv A outer s H vs Q E hr h=>?_)
 ·obtain⟨l,c,vs',rs,rfl,_⟩:=h
  rfl
 obtain⟨l,c,vs',rs,rfl,dl,ra,r1,r8,q⟩:=h
 have lv:vs'.length=rs.length:=DT ra
 refine⟨_,(`f (`h 2 aB (`d (@dF _) (`b 1 aB rfl) (`i cQ rfl M.m_len fM (`a (`b 0 aB rfl) `o (aN rfl)) aq rfl (aN rfl) aW)) rfl) (`f (`h 3 aB (`d (@jv _) (@gK _ _ _ _ _ _ _ _ _ _ (@kX _) (`b 0 aB rfl) (@gP _ _ _ (`b 2 aB rfl)) (@iA _)) (@gK _ _ _ _ _ _ _ _ _ _ (@kX _) (`b 0 aB rfl) (@iA _) (@gP _ _ _ (`b 2 aB rfl)))) rfl) (`f (`m (`k (@fk _) (`d (@dF _) (`d (@dY _) (`b 1 aB rfl) `c) `c) `c (dm _)) (`n (@gY _ _ _ _ (@BL _ _ _ _ _ _ _ _ _ DQ PySem.F.slot_list_reverse PySem.F.type_list_reverse xE (`b 3 aB rfl) (by rfl) (by rfl)) (fV rfl))) (@dw _)) (`n (`q (`b 3 aB rfl)))))),?_⟩
 trivial
 have j0:=DB c (show (vs'.length:Int)≠0 by exact Oz34 r1 lv)
 have j1:=Dv c (show (0:Int)<(vs'.length:Int) by exact Oz12 r1 lv)
 obtain⟨j,hj,lj⟩:∃ j:Nat,c % (vs'.length:Int)=j∧j≤vs'.length:=⟨(c % (vs'.length:Int)).toNat,by exact Oz0 j0,by omega⟩
 refine⟨_,.inl (SqL.of dl),by exact Oz12 r1 lv,_,SqL.of dl,fun p hp=>?_⟩
 rw[hj,zT]
 obtain⟨H1,g1,S1,L1⟩:∃ H1,H1=upd H p (.lst (vs'.drop j))∧Same H H1∧H1 p=some (.lst (vs'.drop j)):=⟨_,rfl,bO hp _,aT⟩
 rw[← g1]
 clear g1
 refine⟨_,SqL.of (S1 _ _ dl),fun p2 hp2=>?_⟩
 rw[oJ]
 obtain⟨H2,g2,S2,L2'⟩:∃ H2,H2=upd H1 p2 (.lst (vs'.take j))∧Same H1 H2∧H2 p2=some (.lst (vs'.take j)):=⟨_,rfl,bO hp2 _,aT⟩
 rw[← g2]
 clear g2
 refine⟨_,S2 _ _ L1,_,L2',Nat.le_trans (m:=64) (by rw[ED,Dt]; omega) (by decide),fun p3 hp3=>?_⟩
 obtain⟨H3,g3,S3,L3⟩:∃ H3,H3=upd H2 p3 (.lst (vs'.drop j++vs'.take j))∧Same H2 H3∧H3 p3=some (.lst (vs'.drop j++vs'.take j)):=⟨_,rfl,bO hp3 _,aT⟩
 rw[← g3]
 clear g3
 have S03:=(S1.trans S2).trans S3
 have n3:H p3=none:=(S1.trans S2).free hp3
 have ra3:=RowsAt.ts ra (TS.of S03)
 have rt:RowsAt K H3 (vs'.drop j++vs'.take j) (rs.drop j++rs.take j):=sV (lW j ra3) (lX j ra3)
 have pm:(rs.drop j++rs.take j).Perm rs:=List.perm_append_comm.trans (by rw[Jf])
 refine⟨cdiv (by decide) (by decide),by decide,?_⟩
 by_cases h1:c / 8 % 2=1
 ·rw[if_pos h1]
  refine⟨.inl ⟨rfl,_,SqL.of L3⟩,_,L3,?_⟩
  exact q _ _ _ _ (dI S03 n3 _) n3 aT (RowsAt.ts (sr rt) (TS.lst L3)) ((List.reverse_perm _).trans pm)
 ·rw[if_neg h1]
  exact q _ _ _ _ S03 n3 L3 rt pm
end _J
namespace _K
open _y _B _C _D _E _F _G _I _J PySem _l
noncomputable def top (i:Nat):Stmt:=PySem.Challenge.pw_tariffgate_k42_trees_refused.main.body.getD i (.Pass ⟨0,0,0,0⟩)
abbrev dQ:Stmt:=top 45
def dh:ScV ["thing"] ["thing"] dQ:=scv (by decide +kernel)
abbrev gg:Stmt:=top 46
def cP:ScV ["thing"] ["thing"] gg:=scv (by decide +kernel)
abbrev eJ:Stmt:=top 47
def aX:ScV ["numbers","number","above"] ["numbers","number"] eJ:=scv (by decide +kernel)
abbrev e7:Stmt:=top 48
def aY:ScV ["thing","numbers"] ["thing"] e7:=scv (by decide +kernel)
def okRule (z:Str):Prop:=z = "one"∨z = "near"
def okNum (k:List Int):Prop:=1≤k.length∧k.length≤4∧∀ x∈k,1≤x∧x≤99
def NumsAt (K:cy) (H:Hp) (vs:List V) (ks:List (List Int)):Prop:=Paired (fun v k=>∃ a:Addr,v=.ref a∧H a=some (.tup (k.map V.int))) vs ks
def NumsAt.ts {ks:List (List Int)} (h:NumsAt K H vs ks) (e:TS H H'):NumsAt K H' vs ks:=Paired.mapP h fun v k=>by rintro⟨a,h1,h2⟩; exact⟨a,h1,e.at h2⟩
def NumsAt.rep:∀ {vs:List V} {ks:List (List Int)},NumsAt K H vs ks→RepAll K H vs (ks.map gp)
 | _,_,.nil=>.nil
 | _,_,.cons ⟨a,e,h⟩ t=>by
  subst e
  exact .cons (i7 (SqT.of h)) (NumsAt.rep t)
theorem kP:∀ ks:List (List Int),Ea (ks.map gp)=true∧DO (ks.map gp)≤1
 | []=>⟨rfl,by show 0≤1; decide⟩
 | k::ks=>by
  obtain⟨a,b⟩:=kP ks
  have c:=iF k
  refine⟨?_,?_⟩
  ·show (DN (gp k) && Ea (ks.map gp))=true
   rw[c.1,a]
   rfl
  ·show max (DO (k.map PyData.int)+1) (DO (ks.map gp))≤1
   rw[(jR k).2]
   omega
theorem pY (k:List Int):∀ ks:List (List Int),((ks.map gp).countP fun z=>Eu z (gp k))=ks.count k
 | []=>rfl
 | c::ks=>by
  rw[D8,List.countP_cons,pY k ks,Je,jC]
  by_cases h:c=k
  ·rw[decide_eq_true h,if_pos rfl,if_pos (by rw[h]; exact beq_self_eq_true _)]
  ·rw[decide_eq_false h,if_neg (by decide),if_neg (by intro e; exact h (eq_of_beq e))]
inductive PickV (K:cy) (H:Hp):V→Bool→Prop
 | good {z:Str}:okRule z→PickV K H (.str z) true
 | bad {z:Str}:z = ""∨z = "both"→PickV K H (.str z) false
 | no {v:V} {k:Kn}:Kd K H v k→k≠.str→PickV K H v false
def PickV.same {b:Bool} (h:PickV K H v b) (e:Same H H'):PickV K H' v b:=by
 cases h with
 | good a=>exact .good a
 | bad a=>exact .bad a
 | no k n=>exact .no (iK e k) n
def NumV.same' {b:Bool} (h:NumV K H v b) (e:Same H H'):NumV K H' v b:=by
 cases h with
 | no k n=>exact .no (iK e k) n
 | tup T a=>exact .tup (Same.tup e T) fun x hx=>(a x hx).same e
def mC (K:cy):Sp:=fun vs H Q _=>∃ v b,vs=[v]∧PickV K H v b∧∀ H',Same H H'→Q (.bl b) H'
inductive RowV (K:cy) (H:Hp):V→Bool→Prop
 | no {v:V} {k:Kn}:Kd K H v k→k≠.tup→RowV K H v false
 | len {p:Addr} {xs:List V}:SqT K H p xs→xs.length≠3→RowV K H (.ref p) false
 | row {p:Addr} {x y z:V} {b c:Bool}:SqT K H p [x,y,z]→NumV K H x b→PickV K H z c→RowV K H (.ref p) (b && c)
def RowV.same {b:Bool} (h:RowV K H v b) (e:Same H H'):RowV K H' v b:=by
 cases h with
 | no k n=>exact .no (iK e k) n
 | len T l=>exact .len (Same.tup e T) l
 | row T n p=>exact .row (Same.tup e T) (NumV.same' n e) (p.same e)
def vg (K:cy):Sp:=fun vs H Q _=>∃ v b,vs=[v]∧RowV K H v b∧∀ H',Same H H'→Q (.bl b) H'
noncomputable def placeB (ks:List (List Int)) (k:List Int):Bool:=decide (ks.count k=1) && (decide (upN k=[]) || decide (upN k∈ks))
def oh (K:cy):Sp:=fun vs H Q _=>∃ (l a:Addr) (us:List V) (ks:List (List Int)) (k:List Int),vs=[.ref l,.ref a]∧SqL K H l us∧NumsAt K H us ks∧1≤k.length∧ks.length≤25∧H a=some (.tup (k.map V.int))∧∀ H',Same H H'→Q (.bl (placeB ks k)) H'
structure Rk where
 num:List Int
 nv:V
 rule:Str
def v7 (K:cy) (H:Hp) (v:V) (r:Rk):Prop:=∃ p a:Addr,v=.ref p∧SqT K H p [.ref a,r.nv,.str r.rule]∧H a=some (.tup (r.num.map V.int))
def RksAt (K:cy) (H:Hp) (vs:List V) (rs:List Rk):Prop:=Paired (v7 K H) vs rs
def RksAt.ts {rs:List Rk} (h:RksAt K H vs rs) (e:TS H H'):RksAt K H' vs rs:=Paired.mapP h fun v r=>by rintro⟨p,a,h1,h2,h3⟩; exact⟨p,a,h1,e.tup h2,e.at h3⟩
def sD {a:Addr} {k:List Int} (h:H a=some (.tup (k.map V.int))) (ok:okNum k):NumV K H (.ref a) true:=by
 have e:(prefB (k.map V.int) && decide (1≤(k.map V.int).length))=true:=by
  obtain⟨k1,k4,kp⟩:=ok
  unfold prefB
  rw[iz,decide_eq_true k4,decide_eq_true k1,Bool.and_true,Fy,Ek]
  intro x hx
  obtain⟨i,hi,rfl⟩:=DZ.mp hx
  exact decide_eq_true (kp i hi)
 rw[← e]
 refine .tup (SqT.of h) fun x hx=>?_
 obtain⟨i,_,rfl⟩:=DZ.mp hx
 exact⟨.int,rfl⟩
def A2 {r:Rk} (h:v7 K H v r) (ok:okNum r.num) (rl:okRule r.rule):RowV K H v true:=by
 obtain⟨p,a,rfl,h2,h3⟩:=h
 exact .row (b:=true) (c:=true) h2 (sD h3 ok) (.good rl)
inductive RowsV (K:cy) (H:Hp):V→Bool→Prop
 | no {v:V} {k:Kn}:Kd K H v k→k≠.lst→RowsV K H v false
 | len {l:Addr} {xs:List V}:SqL K H l xs→(xs.length<1∨24<xs.length)→xs.length≤25→RowsV K H (.ref l) false
 | bad {l:Addr} {xs:List V} {bs:List Bool}:SqL K H l xs→1≤xs.length→xs.length≤24→Paired (RowV K H) xs bs→false∈bs→RowsV K H (.ref l) false
 | rows {l:Addr} {xs:List V} {rs:List Rk}:SqL K H l xs→1≤xs.length→xs.length≤24→RksAt K H xs rs→(∀ r∈rs,okNum r.num∧okRule r.rule)→RowsV K H (.ref l) ((rs.map Rk.num).all (placeB (rs.map Rk.num)))
def RowsV.same {b:Bool} (h:RowsV K H v b) (e:Same H H'):RowsV K H' v b:=by
 cases h with
 | no k n=>exact .no (iK e k) n
 | len L a c=>exact .len (e.seq L) a c
 | bad L a c pr m=>exact .bad (e.seq L) a c (Paired.mapP pr fun v b h=>h.same e) m
 | rows L a c ra ok=>exact .rows (e.seq L) a c (ra.ts (TS.of e)) ok
def qE (K:cy):Sp:=fun vs H Q _=>∃ v b,vs=[v]∧RowsV K H v b∧∀ H',Same H H'→Q (.bl b) H'
def j8 {k:Kn} (h:k≠.str):fN k .str=false:=by
 cases k <;> first | rfl | exact absurd rfl h
def wc {k:Kn} (h:k≠.lst):fN k .lst=false:=by
 cases k <;> first | rfl | exact absurd rfl h
theorem nR {K:cy} {H:Hp}:∀ {xs:List V} {rs:List Rk},RksAt K H xs rs→(∀ r∈rs,okNum r.num∧okRule r.rule)→Paired (RowV K H) xs (rs.map fun _=>true)
 | _,_,.nil,_=>.nil
 | _,_,.cons h t,ok=>.cons (A2 h (ok _ (.head _)).1 (ok _ (.head _)).2) (nR t fun r hr=>ok r (.tail _ hr))
def qO (F:Fun K "is_picking" "is_picking" dQ f fd) (M:Mg mg):FnOk P w K mg base CX0 1 f fd ["thing"] (mC K):=by
 refine F.ok dh.fs (fun vs H Q E h=>?_) (fun cdv A outer s H vs Q E hr h=>?_)
 ·obtain⟨v,b,rfl,_⟩:=h
  rfl
 obtain⟨v,b,rfl,N,q⟩:=h
 refine⟨_,(`n (`q (@jL _ _ _ _ _ _ _ (`i gB rfl M.m_isinstance fj (`a (`b 0 dh rfl) (`a (@gH _ _ (.ty "str") _ _ rfl M.m_str qV rfl eR rfl) `o (aN rfl)) (aN rfl)) ar rfl (aN rfl) (cg rfl aW)) (@jo _ _ _ _ _ (@ig _ _ _ _ _ _ _ _ mD (`b 0 dh rfl) (`j (`a `p (`a `p `o (aN rfl)) (aN rfl))) (by with_unfolding_all rfl)))))),?_⟩
 trivial
 have lst:∀ {z:Str} {b:Bool},(z = "one"∨z = "near"∨z = ""∨z = "both")→b=decide (z = "one"∨z = "near")→(if false=true then !inV (V.str z) [V.str (Dj "one"),V.str (Dj "near")] else inV (V.str z) [V.str (Dj "one"),V.str (Dj "near")])=b:=fun {z b} h e=>by
  rw[e]
  rcases h with rfl | rfl | rfl | rfl <;> decide +kernel
 cases N with
 | no kd hk =>
  refine⟨_,kd,?_⟩
  rw[if_neg (by rw[j8 hk]; decide)]
  exact q _ (Same.refl _)
 | @good z hz =>
  refine⟨.str,rfl,?_⟩
  rw[if_pos (by decide)]
  refine⟨eV,fun p hp=>⟨p,_,rfl,.inr (SqT.of aT),rfl,rfl,?_⟩⟩
  rw[lst (b:=true) (by rcases hz with h | h <;> simp [h]) (by rcases hz with h | h <;> simp [h])]
  exact q _ (bO hp _)
 | @bad z hz =>
  refine⟨.str,rfl,?_⟩
  rw[if_pos (by decide)]
  refine⟨eV,fun p hp=>⟨p,_,rfl,.inr (SqT.of aT),rfl,rfl,?_⟩⟩
  rw[lst (b:=false) (by rcases hz with h | h <;> simp [h]) (by rcases hz with rfl | rfl <;> decide +kernel)]
  exact q _ (bO hp _)
def yo (F:Fun K "is_row" "is_row" gg f fd) (M:Mg mg) (eK:Cal P w K mg base CX0 "is_number" 3 ["thing"] (nW K)) (bg:Cal P w K mg base CX0 "is_picking" 1 ["thing"] (mC K)):FnOk P w K mg base CX0 4 f fd ["thing"] (vg K):=by
 refine F.ok cP.fs (fun vs H Q E h=>?_) (fun cdv A outer s H vs Q E hr h=>?_)
 ·obtain⟨v,b,rfl,_⟩:=h
  rfl
 obtain⟨v,b,rfl,N,q⟩:=h
 refine⟨_,(`f (`m (@PW.pt _ _ _ (@jr _ _ _ _ _ _ _ (@gc _ _ _ _ (@fP _ _ _ (`i gB rfl M.m_isinstance fj (`a (`b 0 cP rfl) (`a (@gH _ _ (.ty "tuple") _ _ rfl M.m_tuple iN rfl aL rfl) `o (aN rfl)) (aN rfl)) ar rfl (aN rfl) (cg rfl aW)) (fZ rfl))) (@jt _ _ _ _ (`k (@nT _) (`i cQ rfl M.m_len fM (`a (`b 0 cP rfl) `o (aN rfl)) aq rfl (aN rfl) aW) `c (dm _))))) (`n (`q (@fY _ _ _ _))) (@dw _)) (`n (`q (@jL _ _ _ _ _ _ _ (`e eK hr rfl (`a (`g (@ix_tup _) (`b 0 cP rfl) `c (fun _ _=>rfl)) `o (aN rfl)) (by decide) rfl (aN rfl) aW) (@jo _ _ _ _ _ (`e bg hr rfl (`a (`g (@ix_tup _) (`b 0 cP rfl) `c (fun _ _=>rfl)) `o (aN rfl)) (by decide) rfl (aN rfl) aW)))))),?_⟩
 trivial
 cases N with
 | no kd hk =>
  refine⟨_,kd,?_⟩
  rw[if_pos (jI hk)]
  exact q _ (Same.refl _)
 | len T hl =>
  refine⟨_,Kd.tup T,?_⟩
  rw[if_neg (by decide)]
  refine⟨_,rfl,_,.inr T,?_⟩
  rw[if_neg (by omega)]
  exact q _ (Same.refl _)
 | @row p x y z b c T n1 n2 =>
  refine⟨_,Kd.tup T,?_⟩
  rw[if_neg (by decide)]
  refine⟨_,rfl,_,.inr T,?_⟩
  rw[if_pos (show (([x,y,z].length:Nat):Int)=3 from rfl)]
  refine⟨_,rfl,_,T,_,rfl,_,_,rfl,n1,fun H1 e1=>⟨_,rfl,?_⟩⟩
  cases b with
  | true =>
   rw[if_pos rfl]
   exact⟨_,rfl,_,Same.tup e1 T,_,rfl,_,_,rfl,n2.same e1,fun H2 e2=>q _ (e1.trans e2)⟩
  | false =>
   rw[if_neg (by decide)]
   exact q _ e1
def rL (F:Fun K "has_place" "has_place" eJ f fd) (M:Mg mg):FnOk P w K mg base CX0 1 f fd ["numbers","number"] (oh K):=by
 refine F.ok aX.fs (fun vs H Q E h=>?_) (fun cdv A outer s H vs Q E hr h=>?_)
 ·obtain⟨l,a,us,ks,k,rfl,_⟩:=h
  rfl
 obtain⟨l,a,us,ks,k,rfl,hL,hN,k1,k24,ha,q⟩:=h
 refine⟨_,(`f (`h 2 aX (@gK _ _ _ _ _ _ _ _ _ _ (kE rfl) (`b 1 aX rfl) (@iA _) (@gP _ _ _ (@kI _ _ _ _ _ _ (@jO _) `c))) rfl) (`n (`q (@jL _ _ _ _ _ _ _ (@ig _ _ _ _ _ _ _ _ (@fk _) (@iG _ _ _ _ _ _ _ _ _ _ _ _ DQ ID IE (qH (K:=K) rfl (jk hr)) (`b 0 aX rfl) (`a (`b 1 aX rfl) `o (aN rfl)) (by rfl) (by rfl) (by rfl) (by rfl) (by rfl)) `c (dm _)) (@jo _ _ _ _ _ (@C0 _ _ _ _ _ _ _ (@ig _ _ _ _ _ _ _ _ (nY (jk hr)) (`b 2 aX rfl) (`j `o) (dm _)) (@jo _ _ _ _ _ (@ig _ _ _ _ _ _ _ _ (BW (jk hr)) (`b 2 aX rfl) (`b 0 aX rfl) (by with_unfolding_all rfl))))))))),?_⟩
 obtain⟨f1,f2⟩:=kP ks
 have fl:iC (.list (ks.map gp)):=⟨f1,by show DO (ks.map gp)+1≤40; exact Oz31 f2⟩
 trivial
 refine⟨_,_,rfl,SqT.of ha,fun p1 H1 S1 T1=>?_⟩
 rw[wQ k1] at T1
 have rl:Rep K H1 (.ref l) (.list (ks.map gp)):=.lst (S1.seq hL) (hN.ts (TS.of S1)).rep
 refine⟨.inl ⟨rfl,_,S1.seq hL⟩,l,_,gp k,_,rfl,rfl,i7 (SqT.of (S1 _ _ ha)),rl,iF k,fl,rfl,?_⟩
 rw[pY]
 by_cases c1:ks.count k=1
 ·have pl:placeB ks k=(decide (upN k=[]) || decide (upN k∈ks)):=by
   unfold placeB
   rw[decide_eq_true c1,Fy]
  rw[pl] at q
  rw[if_pos (show V.int ((ks.count k:Nat):Int)=V.int 1 by rw[c1]; rfl)]
  refine⟨eV,fun p2 hp2=>?_⟩
  obtain⟨H2,g2,S2,T2⟩:=bN (K:=K) hp2 []
  rw[← g2]
  clear g2
  refine⟨_,gp [],i7 (Same.tup S2 T1),i7 T2,iF _,iF _,_,rfl,?_⟩
  rw[if_neg (show ¬ (false=true) from DC),jC]
  by_cases e0:upN k=[]
  ·rw[if_pos (decide_eq_true e0)]
   rw[decide_eq_true e0,Bool.true_or] at q
   exact q _ (S1.trans S2)
  ·rw[if_neg (by rw[decide_eq_false e0]; decide)]
   rw[decide_eq_false e0,Ir] at q
   refine⟨l,_,_,rfl,i7 (Same.tup S2 T1),.inl (rl.same S2),iF _,fl,?_⟩
   rw[if_neg (show ¬ (false=true) from DC)]
   have ea:((ks.map gp).any fun y=>Eu y (gp (upN k)))=decide (upN k∈ks):=by
    rw[JX,FI,List.any_eq_true,decide_eq_true_iff]
    refine⟨fun ⟨y,hy,h⟩=>?_,fun h=>⟨_,h,?_⟩⟩
    ·have h':Eu (gp y) (gp (upN k))=true:=h
     rw[jC] at h'
     rw[← of_decide_eq_true h']
     exact hy
    ·show Eu (gp (upN k)) (gp (upN k))=true
     rw[jC]
     exact decide_eq_true rfl
   rw[ea]
   exact q _ (S1.trans S2)
 ·have pl:placeB ks k=false:=by
   unfold placeB
   rw[decide_eq_false c1,FA]
  rw[pl] at q
  rw[if_neg (fun z=>c1 (by injection z with z; exact Oz78 z))]
  exact q _ S1
def tR (F:Fun K "are_rows" "are_rows" e7 f fd) (M:Mg mg) (gh:Cal P w K mg base CX0 "is_row" 4 ["thing"] (vg K)) (eL:Cal P w K mg base CX0 "has_place" 1 ["numbers","number"] (oh K)):FnOk P w K mg base CX0 5 f fd ["thing"] (qE K):=by
 refine F.ok aY.fs (fun vs H Q E h=>?_) (fun cdv A outer s H vs Q E hr h=>?_)
 ·obtain⟨v,b,rfl,_⟩:=h
  rfl
 obtain⟨v,b,rfl,N,q⟩:=h
 refine⟨_,(`f (`m (@PW.pt _ _ _ (@jr _ _ _ _ _ _ _ (@gc _ _ _ _ (@fP _ _ _ (`i gB rfl M.m_isinstance fj (`a (`b 0 aY rfl) (`a (@gH _ _ (.ty "list") _ _ rfl M.m_list kr rfl a8 rfl) `o (aN rfl)) (aN rfl)) ar rfl (aN rfl) (cg rfl aW)) (fZ rfl))) (@jt _ _ _ _ (@gc _ _ _ _ (@lM _ _ _ _ _ _ _ _ _ _ _ _ j6 j6 `c (`i cQ rfl M.m_len fM (`a (`b 0 aY rfl) `o (aN rfl)) aq rfl (aN rfl) aW) `c (by with_unfolding_all rfl)))))) (`n (`q (@fY _ _ _ _))) (@dw _)) (`f (`m (@gc _ _ _ _ (@fP _ _ _ (`i (jm rfl) rfl M.m_all mZ (`a (`r rfl (CompOk.make (N':=["row"]) (ix:=[]) (nl:=1) (by rfl) fm0 (by rfl) (by decide +kernel) rfl (by decide +kernel) rfl DY) (@gw _ _ _ _ (`b 0 aY rfl)) (fun _ _ _ _ _=>(@dH _ _ 0 _ (show D5 (["row"]:List Str) from by decide) rfl (Or.inl rfl) (by first | exact .inl rfl | exact .inr rfl | assumption))) (fun _ _ _ _ _=>(@gx _)) (fun _ _ _ _ _=>(`e gh hr rfl (`a (@pv _ 0 _ _ (by rfl) (by decreasing_trivial) (by decide) (by decide)) `o (aN rfl)) (by decide) rfl (aN rfl) aW)) (by intro _; rfl)) `o (aN rfl)) dG rfl (aN rfl) aW) (fZ rfl))) (`n (`q (@fY _ _ _ _))) (@dw _)) (`f (@zk _ _ 1 _ _ _ _ aY.nd rfl (ScV.loc aY 1 rfl) (`r rfl (CompOk.make (N':=["row"]) (ix:=[]) (nl:=1) (by rfl) fm0 (by rfl) (by decide +kernel) rfl (by decide +kernel) rfl DY) (@gw _ _ _ _ (`b 0 aY rfl)) (fun _ _ _ _ _=>(@dH _ _ 0 _ (show D5 (["row"]:List Str) from by decide) rfl (Or.inl rfl) (by first | exact .inl rfl | exact .inr rfl | assumption))) (fun _ _ _ _ _=>(@gx _)) (fun _ _ _ _ _=>(`g (gG (K:=K) rfl) (@pv _ 0 _ _ (by rfl) (by decreasing_trivial) (by decide) (by decide)) `c (fun _ _=>rfl))) (by intro _; rfl)) (by rfl) (.inl rfl)) (`n (`q (`i (jm rfl) rfl M.m_all mZ (`a (`r rfl (CompOk.make (N':=["numbers","number"]) (ix:=[1]) (nl:=1) (by rfl) (fm1 rfl fm0) (by rfl) (by decide +kernel) rfl (by decide +kernel) rfl (EH ⟨rfl,.inl rfl,.inl rfl⟩ DY)) (@gw _ _ _ _ (`b 1 aY rfl)) (fun _ _ _ _ _=>(@dH _ _ 1 _ (show D5 (["numbers","number"]:List Str) from by decide) rfl (Or.inl rfl) (by first | exact .inl rfl | exact .inr rfl | assumption))) (fun _ _ _ _ _=>(@gx _)) (fun _ _ _ _ _=>(`e eL hr rfl (`a (@pv _ 0 _ _ (by rfl) (by decreasing_trivial) (by decide) (by decide)) (`a (@pv _ 1 _ _ (by rfl) (by decreasing_trivial) (by decide) (by decide)) `o (aN rfl)) (aN rfl)) (by decide) rfl (aN rfl) (cg rfl aW))) (by intro _; rfl)) `o (aN rfl)) dG rfl (aN rfl) aW)))))),?_⟩
 refine eU fun tl htl=>?_
 have step:∀ {l:Addr} {xs:List V} {bs:List Bool},SqL K H l xs→1≤xs.length→xs.length≤24→Paired (RowV K H) xs bs→((bs.all id=false∧b=false)∨(bs.all id=true∧∃ rs,RksAt K H xs rs∧(∀ r∈rs,okNum r.num∧okRule r.rule)∧b=(rs.map Rk.num).all (placeB (rs.map Rk.num))))→tl { nx:=fun x H'=>Q V.non H',rt:=Q } [some (V.ref l),none] H:=fun {l xs bs} hL h1 h24 pr alt=>by
  have lb:xs.length=bs.length:=DT pr
  rw[htl]
  clear htl tl
  refine eU fun tl htl=>?_
  trivial
  refine⟨⟨_,hL⟩,fun D hD=>?_⟩
  obtain⟨Pc,hC⟩:∃ Pc:Nat→St→Hp→Prop,Pc=fun j τ H1=>∃ z,H1 D=some (.lst ((bs.take j).map V.bl))∧Same H H1∧τ=[z]:=⟨_,rfl⟩
  refine fR xs Pc ?_ (fun j τ H1 _ h=>by rw[hC] at h; obtain⟨_,_,e,_⟩:=h; exact e.seq hL) ?_ ?_
  ·rw[hC]
   exact⟨_,aT,bO hD _,rfl⟩
  ·intro j v τ H1 R' hv h next
   rw[hC] at h
   obtain⟨z,dD,e,rfl⟩:=h
   have lj:=(yp.mp hv).1
   obtain⟨c,hc,hrow⟩:=gy pr hv
   trivial
   refine⟨v,c,rfl,hrow.same e,fun H2 S2=>?_⟩
   refine⟨_,S2 _ _ dD,Nat.lt_of_lt_of_le (m:=64) (by rw[iz,Dt]; omega) (by decide),next _ _ ?_⟩
   rw[hC]
   exact⟨_,by rw[aT,E1,hc,DH]; rfl,dI (e.trans S2) hD _,rfl⟩
  intro τ H1 h
  rw[hC] at h
  obtain⟨z,dD,e,rfl⟩:=h
  clear hC Pc
  rw[lb,EW] at dD
  refine⟨_,rfl,_,SqL.of dD,?_⟩
  rcases alt with ⟨a0,rfl⟩ | ⟨a1,rs,ra,ok,rfl⟩
  ·rw[if_pos a0]
   exact q _ e
  rw[if_neg (by rw[a1]; decide)]
  have lu:xs.length=rs.length:=DT ra
  show tl _ _ _
  rw[htl]
  clear htl tl
  trivial
  refine⟨⟨_,e.seq hL⟩,fun D2 hD2=>?_⟩
  obtain⟨Pc,hC⟩:∃ Pc:Nat→St→Hp→Prop,Pc=fun j τ H2=>∃ (ns:List V) (z:Option V),H2 D2=some (.lst ns)∧NumsAt K H2 ns ((rs.map Rk.num).take j)∧Same H1 H2∧τ=[z]:=⟨_,rfl⟩
  refine fR xs Pc ?_ (fun j τ H2 _ h=>by rw[hC] at h; obtain⟨_,_,_,_,e2,_⟩:=h; exact (e.trans e2).seq hL) ?_ ?_
  ·rw[hC]
   exact⟨[],_,aT,.nil,bO hD2 _,rfl⟩
  ·intro j v τ H2 R' hv h next
   rw[hC] at h
   obtain⟨ns,z,dD2,na,e2,rfl⟩:=h
   have lj:=(yp.mp hv).1
   obtain⟨r,hr',hrow⟩:=gy (RksAt.ts ra (TS.of (e.trans e2))) hv
   obtain⟨p',a',rfl,h2',h3'⟩:=id hrow
   have ln:ns.length≤24:=by
    have:=DT na
    rw[this,Dt,iz]
    omega
   trivial
   refine⟨_,h2',_,at0,_,dD2,Nat.lt_of_lt_of_le (m:=64) (by exact Oz51 ln) (by decide),next _ _ ?_⟩
   rw[hC]
   refine⟨ns++[.ref a'],_,aT,?_,dI e2 hD2 _,rfl⟩
   rw[E1,Dq,hr']
   exact iy ⟨a',rfl,(TS.lst dD2).at h3'⟩ (na.ts (TS.lst dD2))
  intro τ H2 h
  rw[hC] at h
  obtain⟨ns,z,dD2,na,e2,rfl⟩:=h
  clear hC Pc
  rw[lu,Dw (by rw[iz]; exact Nat.le_refl _)] at na
  have ln:ns.length=rs.length:=by rw[DT na,iz]
  refine⟨_,rfl,⟨_,SqL.of dD2⟩,fun D3 hD3=>?_⟩
  obtain⟨nu,hnu⟩:∃ nu,nu=rs.map Rk.num:=⟨_,rfl⟩
  rw[← hnu] at na q
  have lnu:nu.length=rs.length:=by rw[hnu,iz]
  obtain⟨Pc,hC⟩:∃ Pc:Nat→St→Hp→Prop,Pc=fun j τ H3=>∃ z,H3 D3=some (.lst (((nu.take j).map (placeB nu)).map V.bl))∧Same H2 H3∧τ=[some (.ref D2),z]:=⟨_,rfl⟩
  refine fR ns Pc ?_ (fun j τ H3 _ h=>by rw[hC] at h; obtain⟨_,_,e3,_⟩:=h; exact SqL.of (e3 _ _ dD2)) ?_ ?_
  ·rw[hC]
   exact⟨_,aT,bO hD3 _,rfl⟩
  ·intro j v τ H3 R' hv h next
   rw[hC] at h
   obtain⟨z,dD3,e3,rfl⟩:=h
   have lj:=(yp.mp hv).1
   have na3:=na.ts (TS.of e3)
   obtain⟨k,hk,a',rfl,h3'⟩:=gy na3 hv
   have mk:=Ds hk
   have k1:1≤k.length:=by
    rw[hnu] at mk
    obtain⟨r,mr,rfl⟩:=DZ.mp mk
    exact (ok r mr).1.1
   trivial
   refine⟨D2,a',ns,nu,k,rfl,SqL.of (e3 _ _ dD2),na3,k1,by omega,h3',fun H4 S4=>?_⟩
   refine⟨_,S4 _ _ dD3,Nat.lt_of_lt_of_le (m:=64) (by rw[iz,iz,Dt]; omega) (by decide),next _ _ ?_⟩
   rw[hC]
   refine⟨_,?_,dI (e3.trans S4) hD3 _,rfl⟩
   rw[aT,E1,hk,DH,DH]
   rfl
  intro τ H3 h
  rw[hC] at h
  obtain⟨z,dD3,e3,rfl⟩:=h
  rw[ln,← lnu,EW] at dD3
  refine⟨_,rfl,_,SqL.of dD3,?_⟩
  rw[HS]
  exact q _ ((e.trans e2).trans e3)
 trivial
 cases N with
 | no kd hk =>
  refine⟨_,kd,?_⟩
  rw[if_pos (wc hk)]
  exact q _ (Same.refl _)
 | @len l xs hL hl h25 =>
  refine⟨_,Kd.lst hL,?_⟩
  rw[if_neg (by decide)]
  refine⟨l,rfl,_,.inl hL,?_⟩
  rcases hl with hl | hl
  ·rw[if_neg (by omega)]
   exact q _ (Same.refl _)
  ·rw[if_pos (by omega),if_neg (by omega)]
   exact q _ (Same.refl _)
 | @bad l xs bs hL h1 h24 pr mb =>
  refine⟨_,Kd.lst hL,?_⟩
  rw[if_neg (by decide)]
  refine⟨l,rfl,_,.inl hL,?_⟩
  rw[if_pos (by exact Oz39 h1),if_pos (by exact Oz118 h24)]
  have z:bs.all id=false:=by
   rw[Ih]
   intro z
   exact absurd (Ek.mp z _ mb) (by decide)
  exact step hL h1 h24 pr (.inl ⟨z,rfl⟩)
 | @rows l xs rs hL h1 h24 ra ok =>
  refine⟨_,Kd.lst hL,?_⟩
  rw[if_neg (by decide)]
  refine⟨l,rfl,_,.inl hL,?_⟩
  rw[if_pos (by exact Oz39 h1),if_pos (by exact Oz118 h24)]
  exact step (bs:=rs.map fun _=>true) hL h1 h24 (nR ra ok) (.inr ⟨by simp,rs,ra,ok,rfl⟩)
end _K
namespace _L
open _y _B _C _D _E _F _G _I _J _K PySem _l
noncomputable def top (i:Nat):Stmt:=PySem.Challenge.pw_tariffgate_k42_trees_refused.main.body.getD i (.Pass ⟨0,0,0,0⟩)
abbrev dR:Stmt:=top 49
def fh:ScV ["note","kinds","looks"] ["note","kinds","looks"] dR:=scv (by decide +kernel)
def nS (K:cy) (cs:NC) (C:Addr) (sp:Sp):Prop:=∃ j,j<8∧C=jn cs j∧sp=lP K cs
def Bh {cs:NC} {a:Addr} {n:Nt} (O:ObjN K cs H a n):∃ C dx fs,H a=some (.ins C dx fs)∧fs.lookup ("claims":Str)=none∧nS K cs C (lP K cs):=by
 cases n with
 | any=>obtain⟨dx,h⟩:=O; exact⟨_,_,_,h,rfl,0,by decide,rfl,rfl⟩
 | made s=>obtain⟨dx,h⟩:=O; exact⟨_,_,_,h,rfl,1,by decide,rfl,rfl⟩
 | used s=>obtain⟨dx,h⟩:=O; exact⟨_,_,_,h,rfl,2,by decide,rfl,rfl⟩
 | chief s=>obtain⟨dx,h⟩:=O; exact⟨_,_,_,h,rfl,3,by decide,rfl,rfl⟩
 | over k1 k2=>obtain⟨dx,_,_,h,_⟩:=O; exact⟨_,_,_,h,rfl,4,by decide,rfl,rfl⟩
 | both x y=>obtain⟨dx,_,_,h,_⟩:=O; exact⟨_,_,_,h,rfl,5,by decide,rfl,rfl⟩
 | either x y=>obtain⟨dx,_,_,h,_⟩:=O; exact⟨_,_,_,h,rfl,6,by decide,rfl,rfl⟩
 | but x y=>obtain⟨dx,_,_,h,_⟩:=O; exact⟨_,_,_,h,rfl,7,by decide,rfl,rfl⟩
def BO {n:Nat} (a:1≤n) (b:n≤4):∀ r∈LK n,r.length=n∧(∀ x∈r,0≤x)∧_mthl.look r=r∧∃ x∈r,0<x:=four (p:=fun n=>∀ r∈LK n,r.length=n∧(∀ x∈r,0≤x)∧_mthl.look r=r∧∃ x∈r,0<x) (by decide +kernel) (by decide +kernel) (by decide +kernel) (by decide +kernel) a b
noncomputable def cntL (ks:List Kd2) (n:Nt) (L:List (List Int)):Nat:=(L.filter fun lk=>dz ks lk n).length
structure KdAt (K:cy) (H:Hp) (kl:Addr) (ks:List Kd2):Prop where
 kx:∃ xs,SqL K H kl xs∧KnA K H xs ks
 pos:1≤ks.length
 le:ks.length≤4
 ok:∀ k∈ks,okKind k
def KdAt.same {ks:List Kd2} (h:KdAt K H kl ks) (e:Same H H'):KdAt K H' kl ks:=⟨let ⟨xs,a,b⟩:=h.kx; ⟨xs,e.seq a,b.same e⟩,h.pos,h.le,h.ok⟩
def KdAt.ground {lt:Addr} {ks:List Kd2} (h:KdAt K H kl ks) (T:SqT K H lt (lk.map V.int)) (len:lk.length=ks.length) (nn:∀ x∈lk,0≤x):Ground K H kl lt ks lk:=⟨h.kx,T,len,h.pos,h.le,h.ok,nn⟩
def ng (K:cy) (cs:NC):Sp:=fun vs H Q _=>∃ (a kl ll:Addr) (us:List V) (n:Nt) (ks:List Kd2) (L:List (List Int)),vs=[.ref a,.ref kl,.ref ll]∧ObjN K cs H a n∧n.ok∧n.dp≤5∧KdAt K H kl ks∧SqL K H ll us∧Tps K H us L∧L.length≤1000∧(∀ lk∈L,lk.length=ks.length∧∀ x∈lk,0≤x)∧∀ H',Same H H'→Q (.int (cntL ks n L:Nat)) H'
def yh {ks:List Kd2} {n:Nt} {L:List (List Int)} {j:Nat} (h:L[j]?=some lk):cntL ks n (L.take (j+1))=cntL ks n (L.take j)+if dz ks lk n=true then 1 else 0:=by
 unfold cntL
 rw[E1,h,EC,Dp]
 show _+([lk].filter _).length=_
 by_cases e:dz ks lk n=true
 ·rw[if_pos e,Ex (by exact e)]
  rfl
 ·rw[if_neg e,Em (by exact e)]
  rfl
section
variable {cs:NC}
def qL (F:Fun K "claimed_of" "claimed_of" dR f fd) (M:Mg mg) (D_claims:∀ C sp,nS K cs C sp→Disp P w K mg base "claims" 9 ["self","kinds","look"] C sp):FnOk P w K mg base CX0 10 f fd ["note","kinds","looks"] (ng K cs):=by
 refine F.ok fh.fs (fun vs H Q E h=>?_) (fun cdv A outer s H vs Q E hr h=>?_)
 ·obtain⟨a,kl,ll,us,n,ks,L,rfl,_⟩:=h
  rfl
 obtain⟨a,kl,ll,us,n,ks,L,rfl,O,okn,dp,kd,hL,tp,l1,lks,q⟩:=h
 have lu:=Tps.len tp
 refine⟨_,(`n (`q (`i cQ rfl M.m_len fM (`a (`r rfl (CompOk.make (N':=["kinds","note","look"]) (ix:=[1,0]) (nl:=1) (by rfl) (fm1 rfl (fm1 rfl fm0)) (by rfl) (by decide +kernel) rfl (by decide +kernel) rfl (EH ⟨rfl,.inl rfl,.inl rfl⟩ (EH ⟨rfl,.inl rfl,.inl rfl⟩ DY))) (@gw _ _ _ _ (`b 2 fh rfl)) (fun _ _ _ _ _=>(@dH _ _ 2 _ (show D5 (["kinds","note","look"]:List Str) from by decide) rfl (Or.inl rfl) (by first | exact .inl rfl | exact .inr rfl | assumption))) (fun _ _ _ _ _=>(@iO _ _ _ (@fP _ _ _ (@iX _ _ _ _ _ _ _ _ _ _ _ _ _ _ (@pv _ 1 _ _ (by rfl) (by decreasing_trivial) (by decide) (by decide)) D_claims hr (`a (@pv _ 0 _ _ (by rfl) (by decreasing_trivial) (by decide) (by decide)) (`a (@pv _ 2 _ _ (by rfl) (by decreasing_trivial) (by decide) (by decide)) `o (aN rfl)) (aN rfl)) (by decide) (aN rfl) (cg rfl aW) (by rfl)) (fZ rfl)))) (fun _ _ _ _ _=>(@pv _ 2 _ _ (by rfl) (by decreasing_trivial) (by decide) (by decide))) (by intro _; rfl)) `o (aN rfl)) aq rfl (aN rfl) aW))),?_⟩
 trivial
 refine⟨⟨_,hL⟩,fun D hD=>?_⟩
 obtain⟨Pc,hC⟩:∃ Pc:Nat→St→Hp→Prop,Pc=fun j τ H1=>∃ (es:List V) (z:Option V),H1 D=some (.lst es)∧es.length=cntL ks n (L.take j)∧Same H H1∧τ=[some (V.ref kl),some (V.ref a),z]:=⟨_,rfl⟩
 refine fR us Pc ?_ (fun j τ H1 _ h=>by rw[hC] at h; obtain⟨_,_,_,_,e,_⟩:=h; exact e.seq hL) ?_ ?_
 ·rw[hC]
  exact⟨[],_,aT,rfl,bO hD _,rfl⟩
 ·intro j v τ H1 R' hv h next
  rw[hC] at h
  obtain⟨es,z,dD,le,e,rfl⟩:=h
  have lj:=(yp.mp hv).1
  obtain⟨lk,p,hlk,rfl,T⟩:=Tps.get (Tps.same e tp) hv
  have ok:=lks lk (Ds hlk)
  have ct:=yh (ks:=ks) (n:=n) hlk
  have cl:cntL ks n (L.take j)≤1000:=by
   refine Nat.le_trans (D6 _ _) ?_
   rw[Dt]
   omega
  have O1:=ObjN.same e O
  obtain⟨C,dx,fs,h1,h2,hD'⟩:=Bh O1
  trivial
  refine⟨C,dx,fs,h1,h2,_,hD',?_⟩
  refine⟨a,kl,p,n,ks,lk,rfl,O1,okn,dp,(kd.same e).ground T ok.1 ok.2,fun H2 S2=>⟨_,rfl,?_⟩⟩
  by_cases hc:dz ks lk n=true
  ·rw[if_pos hc]
   refine⟨_,S2 _ _ dD,Nat.lt_of_lt_of_le (m:=2000) (by omega) (by decide),next _ _ ?_⟩
   rw[hC]
   exact⟨_,_,aT,by rw[Dp,le,ct,if_pos hc]; rfl,dI (e.trans S2) hD _,rfl⟩
  ·rw[if_neg hc]
   refine next _ _ ?_
   rw[hC]
   exact⟨es,_,S2 _ _ dD,by rw[le,ct,if_neg hc]; rfl,e.trans S2,rfl⟩
 intro τ H1 h
 rw[hC] at h
 obtain⟨es,z,dD,le,e,rfl⟩:=h
 rw[lu,EW] at le
 refine⟨_,rfl,_,.inl (SqL.of dD),?_⟩
 rw[le]
 exact q _ e
end
end _L
namespace _M
open _y _B _C _D _E _F _G _I _J _K _L PySem _l
noncomputable def top (i:Nat):Stmt:=PySem.Challenge.pw_tariffgate_k42_trees_refused.main.body.getD i (.Pass ⟨0,0,0,0⟩)
noncomputable def inner:Stmt→Nat→Stmt
 | .ClassDef _ _ _ b _ _ _ _ _ _ _,j=>b.getD j (.Pass ⟨0,0,0,0⟩)
 | st,_=>st
noncomputable abbrev eM:Stmt:=inner (top 50) 0
def aj:ScV ["self","kinds","rule","rows","row","looks","number"] ["self","kinds","rule","rows"] eM:=scv (by decide +kernel)
noncomputable abbrev keyN (k:List Int):List Key:=k.map Jt
def sO (k:List Int):(keyN k).map kV=k.map V.int:=by
 rw[JV]
 rfl
def keyN_inj {a b:List Int}:keyN a=keyN b↔a=b:=⟨fun h=>List.map_inj_right (fun x y h=>Sum.inl.inj h) |>.mp h,fun h=>by rw[h]⟩
structure TrOk (K:cy) (cs:NC) (H:Hp) (gl nl pl tl cl:Addr) (ks:List Kd2) (z:Str) (rs:List Rw) (ns:List V) (sk:List (List Int)) (pk tk ck:List (List Key×V)):Prop where
 kd:KdAt K H gl ks
 n:H nl=some (.lst ns)
 na:NumsAt K H ns sk
 p:H pl=some (.dT pk)
 t:H tl=some (.dT tk)
 c:H cl=some (.dT ck)
 perm:sk.Perm (rs.map Rw.num)
 asc:sk.Pairwise (fun a b=>_sru.lexI a b=true)
 p0:valV pk (keyN [])=some (.str z)
 pr:∀ r∈rs,valV pk (keyN r.num)=some (.str r.rule)
 tr:∀ r∈rs,∃ a,valV tk (keyN r.num)=some (.ref a)∧ObjN K cs H a r.note
 cr:∀ r∈rs,valV ck (keyN r.num)=some (.int (cntL ks r.note (LK ks.length):Nat))
noncomputable def BS (gl nl pl tl cl:Addr):List (Str×V):=[("goods",.ref gl),("numbers",.ref nl),("pickings",.ref pl),("notes",.ref tl),("counts",.ref cl)]
structure TrC (K:cy) (C:Addr):Prop where
 cl:Cls K C
 n1:NoAttr K C "goods"
 n2:NoAttr K C "numbers"
 n3:NoAttr K C "pickings"
 n4:NoAttr K C "notes"
 n5:NoAttr K C "counts"
def C7 (C:Addr):HO→Prop
 | .dT _=>False
 | .ins C' _ _=>C'≠C
 | _=>True
def ST (C:Addr) (H H':Hp):Prop:=∀ b u,H b=some u→C7 C u→H' b=some u
def ST.of (e:Same H H'):ST C H H':=fun b u h _=>e b u h
def ST.refl (C:Addr) (H:Hp):ST C H H:=fun b u h _=>h
def ST.trans (a:ST C H H') (b:ST C H' H2):ST C H H2:=fun c u h k=>b c u (a c u h k) k
def ST.ins {x:Addr} {dx:_} {fs:List (Str×V)} (h:H x=some (.ins C dx fs)):ST C H (_l.upd H x o):=fun b u hb k=>by
 rw[aZ]
 ·exact hb
 ·rintro rfl
  rw[h] at hb
  cases hb
  exact k rfl
def ST.dT {x:Addr} {kvs:List (List Key×V)} (h:H x=some (.dT kvs)):ST C H (_l.upd H x o):=fun b u hb k=>by
 rw[aZ]
 ·exact hb
 ·rintro rfl
  rw[h] at hb
  cases hb
  exact k
def ST.lst {x:Addr} (e:ST C H H') (h:H x=some (.lst xs)):H' x=some (.lst xs):=e _ _ h trivial
def ST.ts (e:ST C H H'):TS H H':=fun b u h k=>e b u h (by
 rcases k with ⟨ys,rfl⟩ | ⟨ob,ys,rfl⟩ <;> exact trivial)
def ST.seq {a:Addr} (e:ST C H H') (h:SqL K H a xs):SqL K H' a xs:=by
 rcases h with (h | ⟨o,h⟩) | h
 ·exact .inl (.inl (e _ _ h trivial))
 ·exact .inl (.inr ⟨o,e _ _ h trivial⟩)
 ·exact .inr h
def ObjN.st {cs:NC} (ne:∀ j,j<8→jn cs j≠C) (e:ST C H H'):∀ {n:Nt} {a:Addr},ObjN K cs H a n→ObjN K cs H' a n
 | .any,_,⟨dx,h⟩=>⟨dx,e _ _ h (ne 0 (by decide))⟩
 | .made _,_,⟨dx,h⟩=>⟨dx,e _ _ h (ne 1 (by decide))⟩
 | .used _,_,⟨dx,h⟩=>⟨dx,e _ _ h (ne 2 (by decide))⟩
 | .chief _,_,⟨dx,h⟩=>⟨dx,e _ _ h (ne 3 (by decide))⟩
 | .over _ _,_,⟨dx,p1,p2,h,t1,t2⟩=>⟨dx,p1,p2,e _ _ h (ne 4 (by decide)),e.ts.tup t1,e.ts.tup t2⟩
 | .both _ _,_,⟨dx,p1,p2,h,t1,t2⟩=>⟨dx,p1,p2,e _ _ h (ne 5 (by decide)),ObjN.st ne e t1,ObjN.st ne e t2⟩
 | .either _ _,_,⟨dx,p1,p2,h,t1,t2⟩=>⟨dx,p1,p2,e _ _ h (ne 6 (by decide)),ObjN.st ne e t1,ObjN.st ne e t2⟩
 | .but _ _,_,⟨dx,p1,p2,h,t1,t2⟩=>⟨dx,p1,p2,e _ _ h (ne 7 (by decide)),ObjN.st ne e t1,ObjN.st ne e t2⟩
def KnA.ts {ks:List Kd2} (h:KnA K H xs ks) (e:TS H H'):KnA K H' xs ks:=by
 induction h with
 | nil=>exact .nil
 | cons a _ ih=>exact .cons (e.tup a) ih
def KdAt.st {ks:List Kd2} (h:KdAt K H kl ks) (e:ST C H H'):KdAt K H' kl ks:=⟨let ⟨xs,a,b⟩:=h.kx; ⟨xs,e.seq a,KnA.ts b e.ts⟩,h.pos,h.le,h.ok⟩
def zd (e:TS H H') {L:List (List Int)} (h:Tps K H vs L):Tps K H' vs L:=Paired.mapP h fun v r=>by rintro⟨p,a,b⟩; exact⟨p,a,e.tup b⟩
def range_getD {α:Type} (l:List α) (d:α):(DJ l.length).map (fun i=>l.getD i d)=l:=by
 refine List.ext_getElem (by simp) fun i h1 h2=>?_
 simp [Er,h2]
theorem qB {K:cy} {H:Hp} {ns:List V} {ks:List (List Int)} (h:NumsAt K H ns ks):∀ out:List Nat,(∀ i∈out,i<ks.length)→NumsAt K H (out.map fun i=>ns.getD i .non) (out.map fun i=>ks.getD i [])
 | [],_=>.nil
 | i::out,hi=>by
  refine .cons ?_ (qB h out fun j hj=>hi j (.tail _ hj))
  have li:=hi i (.head _)
  have ln:ns.length=ks.length:=DT h
  obtain⟨x,hx⟩:∃ x,ns[i]?=some x:=⟨_,Dm (by exact Oz20 li ln)⟩
  obtain⟨k,hk,a,e,hh⟩:=gy h hx
  refine⟨a,?_,?_⟩
  ·show ns.getD i .non=_
   simp only [Er,hx,II]
   exact e
  ·show H a=some (.tup ((ks.getD i []).map V.int))
   rw[show ks.getD i []=k by simp only [Er,hk,II]]
   exact hh
def lV {α:Type} {l:List α} {i:Nat} {a b:α} (h:l[i]?=some a) (hb:b∈l.take (i+1)):b∈l.take i∨b=a:=by
 rw[E1,h] at hb
 rcases DV.mp hb with hb | hb
 ·exact .inl hb
 ·exact .inr (by simpa using hb)
def Bt {rs:List Rk} {i:Nat} {r r':Rk} (nd:(rs.map Rk.num).Nodup) (h:rs[i]?=some r) (h':r'∈rs.take i):r'.num≠r.num:=by
 obtain⟨j,hj,e⟩:=Hw h'
 rw[Dt] at hj
 have li:=(yp.mp h).1
 have hj':rs[j]?=some r':=by
  rw[List.getElem_take] at e
  rw[Dm (by exact Oz71 hj),e]
 intro en
 have:=(G0 (l:=rs.map Rk.num) (i:=j) (j:=i) (by rw[iz]; exact Oz71 hj) nd).mp (by
  rw[Dq,Dq,h,hj']
  show some r'.num=some r.num
  rw[en])
 omega
structure RkOk (rs:List Rk):Prop where
 nd:(rs.map Rk.num).Nodup
 len:∀ r∈rs,1≤r.num.length∧r.num.length≤4
def pS (K:cy) (C cK cT cN:Addr):Sp:=fun vs H Q E=>∃ (x:Addr) (dx:_) (kv rv wv:V) (bk:Bool) (H0:Hp),vs=[.ref x,kv,rv,wv]∧H x=some (.ins C dx [])∧Same H0 H∧H0 x=none∧KindsV K H0 kv bk∧(bk=false→∀ H',Same H0 H'→E (.ref cK) none H') ∧
 (bk=true→∃ (kl:Addr) (kx:List V) (ks:List Kd2) (br:Bool),kv=.ref kl∧SqL K H0 kl kx∧KnA K H0 kx ks∧KsOk ks∧PickV K H0 rv br∧(br=false→∀ H',Same H0 H'→E (.ref cT) none H') ∧
  (br=true→∃ (z:Str) (bw:Bool),rv=.str z∧RowsV K H0 wv bw∧(bw=false→∀ H',Same H0 H'→E (.ref cT) none H') ∧
   (bw=true→∃ (rl:Addr) (us:List V) (rs:List Rk) (nt:Rk→Nt) (gd:Rk→Bool),wv=.ref rl∧SqL K H0 rl us∧RksAt K H0 us rs∧RkOk rs∧1≤rs.length∧rs.length≤24∧(∀ r∈rs,(gd r=true∧ToldAt K H0 r.nv (nt r)∧(nt r).ok∧(nt r).dp≤5)∨(gd r=false∧NBad K H0 5 r.nv)) ∧
    ((∃ r∈rs,gd r=false)→∀ H',Same H0 H'→E (.ref cN) none H')∧((∀ r∈rs,gd r=true)→∀ H',Same H0 H'→Q .non H'))))
section
variable {cs:NC} {c_NoKinds c_NoTree c_NoNote:Addr}
def rC (F:Fun K "__init__" "Tree.__init__" eM f fd) (M:Mg mg) (tc:TrC K C) (ne:∀ j,j<8→jn cs j≠C) (e8:Cal P w K mg base (CXE P w) "kinds_of" 4 ["some"] (ql K c_NoKinds)) (bg:Cal P w K mg base CX0 "is_picking" 1 ["thing"] (mC K)) (e9:Cal P w K mg base CX0 "are_rows" 5 ["thing"] (qE K)) (fL:Cal P w K mg base (CXE P w) "note_of" 11 ["told"] (rz K cs c_NoNote)) (eN:Cal P w K mg base CX0 "all_looks" 4 ["many"] (oB K)) (dS:Cal P w K mg base CX0 "claimed_of" 10 ["note","kinds","looks"] (ng K cs)) (R_NoTree:XRaise K mg "NoTree" c_NoTree):FnOk P w K mg base (CXE P w) 12 f fd ["self","kinds","rule","rows"] (pS K C c_NoKinds c_NoTree c_NoNote):=by
 refine F.okX aj.fs (fun vs H Q E h=>?_) (fun cdv A outer s H vs Q E hr h=>?_)
 ·obtain⟨x,dx,kv,rv,wv,bk,H0,rfl,_⟩:=h
  rfl
 obtain⟨x,dx,kv,rv,wv,bk,H0,rfl,hx,S0,n0,KV',qk,h⟩:=h
 have nx:∀ {b u},H0 b=some u→b≠x:=fun {b u} h=>bZ h n0
 refine⟨_,(`f (@iJ _ _ _ _ _ _ _ _ (`b 0 aj rfl) (@gR _ _ _ _ _ _ _ _ _ _ _ _ _ e8 hr rfl iL (`a (`b 1 aj rfl) `o (aN rfl)) (by decide) rfl (aN rfl) aW) (fV rfl)) (`f (`m (@gc _ _ _ _ (@fP _ _ _ (`e bg hr rfl (`a (`b 2 aj rfl) `o (aN rfl)) (by decide) rfl (aN rfl) aW) (fZ rfl))) (`n (@iH _ _ _ _ _ _ _ _ _ _ _ iw hr rfl R_NoTree (`a `p `o (aN rfl)) (aN rfl) (by rfl) rfl)) (@dw _)) (`f (`m (@gc _ _ _ _ (@fP _ _ _ (`e e9 hr rfl (`a (`b 3 aj rfl) `o (aN rfl)) (by decide) rfl (aN rfl) aW) (fZ rfl))) (`n (@iH _ _ _ _ _ _ _ _ _ _ _ iw hr rfl R_NoTree (`a `p `o (aN rfl)) (aN rfl) (by rfl) rfl)) (@dw _)) (`f (@iJ _ _ _ _ _ _ _ _ (`b 0 aj rfl) (`i (sQ rfl) rfl M.m_sorted sR (`a (`r rfl (CompOk.make (N':=["row"]) (ix:=[]) (nl:=1) (by rfl) fm0 (by rfl) (by decide +kernel) rfl (by decide +kernel) rfl DY) (@gw _ _ _ _ (`b 3 aj rfl)) (fun _ _ _ _ _=>(@dH _ _ 0 _ (show D5 (["row"]:List Str) from by decide) rfl (Or.inl rfl) (by first | exact .inl rfl | exact .inr rfl | assumption))) (fun _ _ _ _ _=>(@gx _)) (fun _ _ _ _ _=>(`g (gG (K:=K) rfl) (@pv _ 0 _ _ (by rfl) (by decreasing_trivial) (by decide) (by decide)) `c (fun _ _=>rfl))) (by intro _; rfl)) `o (aN rfl)) gv rfl (aN rfl) aW) (fV rfl)) (`f (@iJ _ _ _ _ _ _ _ _ (`b 0 aj rfl) (@yJ _ _ _ _ _ _ (oM hr) (`j `o) (`b 2 aj rfl)) (fV rfl)) (`f (@iJ _ _ _ _ _ _ _ _ (`b 0 aj rfl) (@rS _ _) (fV rfl)) (`f (@jx _ _ _ _ _ _ _ _ JR rfl (@gw _ _ _ _ (`b 3 aj rfl)) (@dH _ _ 4 _ aj.nd rfl (ScV.loc aj 4 rfl) (.inl rfl)) (`f (@pR _ _ _ _ _ _ _ _ _ (oM hr) (@gz _ _ _ _ _ (`b 0 aj rfl) (by rfl)) (`g (gG (K:=K) rfl) (`b 4 aj rfl) `c (fun _ _=>rfl)) (`g (@ix_tup _) (`b 4 aj rfl) `c (fun _ _=>rfl)) (fV rfl)) (`n (@pR _ _ _ _ _ _ _ _ _ (oM hr) (@gz _ _ _ _ _ (`b 0 aj rfl) (by rfl)) (`g (gG (K:=K) rfl) (`b 4 aj rfl) `c (fun _ _=>rfl)) (@gR _ _ _ _ _ _ _ _ _ _ _ _ _ fL hr rfl iL (`a (`g (@ix_tup _) (`b 4 aj rfl) `c (fun _ _=>rfl)) `o (aN rfl)) (by decide) rfl (aN rfl) aW) (fV rfl)))) (by intro _; rfl)) (`f (`h 5 aj (`e eN hr rfl (`a (`i cQ rfl M.m_len fM (`a (@gz _ _ _ _ _ (`b 0 aj rfl) (by rfl)) `o (aN rfl)) aq rfl (aN rfl) aW) `o (aN rfl)) (by decide) rfl (aN rfl) aW) rfl) (`f (@iJ _ _ _ _ _ _ _ _ (`b 0 aj rfl) (@rS _ _) (fV rfl)) (`n (@jx _ _ _ _ _ _ _ _ JR rfl (@gw _ _ _ _ (@gz _ _ _ _ _ (`b 0 aj rfl) (by rfl))) (@dH _ _ 6 _ aj.nd rfl (ScV.loc aj 6 rfl) (.inl rfl)) (`n (@pR _ _ _ _ _ _ _ _ _ (oM hr) (@gz _ _ _ _ _ (`b 0 aj rfl) (by rfl)) (`b 6 aj rfl) (`e dS hr rfl (`a (@Bo _ _ _ _ _ _ (oM hr) (@gz _ _ _ _ _ (`b 0 aj rfl) (by rfl)) (`b 6 aj rfl) (fun _ _=>rfl)) (`a (@gz _ _ _ _ _ (`b 0 aj rfl) (by rfl)) (`a (`b 5 aj rfl) `o (aN rfl)) (aN rfl)) (aN rfl)) (by decide) rfl (aN rfl) (cg rfl (cg rfl aW))) (fV rfl))) (by intro _; rfl)))))))))))),?_⟩
 refine eU fun tl htl=>?_
 trivial
 refine⟨kv,bk,rfl,KindsV.same KV' S0,fun hb=>?_,fun hb H1 S1=>qk hb _ (S0.trans S1)⟩
 obtain⟨kl,kx,ks,br,rfl,LK0,KA0,kok,PV,qr,h⟩:=h hb
 have LK':=S0.seq LK0
 have KA:=KA0.same S0
 have lkx:kx.length=ks.length:=KA.length
 have k1:=kok.l1
 have k4:=kok.l4
 refine⟨kl,kx,rfl,LK',fun gl H1 S1 hgl dgl=>?_⟩
 have hx1:=S1 _ _ hx
 refine⟨C,dx,[],hx1,tc.cl,tc.n1,by decide,?_⟩
 obtain⟨H2,g2,E2,X2⟩:∃ H2,H2=upd H1 x (.ins C dx (gX "goods" (.ref gl) []))∧ST C H1 H2∧H2 x=some (.ins C dx [("goods",.ref gl)]):=⟨_,rfl,ST.ins hx1,aT⟩
 have g2':H2=upd H1 x (.ins C dx (gX (Dj "goods") (.ref gl) [])):=g2
 rw[← g2']
 have B2:∀ b u,b≠x→H b=some u→H2 b=some u:=fun b u hb h=>by rw[g2,aZ hb]; exact S1 _ _ h
 clear g2 g2'
 have E02:ST C H H2:=(ST.of S1).trans E2
 show tl _ _ _
 rw[htl]
 clear htl tl
 refine eU fun tl htl=>?_
 trivial
 have S02:Same H0 H2:=fun b u h=>B2 b u (nx h) (S0 _ _ h)
 refine⟨rv,br,rfl,PV.same S02,fun H3 S3=>⟨_,rfl,?_⟩⟩
 cases br with
 | false =>
  rw[if_pos rfl]
  exact⟨by decide,qr rfl _ (S02.trans S3)⟩
 | true =>
 rw[if_neg (by decide)]
 obtain⟨z,bw,rfl,RV,qw,h⟩:=h rfl
 show tl _ _ _
 rw[htl]
 clear htl tl
 refine eU fun tl htl=>?_
 trivial
 have E03:=E02.trans (ST.of S3)
 have S03':=S02.trans S3
 refine⟨wv,bw,rfl,RowsV.same RV S03',fun H4 S4=>⟨_,rfl,?_⟩⟩
 cases bw with
 | false =>
  rw[if_pos rfl]
  exact⟨by decide,qw rfl _ (S03'.trans S4)⟩
 | true =>
 rw[if_neg (by decide)]
 obtain⟨rl,us,rs,nt,gd,rfl,hR0,ra0,rok,r1,r24,nts,qn,q⟩:=h rfl
 have hR:=S0.seq hR0
 have ra:=RksAt.ts ra0 (TS.of S0)
 show tl _ _ _
 rw[htl]
 clear htl tl
 refine eU fun tl htl=>?_
 trivial
 have E04:=E03.trans (ST.of S4)
 have hR4:=E04.seq hR
 have ra4:=RksAt.ts ra E04.ts
 have lu:us.length=rs.length:=DT ra
 have X4:=S4 _ _ (S3 _ _ X2)
 refine⟨⟨_,hR4⟩,fun D hD=>?_⟩
 obtain⟨Pc,hC⟩:∃ Pc:Nat→St→Hp→Prop,Pc=fun j τ H5=>∃ (ns:List V) (z:Option V),H5 D=some (.lst ns)∧NumsAt K H5 ns ((rs.map Rk.num).take j)∧Same H4 H5∧τ=[z]:=⟨_,rfl⟩
 refine fR us Pc ?_ (fun j τ H5 _ h=>by rw[hC] at h; obtain⟨_,_,_,_,e2,_⟩:=h; exact e2.seq hR4) ?_ ?_
 ·rw[hC]
  exact⟨[],_,aT,.nil,bO hD _,rfl⟩
 ·intro j v τ H5 R' hv h next
  rw[hC] at h
  obtain⟨ns,z',dD2,na,e2,rfl⟩:=h
  have lj:=(yp.mp hv).1
  obtain⟨r,hr',hrow⟩:=gy (RksAt.ts ra4 (TS.of e2)) hv
  obtain⟨p',a',rfl,h2',h3'⟩:=id hrow
  have ln:ns.length≤24:=by
   have:=DT na
   rw[this,Dt,iz]
   omega
  trivial
  refine⟨_,h2',_,at0,_,dD2,Nat.lt_of_lt_of_le (m:=64) (by exact Oz51 ln) (by decide),next _ _ ?_⟩
  rw[hC]
  refine⟨ns++[.ref a'],_,aT,?_,dI e2 hD _,rfl⟩
  rw[E1,Dq,hr']
  exact iy ⟨a',rfl,(TS.lst dD2).at h3'⟩ (na.ts (TS.lst dD2))
 intro τ H5 h
 rw[hC] at h
 obtain⟨ns,z',dD5,na,S5,rfl⟩:=h
 clear hC Pc
 rw[lu,Dw (by rw[iz]; exact Nat.le_refl _)] at na
 have ln:ns.length=(rs.map Rk.num).length:=DT na
 refine⟨D,rfl,ns,SqL.of dD5,rs.map Rk.num,⟨ln,fun i v k hv hk=>?_⟩,rok.nd,(fun k hk=>?_),by rw[iz]; exact Oz51 r24,fun nl out hnl hp hs=>?_⟩
 ·obtain⟨k',hk',a',e,h'⟩:=gy na hv
  rw[hk] at hk'
  cases hk'
  exact⟨a',e,SqT.of h'⟩
 ·obtain⟨r,mr,rfl⟩:=DZ.mp hk
  intro e
  have:=(rok.len r mr).1
  rw[e] at this
  exact absurd this (by decide)
 obtain⟨sk,hsk⟩:∃ sk,sk=out.map fun i=>(rs.map Rk.num).getD i []:=⟨_,rfl⟩
 obtain⟨sn,hsn⟩:∃ sn,sn=out.map fun i=>ns.getD i .non:=⟨_,rfl⟩
 have sna:NumsAt K H5 sn sk:=by
  rw[hsk,hsn]
  exact qB na out fun i hi=>ES.mp (hp.mem_iff.mp hi)
 have perm:sk.Perm (rs.map Rk.num):=by
  rw[hsk]
  have:=hp.map fun i=>(rs.map Rk.num).getD i []
  rwa [range_getD] at this
 rw[← hsk] at hs
 rw[← hsn]
 obtain⟨H6,g6,S6,L6⟩:∃ H6,H6=upd H5 nl (.lst sn)∧Same H5 H6∧H6 nl=some (.lst sn):=⟨_,rfl,bO hnl _,aT⟩
 rw[← g6]
 clear g6
 have S46:=S5.trans S6
 have X6:=S46 _ _ X4
 refine⟨C,dx,_,X6,tc.cl,tc.n2,show 1<1000 by decide,?_⟩
 obtain⟨H7,g7,E7,X7⟩:∃ H7,H7=upd H6 x (.ins C dx (gX (Dj "numbers") (.ref nl) [("goods",.ref gl)]))∧ST C H6 H7∧H7 x=some (.ins C dx [("goods",.ref gl),("numbers",.ref nl)]):=⟨_,rfl,ST.ins X6,aT⟩
 rw[← g7]
 have B7:∀ b u,b≠x→H b=some u→H7 b=some u:=fun b u hb h=>by rw[g7,aZ hb]; exact S46 _ _ (S4 _ _ (S3 _ _ (B2 b u hb h)))
 clear g7
 have E47:ST C H4 H7:=(ST.of S46).trans E7
 have E17:ST C H1 H7:=E2.trans (((ST.of S3).trans (ST.of S4)).trans E47)
 show tl _ _ _
 rw[htl]
 clear htl tl
 refine eU fun tl htl=>?_
 trivial
 intro pl hpl
 refine⟨eV,fun p1 hp1=>?_⟩
 have plp:pl≠p1:=fun z=>by rw[← z,aT] at hp1; cases hp1
 have hp1':H7 p1=none:=by rw[aZ (E6 plp)] at hp1; exact hp1
 have plx:pl≠x:=fun z=>by rw[z,X7] at hpl; cases hpl
 obtain⟨H8,g8,S8,P8⟩:∃ H8,H8=upd (upd (upd H7 pl (.dT [])) p1 (.tup [])) pl (.dT [(keyN [],.str z)])∧Same H7 H8∧H8 pl=some (.dT [(keyN [],.str z)]):=⟨_,rfl,fun b u h=>by
  rw[aZ (bZ h hpl),aZ (bZ h hp1'),aZ (bZ h hpl)]
  exact h,aT⟩
 refine⟨keyN [],aT,by rw[aZ plp,aT],?_⟩
 rw[← g8]
 clear g8
 have X8:=S8 _ _ X7
 refine⟨C,dx,_,X8,tc.cl,tc.n3,show 2<1000 by decide,?_⟩
 obtain⟨H9,g9,E9,X9⟩:∃ H9,H9=upd H8 x (.ins C dx (gX (Dj "pickings") (.ref pl) [("goods",.ref gl),("numbers",.ref nl)]))∧ST C H8 H9∧H9 x=some (.ins C dx [("goods",.ref gl),("numbers",.ref nl),("pickings",.ref pl)]):=⟨_,rfl,ST.ins X8,aT⟩
 rw[← g9]
 have B9:∀ b u,b≠x→H b=some u→H9 b=some u:=fun b u hb h=>by rw[g9,aZ hb]; exact S8 _ _ (B7 b u hb h)
 have P9:H9 pl=some (.dT [(keyN [],.str z)]):=by rw[g9,aZ plx]; exact P8
 clear g9
 have E19:ST C H1 H9:=E17.trans ((ST.of S8).trans E9)
 show tl _ _ _
 rw[htl]
 clear htl tl
 refine eU fun tl htl=>?_
 trivial
 intro tl' htl'
 have tlx:tl'≠x:=fun z=>by rw[z,X9] at htl'; cases htl'
 have tlp:tl'≠pl:=fun z=>by rw[z,P9] at htl'; cases htl'
 obtain⟨Ha,ga,Sa,Ta⟩:∃ Ha,Ha=upd H9 tl' (.dT [])∧Same H9 Ha∧Ha tl'=some (.dT []):=⟨_,rfl,bO htl' _,aT⟩
 rw[← ga]
 clear ga
 have Xa:=Sa _ _ X9
 refine⟨C,dx,_,Xa,tc.cl,tc.n4,show 3<1000 by decide,?_⟩
 obtain⟨Hb,gb,Eb,Xb⟩:∃ Hb,Hb=upd Ha x (.ins C dx (gX (Dj "notes") (.ref tl') [("goods",.ref gl),("numbers",.ref nl),("pickings",.ref pl)]))∧ST C Ha Hb∧Hb x=some (.ins C dx [("goods",.ref gl),("numbers",.ref nl),("pickings",.ref pl),("notes",.ref tl')]):=⟨_,rfl,ST.ins Xa,aT⟩
 rw[← gb]
 have Bb:∀ b u,b≠x→H b=some u→Hb b=some u:=fun b u hb h=>by rw[gb,aZ hb]; exact Sa _ _ (B9 b u hb h)
 have Pb:Hb pl=some (.dT [(keyN [],.str z)]):=by rw[gb,aZ plx]; exact Sa _ _ P9
 have _tb:Hb tl'=some (.dT []):=by rw[gb,aZ tlx]; exact Ta
 clear gb
 have E1b:ST C H1 Hb:=E19.trans ((ST.of Sa).trans Eb)
 have E0b:ST C H Hb:=(ST.of S1).trans E1b
 show tl _ _ _
 rw[htl]
 clear htl tl
 refine eU fun tl htl=>?_
 trivial
 have npl:H pl=none:=by
  cases h:H pl with
  | none=>rfl
  | some u=>rw[B7 pl u plx h] at hpl; cases hpl
 have ntl:H tl'=none:=by
  cases h:H tl' with
  | none=>rfl
  | some u=>rw[B9 tl' u tlx h] at htl'; cases htl'
 have hRb:=E0b.seq hR
 have rab:=RksAt.ts ra E0b.ts
 refine⟨⟨_,hRb⟩,?_⟩
 obtain⟨Pv,hP⟩:∃ Pv:Nat→St→Hp→Prop,Pv=fun i σ H'=>∃ (pk tk:List (List Key×V)) (y4:Option V),H' x=some (.ins C dx [("goods",.ref gl),("numbers",.ref nl),("pickings",.ref pl),("notes",.ref tl')])∧H' pl=some (.dT pk)∧H' tl'=some (.dT tk)∧pk.length≤i+1∧tk.length≤i∧valV pk (keyN [])=some (.str z)∧(∀ r∈rs.take i,valV pk (keyN r.num)=some (.str r.rule)∧∃ a,valV tk (keyN r.num)=some (.ref a)∧ObjN K cs H' a (nt r)∧(nt r).ok∧(nt r).dp≤5∧gd r=true)∧ST C Hb H'∧(∀ b u,b≠x→H b=some u→H' b=some u)∧σ=[some (V.ref x),some (V.ref kl),some (V.str z),some (V.ref rl),y4,none,none]:=⟨_,rfl⟩
 refine lY us Pv ?_ (fun i σ H' _ h=>by rw[hP] at h; obtain⟨_,_,_,_,_,_,_,_,_,_,e,_⟩:=h; exact e.seq hRb) ?_ ?_
 ·rw[hP]
  exact⟨_,_,_,Xb,Pb,_tb,Nat.le_refl _,Nat.le_refl _,by rw[gM rfl],(fun r h=>by cases h),ST.refl _ _,Bb,rfl⟩
 ·intro i v σ H' hv h
  rw[hP] at h
  obtain⟨pk,tk,y4,X',P',T',lp,lt,v0,vr,e,B,rfl⟩:=h
  have li:=(yp.mp hv).1
  obtain⟨r,hr',hrow⟩:=gy (RksAt.ts rab e.ts) hv
  obtain⟨p',a',rfl,h2',h3'⟩:=id hrow
  have mr:=Ds hr'
  have rn:∀ {k:List Int},keyN k=keyN r.num↔k=r.num:=keyN_inj
  have r0:([]:List Int)≠r.num:=fun z=>by
   have:=(rok.len r mr).1
   rw[← z] at this
   exact absurd this (by decide)
  have hk1:H' a'=some (.tup ((keyN r.num).map kV)):=by rw[sO]; exact h3'
  trivial
  refine⟨_,h2',_,at2,C,dx,_,X',tc.cl,tc.n3,_,rfl,_,h2',_,at0,pl,rfl,_,DPut.t P' hk1 (Nat.lt_of_lt_of_le (m:=64) (by omega) (by decide)),?_⟩
  obtain⟨Hd,gd,Ed,Pd⟩:∃ Hd,Hd=upd H' pl (.dT (putK pk (keyN r.num) (.str r.rule)))∧ST C H' Hd∧Hd pl=some (.dT (putK pk (keyN r.num) (.str r.rule))):=⟨_,rfl,ST.dT P',aT⟩
  rw[← gd]
  have Xd:Hd x=some (.ins C dx [("goods",.ref gl),("numbers",.ref nl),("pickings",.ref pl),("notes",.ref tl')]):=by rw[gd,aZ (E6 plx)]; exact X'
  have Td:Hd tl'=some (.dT tk):=by rw[gd,aZ tlp]; exact T'
  have Bd:∀ b u,b≠x→H b=some u→Hd b=some u:=fun b u hb h=>by rw[gd,aZ (bZ h npl)]; exact B b u hb h
  clear gd
  have S0d:Same H0 Hd:=fun b u h=>Bd b u (nx h) (S0 _ _ h)
  refine⟨_,Ed.ts.tup h2',_,at1,?_⟩
  rcases (nts r mr).symm with ⟨gf,nb⟩ | ⟨gt,okr⟩
  ·exact .inr ⟨_,rfl,nb.same S0d,fun H9 S9=>qn ⟨r,mr,gf⟩ _ (S0d.trans S9)⟩
  obtain⟨t',et⟩:=gq okr.1
  refine .inl ⟨t',nt r,by rw[et],by rw[← et]; exact ie (TS.of S0d) okr.1,okr.2.1,okr.2.2,fun na' He Se Oe=>?_⟩
  have EHe:=Ed.trans (ST.of Se)
  have hk2:He a'=some (.tup ((keyN r.num).map kV)):=EHe.ts.at hk1
  refine⟨C,dx,_,Se _ _ Xd,tc.cl,tc.n4,_,rfl,_,EHe.ts.tup h2',_,at0,tl',rfl,_,DPut.t (Se _ _ Td) hk2 (Nat.lt_of_lt_of_le (m:=64) (by omega) (by decide)),?_⟩
  have Te:=Se _ _ Td
  have Ef:ST C He (upd He tl' (.dT (putK tk (keyN r.num) (.ref na')))):=ST.dT Te
  rw[hP]
  refine⟨putK pk (keyN r.num) (.str r.rule),putK tk (keyN r.num) (.ref na'),_,by rw[aZ (E6 tlx)]; exact Se _ _ Xd,by rw[aZ (E6 tlp)]; exact Se _ _ Pd,aT,by have:=ja pk (keyN r.num) (.str r.rule); omega,by have:=ja tk (keyN r.num) (.ref na'); exact Oz59 lt this,?_,fun r2 hr2=>?_,(e.trans EHe).trans Ef,fun b u hb h=>?_,rfl⟩
  ·rw[lG,if_neg (fun z=>r0 (rn.mp z))]
   exact v0
  ·rw[lG,lG]
   rcases lV hr' hr2 with h | rfl
   ·have ne2:¬ keyN r2.num=keyN r.num:=fun z=>Bt rok.nd hr' h (rn.mp z)
    rw[if_neg ne2,if_neg ne2]
    obtain⟨q1,a2,q2,q3⟩:=vr r2 h
    exact⟨q1,a2,q2,ObjN.st ne (EHe.trans Ef) q3.1,q3.2⟩
   ·rw[if_pos rfl,if_pos rfl]
    exact⟨rfl,na',rfl,ObjN.st ne Ef Oe,okr.2.1,okr.2.2,gt⟩
  ·rw[aZ (bZ h ntl)]
   exact Se _ _ (Bd b u hb h)
 intro σ Hc h
 rw[hP] at h
 obtain⟨pk,tk,y4,Xc,Pc,Tc,lp,lt,v0,vr,Ec,Bc,rfl⟩:=h
 clear hP Pv
 show tl _ _ _
 rw[htl]
 clear htl tl
 refine eU fun tl htl=>?_
 trivial
 rw[lu,EW] at vr
 have E1c:=E1b.trans Ec
 have dgc:=E1c.lst dgl
 refine⟨C,dx,_,Xc,tc.cl,tc.n1,_,rfl,gl,rfl,_,.inl (SqL.of dgc),?_⟩
 rw[lkx]
 refine⟨ks.length,rfl,k1,k4,fun ll lus Hd Sd hll dll tps=>?_⟩
 show tl _ _ _
 rw[htl]
 clear htl tl
 refine eU fun tl htl=>?_
 trivial
 intro cl hcl
 have Xd:=Sd _ _ Xc
 have Pd:=Sd _ _ Pc
 have Td:=Sd _ _ Tc
 have clx:cl≠x:=fun z=>by rw[z,Xd] at hcl; cases hcl
 have clp:cl≠pl:=fun z=>by rw[z,Pd] at hcl; cases hcl
 have clt:cl≠tl':=fun z=>by rw[z,Td] at hcl; cases hcl
 obtain⟨He,ge,Se,Ce⟩:∃ He,He=upd Hd cl (.dT [])∧Same Hd He∧He cl=some (.dT []):=⟨_,rfl,bO hcl _,aT⟩
 rw[← ge]
 clear ge
 have Xe:=Se _ _ Xd
 refine⟨C,dx,_,Xe,tc.cl,tc.n5,show 4<1000 by decide,?_⟩
 obtain⟨Hf,gf,Ef,Xf⟩:∃ Hf,Hf=upd He x (.ins C dx (gX (Dj "counts") (.ref cl) [("goods",.ref gl),("numbers",.ref nl),("pickings",.ref pl),("notes",.ref tl')]))∧ST C He Hf∧Hf x=some (.ins C dx (BS gl nl pl tl' cl)):=⟨_,rfl,ST.ins Xe,aT⟩
 rw[← gf]
 have Bf:∀ b u,b≠x→H b=some u→Hf b=some u:=fun b u hb h=>by rw[gf,aZ hb]; exact Se _ _ (Sd _ _ (Bc b u hb h))
 have Pf:Hf pl=some (.dT pk):=by rw[gf,aZ plx]; exact Se _ _ Pd
 have Tf:Hf tl'=some (.dT tk):=by rw[gf,aZ tlx]; exact Se _ _ Td
 have Cf:Hf cl=some (.dT []):=by rw[gf,aZ clx]; exact Ce
 clear gf
 have Ecf:ST C Hc Hf:=((ST.of Sd).trans (ST.of Se)).trans Ef
 have ncl:H cl=none:=by
  cases h:H cl with
  | none=>rfl
  | some u=>rw[Sd _ _ (Bc cl u clx h)] at hcl; cases hcl
 show tl _ _ _
 rw[htl]
 clear htl tl
 trivial
 have E5f:ST C H5 Hf:=((((((ST.of S6).trans E7).trans ((ST.of S8).trans E9)).trans ((ST.of Sa).trans Eb)).trans Ec).trans Ecf)
 have E6f:ST C H6 Hf:=(((E7.trans ((ST.of S8).trans E9)).trans ((ST.of Sa).trans Eb)).trans Ec).trans Ecf
 have dnf:=E6f.lst L6
 have E15:ST C H1 H5:=E2.trans (((ST.of S3).trans (ST.of S4)).trans (ST.of S5))
 have nnl:H nl=none:=by
  cases h:H nl with
  | none=>rfl
  | some u =>
   have:=S5 _ _ (S4 _ _ (S3 _ _ (B2 nl u (fun z=>by rw[z,S5 _ _ X4] at hnl; cases hnl) h)))
   rw[this] at hnl
   cases hnl
 have naf:NumsAt K Hf sn sk:=sna.ts E5f.ts
 have Edf:ST C Hd Hf:=(ST.of Se).trans Ef
 have dlf:=Edf.lst dll
 have tpf:Tps K Hf lus (LK ks.length):=zd Edf.ts tps
 have dgf:=Ecf.lst dgc
 have KA1:KnA K Hf kx ks:=KnA.ts KA ((((ST.of (C:=C) S1).trans E1c).trans Ecf).ts)
 have kdf:KdAt K Hf gl ks:=⟨⟨kx,SqL.of dgf,KA1⟩,k1,k4,kok.name⟩
 have ln2:sn.length=sk.length:=DT naf
 have l64:sk.length≤24:=by rw[perm.length_eq,iz]; exact r24
 refine⟨C,dx,_,Xf,tc.cl,tc.n2,_,rfl,nl,rfl,⟨_,SqL.of dnf⟩,?_⟩
 obtain⟨Pv,hP⟩:∃ Pv:Nat→St→Hp→Prop,Pv=fun i σ H'=>∃ (ck:List (List Key×V)) (y6:Option V),H' x=some (.ins C dx (BS gl nl pl tl' cl))∧H' pl=some (.dT pk)∧H' tl'=some (.dT tk)∧H' cl=some (.dT ck)∧ck.length≤i∧(∀ r∈rs,r.num∈sk.take i→valV ck (keyN r.num)=some (.int (cntL ks (nt r) (LK ks.length):Nat)))∧ST C Hf H'∧(∀ b u,b≠x→H b=some u→H' b=some u)∧σ=[some (V.ref x),some (V.ref kl),some (V.str z),some (V.ref rl),y4,some (V.ref ll),y6]:=⟨_,rfl⟩
 refine lY sn Pv ?_ (fun i σ H' _ h=>by rw[hP] at h; obtain⟨_,_,_,_,_,_,_,_,e,_⟩:=h; exact SqL.of (e.lst dnf)) ?_ ?_
 ·rw[hP]
  exact⟨[],_,Xf,Pf,Tf,Cf,Nat.le_refl _,(fun r _ h=>by cases h),ST.refl _ _,Bf,rfl⟩
 ·intro i v σ H' hv h
  rw[hP] at h
  obtain⟨ck,y6,X',P',T',C',lc,vc,e,B,rfl⟩:=h
  have li:=(yp.mp hv).1
  obtain⟨k,hk,a',rfl,h3'⟩:=gy (naf.ts e.ts) hv
  obtain⟨r,mr,ek⟩:=DZ.mp (perm.mem_iff.mp (Ds hk))
  subst ek
  have hk1:H' a'=some (.tup ((keyN r.num).map kV)):=by rw[sO]; exact h3'
  obtain⟨_,na',q2,q3⟩:=vr r mr
  have okr:=q3.2
  have okr5:=okr.2.1
  have Ece:=Ecf.trans e
  have g1:DGet H' tl' (.ref a') (some (.ref na')):=by
   have:=DGet.t (b:=a') T' hk1
   rwa [q2] at this
  trivial
  refine⟨C,dx,_,X',tc.cl,tc.n4,_,rfl,tl',rfl,_,g1,C,dx,_,X',tc.cl,tc.n1,_,rfl,?_⟩
  refine⟨na',gl,ll,lus,(nt r),ks,LK ks.length,rfl,ObjN.st ne Ece q3.1,okr.1,by omega,KdAt.st kdf e,SqL.of (e.lst dlf),zd e.ts tpf,?_,fun lk hlk=>?_,fun H2 S2=>?_⟩
  ·unfold LK
   rw[iz]
   exact (rm k1 k4).1
  ·have:=BO k1 k4 lk hlk
   exact⟨this.1,this.2.1⟩
  have hk2:=S2 _ _ hk1
  have C2:=S2 _ _ C'
  refine⟨C,dx,_,S2 _ _ X',tc.cl,tc.n5,_,rfl,cl,rfl,_,DPut.t C2 hk2 (Nat.lt_of_lt_of_le (m:=64) (by omega) (by decide)),?_⟩
  rw[hP]
  refine⟨putK ck (keyN r.num) (.int (cntL ks (nt r) (LK ks.length):Nat)),_,by rw[aZ (E6 clx)]; exact S2 _ _ X',by rw[aZ (E6 clp)]; exact S2 _ _ P',by rw[aZ (E6 clt)]; exact S2 _ _ T',aT,by have:=ja ck (keyN r.num) (.int (cntL ks (nt r) (LK ks.length):Nat)); exact Oz59 lc this,fun r2 mr2 hr2=>?_,(e.trans (ST.of S2)).trans (ST.dT C2),fun b u hb h=>?_,rfl⟩
  ·rw[lG]
   by_cases en:keyN r2.num=keyN r.num
   ·have en':r2.num=r.num:=keyN_inj.mp en
    have:r2=r:=by
     obtain⟨i1,h1⟩:=Et.mp mr2
     obtain⟨i2,h2⟩:=Et.mp mr
     have l1:=(yp.mp h1).1
     have:=(G0 (l:=rs.map Rk.num) (i:=i1) (j:=i2) (by rw[iz]; exact l1) rok.nd).mp (by
      rw[Dq,Dq,h1,h2]
      show some r2.num=some r.num
      rw[en'])
     rw[this,h2] at h1
     exact (DP h1).symm
    rw[if_pos en,this]
   ·rw[if_neg en]
    rcases lV hk hr2 with h | h
    ·exact vc r2 mr2 h
    ·exact absurd (by rw[h]) en
  ·rw[aZ (bZ h ncl)]
   exact S2 _ _ (B b u hb h)
 intro σ Hg h
 rw[hP] at h
 obtain⟨ck,y6,Xg,Pg,Tg,Cg,lc,vc,eg,Bg,rfl⟩:=h
 rw[ln2,EW] at vc
 trivial
 exact q (fun r mr=>by obtain⟨_,_,_,q3⟩:=vr r mr; exact q3.2.2.2) _ (fun b u h=>Bg b u (nx h) (S0 _ _ h))
end
end _M
namespace _N
open _y _B _C _D _E _F _G _I _J _K _L _M PySem _l
noncomputable def top (i:Nat):Stmt:=PySem.Challenge.pw_tariffgate_k42_trees_refused.main.body.getD i (.Pass ⟨0,0,0,0⟩)
def gA:NnB "ValueError":=by decide
abbrev eO:Stmt:=top 68
def aQ:ScV ["_law_kinds_here","_law_rule","_law_rows_here","e"] ["_law_kinds_here","_law_rule","_law_rows_here"] eO:=scv (by decide +kernel)
def Cls3 (K:cy) (H:Hp) (kv rv wv:V) (c:Nat):Prop:=(c=0∧KindsV K H kv false) ∨
 (∃ (kl:Addr) (kx:List V) (ks:List Kd2),kv=.ref kl∧SqL K H kl kx∧KnA K H kx ks∧KsOk ks∧((c=1∧PickV K H rv false)∨(∃ z:Str,rv=.str z∧okRule z∧((c=1∧RowsV K H wv false) ∨
  (∃ (rl:Addr) (us:List V) (rs:List Rk) (nt:Rk→Nt) (gd:Rk→Bool),wv=.ref rl∧SqL K H rl us∧RksAt K H us rs∧RkOk rs∧RowsV K H wv true∧1≤rs.length∧rs.length≤24∧(∀ r∈rs,(gd r=true∧ToldAt K H r.nv (nt r)∧(nt r).ok∧(nt r).dp≤5)∨(gd r=false∧NBad K H 5 r.nv)) ∧
   ((c=2∧∃ r∈rs,gd r=false)∨(c=3∧∀ r∈rs,gd r=true)))))))
noncomputable def mY (c:Nat):List V:=if c=3 then [] else [.bl (decide (c=0)),.bl (decide (c=1)),.bl (decide (c=2))]
def yZ (K:cy):Sp:=fun vs H Q _=>∃ (kv rv wv:V) (c:Nat),vs=[kv,rv,wv]∧Cls3 K H kv rv wv c∧∀ (p:Addr) (H':Hp),Same H H'→H' p=some (.tup (mY c))→Q (.ref p) H'
structure X3 (K:cy) (D cK cT cN:Addr) (a b c:Bool) (cE:Addr):Prop where
 su:Gj K (.ref D) (.ref cE)=some true
 kv:D4 K (.ref D) (.type "ValueError")=some true
 k0:D4 K (.ref D) (.ref cK)=some a
 k1:D4 K (.ref D) (.ref cT)=some b
 k2:D4 K (.ref D) (.ref cN)=some c
 xc:XCls K D
section
variable {cs:NC} {c_NoKinds c_NoTree c_NoNote c_TariffError:Addr}
def rK (F:Fun K "_law_asked" "_law_asked" eO f fd) (M:Mg mg) (Z_Tree:MkX P w K mg base "Tree" C 12 ["self","kinds","rule","rows"] (pS K C c_NoKinds c_NoTree c_NoNote)) (X_TariffError:XCatch K mg "TariffError" c_TariffError) (A_NoKinds:mg "NoKinds"=some (.ref c_NoKinds)) (A_NoTree:mg "NoTree"=some (.ref c_NoTree)) (A_NoNote:mg "NoNote"=some (.ref c_NoNote))
  (W0:X3 K c_NoKinds c_NoKinds c_NoTree c_NoNote true false false c_TariffError) (W1:X3 K c_NoTree c_NoKinds c_NoTree c_NoNote false true false c_TariffError) (W2:X3 K c_NoNote c_NoKinds c_NoTree c_NoNote false false true c_TariffError):FnOk P w K mg base CX0 14 f fd ["_law_kinds_here","_law_rule","_law_rows_here"] (yZ K):=by
 refine F.ok aQ.fs (fun vs H Q E h=>?_) (fun cdv A outer s H vs Q E hr h=>?_)
 ·obtain⟨kv,rv,wv,c,rfl,_⟩:=h
  rfl
 obtain⟨kv,rv,wv,c,rfl,cl,q⟩:=h
 refine⟨_,(`f (@AJ _ _ _ _ _ _ 3 _ _ _ _ _ _ _ _ _ _ _ _ _ _ _ _ rfl rfl rfl rfl Z_Tree hr rfl (`a (`b 0 aQ rfl) (`a (`b 1 aQ rfl) (`a (`b 2 aQ rfl) `o (aN rfl)) (aN rfl)) (aN rfl)) rfl X_TariffError aQ.nd rfl rfl rfl (fun _=>(`f (`m (@gc _ _ _ _ (@fP _ _ _ (`i (kH (K:=K) rfl) rfl M.m_isinstance fj (`a (`b 3 aQ rfl) (`a (@gH _ _ (.ty "ValueError") _ _ rfl M.m_ValueError rZ rfl gA rfl) `o (aN rfl)) (aN rfl)) ar rfl (aN rfl) (cg rfl aW)) (fZ rfl))) (`n (`q (`j (`a `p `o (aN rfl))))) (@dw _)) (`n (`q (`j (`a (`i (kH (K:=K) rfl) rfl M.m_isinstance fj (`a (`b 3 aQ rfl) (`a (@pA _ _ _ _ _ rfl A_NoKinds (show RelV (.ref c_NoKinds) _ from rfl) rfl) `o (aN rfl)) (aN rfl)) ar rfl (aN rfl) (cg rfl aW)) (`a (`i (kH (K:=K) rfl) rfl M.m_isinstance fj (`a (`b 3 aQ rfl) (`a (@pA _ _ _ _ _ rfl A_NoTree (show RelV (.ref c_NoTree) _ from rfl) rfl) `o (aN rfl)) (aN rfl)) ar rfl (aN rfl) (cg rfl aW)) (`a (`i (kH (K:=K) rfl) rfl M.m_isinstance fj (`a (`b 3 aQ rfl) (`a (@pA _ _ _ _ _ rfl A_NoNote (show RelV (.ref c_NoNote) _ from rfl) rfl) `o (aN rfl)) (aN rfl)) ar rfl (aN rfl) (cg rfl aW)) `o (aN rfl)) (aN rfl)) (aN rfl))))))) (by decide) rfl rfl (aN rfl) (cg rfl (cg rfl aW)) (fV rfl)) (`n (`q (`j `o)))),?_⟩
 trivial
 intro x dx hx hdx hne
 have S1:Same H (upd (upd H dx (.own x)) x (.ins C dx [])):=fun b u h=>by rw[aZ (bZ h hx),aZ (bZ h hdx)]; exact h
 have ex:∀ {D:Addr} {a b c':Bool} {H2:Hp},X3 K D c_NoKinds c_NoTree c_NoNote a b c' c_TariffError→Same H H2→[V.bl a,V.bl b,V.bl c']=mY c→∃ D',(Value.ref D)=Value.ref D'∧Gj K (Value.ref D') (Value.ref c_TariffError)=some true∧∀ (a:Addr),H2 a=none→lD K [V.ref a,V.ty "ValueError"] (upd H2 a (kU a D')) fun x H1=>∃ c,x=V.bl c∧if c=false then 1≤sizeLine∧∀ (p:Addr),H1 p=none→Q (V.ref p) (upd H1 p (HO.tup [V.str (Dj "other")])) else lD K [V.ref a,V.ref c_NoKinds] H1 fun x H1=>lD K [V.ref a,V.ref c_NoTree] H1 fun x_1 H1=>lD K [V.ref a,V.ref c_NoNote] H1 fun x_2 H1=>3≤sizeLine∧∀ (p:Addr),H1 p=none→Q (V.ref p) (upd H1 p (HO.tup [x,x_1,x_2])):=fun {D a b c' H2} W S hc=>by
  refine⟨D,rfl,W.su,fun e he=>?_⟩
  have S2:=bO he (kU e D)
  have e2:upd H2 e (kU e D) e=some (kU e D):=aT
  refine AK e2 W.xc W.kv ⟨_,rfl,?_⟩
  rw[if_neg (by decide)]
  refine nB e2 W.xc W.k0 (nB e2 W.xc W.k1 (nB e2 W.xc W.k2 ⟨by decide,fun p hp=>?_⟩))
  exact q p _ ((S.trans S2).trans (bO hp _)) (by rw[aT,hc])
 refine⟨x,dx,kv,rv,wv,?_⟩
 rcases cl with ⟨rfl,kvf⟩ | ⟨kl,kx,ks,rfl,LK',KA,kok,cl⟩
 ·exact⟨false,H,rfl,aT,S1,hx,kvf,fun _ H' S=>ex W0 S rfl,fun z=>by cases z⟩
 have kg:KindsV K H (.ref kl) true:=by have:=KindsV.good LK' (by have:=kok.l1; have:=KA.length; omega) (by have:=kok.l4; have:=KA.length; omega) KA kok.name; rwa [decide_eq_true kok.nd] at this
 refine⟨true,H,rfl,aT,S1,hx,kg,(fun z=>by cases z),fun _=>⟨kl,kx,ks,?_⟩⟩
 rcases cl with ⟨rfl,pf⟩ | ⟨z,rfl,okz,cl⟩
 ·exact⟨false,rfl,LK',KA,kok,pf,fun _ H' S=>ex W1 S rfl,fun z=>by cases z⟩
 refine⟨true,rfl,LK',KA,kok,.good okz,(fun z=>by cases z),fun _=>⟨z,?_⟩⟩
 rcases cl with ⟨rfl,rf⟩ | ⟨rl,us,rs,nt,gd,rfl,hR,ra,rok,rt,r1,r24,nts,cl⟩
 ·exact⟨false,rfl,rf,fun _ H' S=>ex W1 S rfl,fun z=>by cases z⟩
 refine⟨true,rfl,rt,(fun z=>by cases z),fun _=>⟨rl,us,rs,nt,gd,rfl,hR,ra,rok,r1,r24,nts,?_⟩⟩
 rcases cl with ⟨rfl,r,mr,gf⟩ | ⟨rfl,gt⟩
 ·refine⟨fun _ H' S=>ex W2 S rfl,fun z=>?_⟩
  rw[z r mr] at gf
  cases gf
 ·refine⟨fun ⟨r,mr,gf⟩=>?_,fun _ H' S=>⟨rfl,by decide,fun p hp=>q p _ (S.trans (bO hp _)) aT⟩⟩
  rw[gt r mr] at gf
  cases gf
end
end _N
namespace _O
open _y _B _C _D _E _F _G _I _J _K _L _M _N PySem _l
noncomputable def top (i:Nat):Stmt:=PySem.Challenge.pw_tariffgate_k42_trees_refused.main.body.getD i (.Pass ⟨0,0,0,0⟩)
abbrev fb:Stmt:=top 66
def aF:ScV ["_law_kinds_here","_law_deep_here","_law_note_here","_law_k"] ["_law_kinds_here","_law_deep_here"] fb:=scv (by decide +kernel)
theorem mL {K:cy} {H:Hp}:∀ {d:Nat} {p:Addr} {n:Nt},ToldAt K H (.ref p) n→n.ok→d<n.dp→NBad K H d (.ref p)
 | 0,p,n,_,_,_=>.zero _
 | d+1,p,n,R,ok,h=>by
  have two:∀ {z:Str} {a1 a2:Addr} {x y:Nt},joinW z→SqT K H p [.str z,.ref a1,.ref a2]→ToldAt K H (.ref a1) x→ToldAt K H (.ref a2) y→x.ok→y.ok→d<max x.dp y.dp→NBad K H (d+1) (.ref p):=fun {z a1 a2 x y} hz T R1 R2 o1 o2 hd=>by
   by_cases c:x.dp≤d
   ·exact .snd hz T R1 o1 c (mL R2 o2 (by omega))
   ·exact .fst hz T (mL R1 o1 (by exact Oz98 c))
  cases pJ R with
  | any _=>exact absurd h (by show ¬ d+1<1; exact Oz29)
  | made _=>exact absurd h (by show ¬ d+1<1; exact Oz29)
  | used _=>exact absurd h (by show ¬ d+1<1; exact Oz29)
  | chief _=>exact absurd h (by show ¬ d+1<1; exact Oz29)
  | over _ _ _=>exact absurd h (by show ¬ d+1<1; exact Oz29)
  | @both _ _ x y T R1 R2=>exact two (.inl rfl) T R1 R2 ok.1 ok.2 (by have h':d+1<max x.dp y.dp+1:=h; exact Oz64 h')
  | @either _ _ x y T R1 R2=>exact two (.inr (.inl rfl)) T R1 R2 ok.1 ok.2 (by have h':d+1<max x.dp y.dp+1:=h; exact Oz64 h')
  | @but _ _ x y T R1 R2=>exact two (.inr (.inr rfl)) T R1 R2 ok.1 ok.2 (by have h':d+1<max x.dp y.dp+1:=h; exact Oz64 h')
def pF (K:cy):Sp:=fun vs H Q _=>∃ (kl:Addr) (kx:List V) (ks:List Kd2) (m:Nat),vs=[.ref kl,.int (m:Int)]∧SqL K H kl kx∧KnA K H kx ks∧KsOk ks∧1≤m∧m≤6∧∀ (p:Addr) (n:Nt) (H':Hp),Same H H'→ToldAt K H' (.ref p) n→n.ok→n.dp=m→Q (.ref p) H'
def ur (F:Fun K "_law_deep" "_law_deep" fb f fd) (M:Mg mg):FnOk P w K mg base CX0 1 f fd ["_law_kinds_here","_law_deep_here"] (pF K):=by
 refine F.ok aF.fs (fun vs H Q E h=>?_) (fun cdv A outer s H vs Q E hr h=>?_)
 ·obtain⟨kl,kx,ks,m,rfl,_⟩:=h
  rfl
 obtain⟨kl,kx,ks,m,rfl,hK,KA,kok,m1,m6,q⟩:=h
 have k1:=kok.l1
 have lkx:kx.length=ks.length:=KA.length
 refine⟨_,(`f (`h 2 aF (`j (`a `p (`a (`g (@ix_tup _) (`g (@ix_list _) (`b 0 aF rfl) `c (fun _ _=>rfl)) `c (fun _ _=>rfl)) `o (aN rfl)) (aN rfl))) rfl) (`f (@jx _ _ _ _ _ _ _ _ FQ rfl (@iT _ _ _ _ _ _ rfl M.m_range (`a (`d (@jz _) (`b 1 aF rfl) `c) `o (aN rfl)) (star1' rfl)) (@dH _ _ 3 _ aF.nd rfl (ScV.loc aF 3 rfl) (.inl rfl)) (`n (`h 2 aF (@iM _ _ _ _ _ _ _ (`a (`j (`a `p (`a (`b 2 aF rfl) (`a (`j (`a `p `o (aN rfl))) `o (aN rfl)) (aN rfl)) (aN rfl))) (`a (`j (`a `p (`a (`j (`a `p `o (aN rfl))) (`a (`b 2 aF rfl) `o (aN rfl)) (aN rfl)) (aN rfl))) (`a (`j (`a `p (`a (`b 2 aF rfl) (`a (`j (`a `p `o (aN rfl))) `o (aN rfl)) (aN rfl)) (aN rfl))) `o (aN rfl)) (aN rfl)) (aN rfl)) (`d (@dF _) (`b 3 aF rfl) `c) (fun _ _=>rfl)) rfl)) (by intro _; rfl)) (`n (`q (`b 2 aF rfl))))),?_⟩
 refine eU fun tl htl=>?_
 trivial
 obtain⟨v0,hv0⟩:∃ v0,kx[0]?=some v0:=⟨kx[0]'(by omega),Dm _⟩
 obtain⟨p0,k0,rfl,hk0,T0⟩:=KA.at hv0
 have ok0:=kok.name k0 (Ds hk0)
 refine⟨_,hK,_,dX hv0,p0,rfl,_,T0,_,at0,by decide,fun p1 hp1=>?_⟩
 obtain⟨H1,g1,S1,T1⟩:=bN (K:=K) hp1 [V.str (Dj "made"),V.str (txt k0.1)]
 have g1':H1=upd H p1 (.tup [V.str (Dj "made"),V.str (txt k0.1)]):=g1
 show tl _ _ (upd H p1 (.tup [V.str (Dj "made"),V.str (txt k0.1)]))
 rw[← g1',htl]
 clear htl tl g1 g1'
 have R1:ToldAt K H1 (.ref p1) (.made k0.1):=.tup T1 (.cons (.str _) (.cons (.str _) .nil))
 trivial
 refine⟨by omega,by omega,?_⟩
 obtain⟨Pv,hP⟩:∃ Pv:Nat→St→Hp→Prop,Pv=fun i σ H'=>∃ (p:Addr) (n:Nt) (y:Option V),ToldAt K H' (.ref p) n∧n.ok∧n.dp=i+1∧Same H H'∧σ=[some (V.ref kl),some (V.int (m:Int)),some (V.ref p),y]:=⟨_,rfl⟩
 refine i8 Pv ?_ ?_ ?_
 ·rw[hP]
  exact⟨p1,_,_,R1,ok0.1,rfl,S1,rfl⟩
 ·intro i σ H' hi h
  rw[hP] at h
  obtain⟨p,n,y,R,okn,dn,e,rfl⟩:=h
  trivial
  refine⟨by decide,fun c1 hc1=>?_⟩
  obtain⟨I1,b1,W1,U1⟩:=bN (K:=K) hc1 [V.str (Dj "any")]
  rw[← b1]
  clear b1
  refine⟨by decide,fun c2 hc2=>?_⟩
  obtain⟨I2,b2,W2,U2⟩:=bN (K:=K) hc2 [V.str (Dj "both"),V.ref p,V.ref c1]
  rw[← b2]
  clear b2
  refine⟨by decide,fun c3 hc3=>?_⟩
  obtain⟨I3,b3,W3,U3⟩:=bN (K:=K) hc3 [V.str (Dj "any")]
  rw[← b3]
  clear b3
  refine⟨by decide,fun c4 hc4=>?_⟩
  obtain⟨I4,b4,W4,U4⟩:=bN (K:=K) hc4 [V.str (Dj "either"),V.ref c3,V.ref p]
  rw[← b4]
  clear b4
  refine⟨by decide,fun c5 hc5=>?_⟩
  obtain⟨I5,b5,W5,U5⟩:=bN (K:=K) hc5 [V.str (Dj "any")]
  rw[← b5]
  clear b5
  refine⟨by decide,fun c6 hc6=>?_⟩
  obtain⟨I6,b6,W6,U6⟩:=bN (K:=K) hc6 [V.str (Dj "but"),V.ref p,V.ref c5]
  rw[← b6]
  clear b6
  have W56:=W5.trans W6
  have W46:=W4.trans W56
  have W36:=W3.trans W46
  have W26:=W2.trans W36
  have W16:=W1.trans W26
  have R6:=R.same W16
  have any:∀ {c:Addr},SqT K I6 c [V.str (Dj "any")]→ToldAt K I6 (.ref c) .any:=fun h=>.tup h (.cons (.str _) .nil)
  have B:ToldAt K I6 (.ref c2) (.both n .any):=.tup (Same.tup W36 U2) (.cons (.str _) (.cons R6 (.cons (any (Same.tup W26 U1)) .nil)))
  have E:ToldAt K I6 (.ref c4) (.either .any n):=.tup (Same.tup W56 U4) (.cons (.str _) (.cons (any (Same.tup W46 U3)) (.cons R6 .nil)))
  have U:ToldAt K I6 (.ref c6) (.but n .any):=.tup U6 (.cons (.str _) (.cons R6 (.cons (any (Same.tup W6 U5)) .nil)))
  have dn1:=n.dp_pos
  have fin:∀ {x:Addr} {n':Nt},ToldAt K I6 (.ref x) n'→n'.ok→n'.dp=i+1+1→Pv (i+1) [some (V.ref kl),some (V.int (m:Int)),some (V.ref x),some (V.int (0+(i:Int)))] I6:=fun {x n'} a b c=>by
   rw[hP]
   exact⟨x,n',_,a,b,c,e.trans W16,rfl⟩
  refine⟨by decide,by decide,by omega,?_⟩
  have:((0+(i:Int)) % 3).toNat=0∨((0+(i:Int)) % 3).toNat=1∨((0+(i:Int)) % 3).toNat=2:=by omega
  rcases this with h | h | h <;> rw[h]
  ·exact⟨_,rfl,fin B ⟨okn,trivial⟩ (by show max n.dp 1+1=_; exact Oz48 dn)⟩
  ·exact⟨_,rfl,fin E ⟨trivial,okn⟩ (by show max 1 n.dp+1=_; omega)⟩
  ·exact⟨_,rfl,fin U ⟨okn,trivial⟩ (by show max n.dp 1+1=_; exact Oz48 dn)⟩
 intro σ H' h
 rw[hP] at h
 obtain⟨p,n,y,R,okn,dn,e,rfl⟩:=h
 trivial
 exact q p n H' e R okn (by rw[dn]; omega)
end _O
namespace _P
open _y _B _C _D _E _F _G _I _J _K _L _M _N _O PySem _l
noncomputable def top (i:Nat):Stmt:=PySem.Challenge.pw_tariffgate_k42_trees_refused.main.body.getD i (.Pass ⟨0,0,0,0⟩)
abbrev cB:Stmt:=top 67
def ai:ScV ["_law_kinds_here","_law_cell","_law_stuff","_law_use","_law_some"] ["_law_kinds_here","_law_cell"] cB:=scv (by decide +kernel)
def qv (K:cy):Sp:=fun vs H Q _=>∃ (kl:Addr) (kx:List V) (ks:List Kd2) (c:Int),vs=[.ref kl,.int c]∧SqL K H kl kx∧KnA K H kx ks∧KsOk ks∧∀ (v:V) (H':Hp),Same H H'→NBad K H' 5 v→Q v H'
def AllBad (K:cy) (H:Hp) (xs:List V):Prop:=∀ v∈xs,NBad K H 5 v
def AllBad.same (h:AllBad K H xs) (e:Same H H'):AllBad K H' xs:=fun v hv=>(h v hv).same e
def wW:AllBad K H []:=fun _ h=>nomatch h
def allB (a:NBad K H 5 v) (b:AllBad K H xs):AllBad K H (v::xs):=fun u h=>by
 cases h with
 | head=>exact a
 | tail _ h=>exact b u h
def AllBad.app (a:AllBad K H xs) (b:AllBad K H ys):AllBad K H (xs++ys):=fun u h=>(DV.mp h).elim (a u) (b u)
def vE {k:Kd2} {p:Addr} (ok:nameB k.1=true∧nameB k.2=true) (T:SqT K H p [.str (txt k.1),.str (txt k.2)]):KindV K H (.ref p) true:=by
 have a:=gJ ok.1
 have b:=gJ ok.2
 have h:=KindV.two T (.txt a.1 (by omega)) (.txt b.1 (by omega))
 rw[ok.1,ok.2] at h
 exact h
def B8 {cs:List Nat} (h:asc cs):asc (cs++[32]):=by
 unfold asc at h ⊢
 rw[Jg,h]
 rfl
def vB {cs:List Nat} (h:nameB cs=true):NameV K H (.str (txt (cs++[32]))) false:=by
 have a:=gJ h
 have e:nameB (cs++[32])=false:=by
  unfold nameB
  rw[Jg,show [32].all kO=false from rfl,Fj,Fj]
 exact e ▸ NameV.txt (K:=K) (H:=H) (B8 a.1) (by rw[Dp]; show cs.length+1≤1000; omega)
def oq (F:Fun K "_law_bad_note" "_law_bad_note" cB f fd) (M:Mg mg) (bI:Cal P w K mg base CX0 "_law_deep" 1 ["_law_kinds_here","_law_deep_here"] (pF K)):FnOk P w K mg base CX0 2 f fd ["_law_kinds_here","_law_cell"] (qv K):=by
 refine F.ok ai.fs (fun vs H Q E h=>?_) (fun cdv A outer s H vs Q E hr h=>?_)
 ·obtain⟨kl,kx,ks,c,rfl,_⟩:=h
  rfl
 obtain⟨kl,kx,ks,c,rfl,hK,KA,kok,q⟩:=h
 have k1:=kok.l1
 have lkx:kx.length=ks.length:=KA.length
 refine⟨_,(`f (@jP _ _ _ _ _ _ (`g (@ix_list _) (`b 0 ai rfl) (`d (@dF _) (`b 1 ai rfl) (`i cQ rfl M.m_len fM (`a (`b 0 ai rfl) `o (aN rfl)) aq rfl (aN rfl) aW)) (fun _ _=>rfl)) (@rY _ _ _ _ _ _ rfl (@gD _ _ _ _ _ (@dH _ _ 2 _ ai.nd rfl (ScV.loc ai 2 rfl) (.inl rfl)) (@gD _ _ _ _ _ (@dH _ _ 3 _ ai.nd rfl (ScV.loc ai 3 rfl) (.inl rfl)) (@j9 _) (by rfl)) (by rfl)) (by rfl) (by rfl)) (by rfl) (by rfl) (by rfl)) (`f (`h 4 ai (@fS _ _ _ _ (`a (`j (`a `p (`a `c `o (aN rfl)) (aN rfl))) (`a (`j `o) (`a `p (`a (@iV _ _ _) (`a (@fS _ _ _ _ (`a `p `o (aN rfl))) (`a (`j (`a `p `o (aN rfl))) (`a (`j (`a `p (`a (`d vJ (`b 2 ai rfl) `p) `o (aN rfl)) (aN rfl))) (`a (`j (`a `p (`a `c `o (aN rfl)) (aN rfl))) (`a (`j (`a `p (`a (`b 3 ai rfl) (`a (`b 3 ai rfl) `o (aN rfl)) (aN rfl)) (aN rfl))) `o (aN rfl)) (aN rfl)) (aN rfl)) (aN rfl)) (aN rfl)) (aN rfl)) (aN rfl)) (aN rfl)) (aN rfl))) rfl) (`f (`h 4 ai (`d (@jv _) (`b 4 ai rfl) (@fS _ _ _ _ (`a (`j (`a `p (`a (`j (`a (`b 2 ai rfl) (`a (`b 3 ai rfl) `o (aN rfl)) (aN rfl))) `o (aN rfl)) (aN rfl))) (`a (`j (`a `p (`a (`j (`a (`b 2 ai rfl) (`a (`b 3 ai rfl) `o (aN rfl)) (aN rfl))) (`a (`b 2 ai rfl) `o (aN rfl)) (aN rfl)) (aN rfl))) (`a (`j (`a `p (`a (`j (`a `p `o (aN rfl))) `o (aN rfl)) (aN rfl))) (`a (`j (`a `p `o (aN rfl))) (`a (`d Aa (`j (`a `p `o (aN rfl))) `c) `o (aN rfl)) (aN rfl)) (aN rfl)) (aN rfl)) (aN rfl)))) rfl) (`f (`h 4 ai (`d (@jv _) (`b 4 ai rfl) (@fS _ _ _ _ (`a (`j (`a `p (`a (`j (`a `p `o (aN rfl))) (`a (`j (`a `p (`a `p `o (aN rfl)) (aN rfl))) `o (aN rfl)) (aN rfl)) (aN rfl))) (`a (`j (`a `p (`a (@iV _ _ _) (`a (`j (`a `p `o (aN rfl))) `o (aN rfl)) (aN rfl)) (aN rfl))) (`a (`e bI hr rfl (`a (`b 0 ai rfl) (`a `c `o (aN rfl)) (aN rfl)) (by decide) rfl (aN rfl) (cg rfl aW)) (`a (`j (`a `c (`a (`b 2 ai rfl) `o (aN rfl)) (aN rfl))) `o (aN rfl)) (aN rfl)) (aN rfl)) (aN rfl)))) rfl) (`n (`q (`g (@ix_list _) (`b 4 ai rfl) (`d (@dF _) (`d (@dY _) (`b 1 ai rfl) `c) `c) (fun _ _=>rfl)))))))),?_⟩
 refine eU fun tl htl=>?_
 trivial
 have j0:=DB c (show (kx.length:Int)≠0 by exact Oz34 k1 lkx)
 have j1:=Dv c (show (0:Int)<(kx.length:Int) by exact Oz12 k1 lkx)
 obtain⟨jj,hj⟩:∃ j:Nat,c % (kx.length:Int)=j:=⟨(c % (kx.length:Int)).toNat,by exact Oz0 j0⟩
 obtain⟨v0,hv0⟩:∃ v0,kx[jj]?=some v0:=⟨kx[jj]'(by exact Oz16 j1 hj),Dm _⟩
 obtain⟨p0,k0,rfl,hk0,T0⟩:=KA.at hv0
 have ok0:=kok.name k0 (Ds hk0)
 refine⟨_,.inl hK,by exact Oz12 k1 lkx,_,hK,_,(by rw[hj]; exact dX hv0),p0,rfl,_,T0,rfl,_,_,rfl,_,_,rfl,rfl,?_⟩
 rw[htl]
 clear htl tl
 refine eU fun tl htl=>?_
 trivial
 refine⟨by decide,fun c1 hc1=>?_⟩
 obtain⟨I1,b1,W1,U1⟩:=bN (K:=K) hc1 [V.str (Dj "any"),V.int 1]
 rw[← b1]
 clear b1
 refine⟨by decide,fun c2 hc2=>?_⟩
 obtain⟨I2,b2,W2,U2⟩:=bN (K:=K) hc2 []
 rw[← b2]
 clear b2
 refine⟨by decide,fun c3 hc3=>?_⟩
 obtain⟨I3,b3,W3,U3⟩:=dW (K:=K) hc3 [V.str (Dj "any")]
 rw[← b3]
 clear b3
 refine⟨by decide,fun c4 hc4=>?_⟩
 obtain⟨I4,b4,W4,U4⟩:=bN (K:=K) hc4 [V.str (Dj "made")]
 rw[← b4]
 clear b4
 refine⟨_,rfl,[32],rfl,by have:=(gJ ok0.1).2; show k0.1.length+1≤1000; exact Oz79 this,?_⟩
 refine⟨by decide,fun c5 hc5=>?_⟩
 obtain⟨I5,b5,W5,U5⟩:=bN (K:=K) hc5 [V.str (Dj "made"),V.str (txt (k0.1++[32]))]
 rw[← b5]
 clear b5
 refine⟨by decide,fun c6 hc6=>?_⟩
 obtain⟨I6,b6,W6,U6⟩:=bN (K:=K) hc6 [V.str (Dj "used"),V.int 3]
 rw[← b6]
 clear b6
 refine⟨by decide,fun c7 hc7=>?_⟩
 obtain⟨I7,b7,W7,U7⟩:=bN (K:=K) hc7 [V.str (Dj "chief"),V.str (txt k0.2),V.str (txt k0.2)]
 rw[← b7]
 clear b7
 refine⟨by decide,fun c8 hc8=>?_⟩
 obtain⟨I8,b8,W8,U8⟩:=dW (K:=K) hc8 [V.ref c1,V.ref c2,V.str (Dj "any"),V.non,V.ref c3,V.ref c4,V.ref c5,V.ref c6,V.ref c7]
 have Z8:I8 c8=some (.lst [V.ref c1,V.ref c2,V.str (Dj "any"),V.non,V.ref c3,V.ref c4,V.ref c5,V.ref c6,V.ref c7]):=by rw[b8]; exact aT
 rw[← b8]
 clear b8
 have X7:=W8
 have X6:=W7.trans X7
 have X5:=W6.trans X6
 have X4:=W5.trans X5
 have X3:=W4.trans X4
 have X2:=W3.trans X3
 have X1:=W2.trans X2
 have B1:AllBad K I8 [V.ref c1,V.ref c2,V.str (Dj "any"),V.non,V.ref c3,V.ref c4,V.ref c5,V.ref c6,V.ref c7]:=allB (.one (Same.tup X1 U1) (.inl (by decide)) (.n1 (.no (k:=.int) rfl (by decide)))) <| allB (.nil (Same.tup X2 U2)) <| allB (.no (k:=.str) rfl (by decide)) <| allB (.no (k:=.non) rfl (by decide)) <| allB (.no (k:=.lst) (.inl ⟨rfl,_,X3.seq U3⟩) (by decide)) <| allB (.one (Same.tup X4 U4) (.inl (by decide)) (.w0 (by decide))) <| allB (.one (Same.tup X5 U5) (.inl (by show (1:Nat)≠2; decide)) (.n1 (vB ok0.1))) <| allB (.one (Same.tup X6 U6) (.inl (by decide)) (.n1 (.no (k:=.int) rfl (by decide)))) <| allB (.one (Same.tup X7 U7) (.inr (.inr (.inr (.inr rfl)))) (.w2 (by decide))) wW
 have S8:=W1.trans X1
 rw[htl]
 clear htl tl hc1 hc2 hc3 hc4 hc5 hc6 hc7 hc8 X1 X2 X3 X4 X5 X6 X7 U1 U2 U3 U4 U5 U6 U7 W1 W2 W3 W4 W5 W6 W7 W8
 refine eU fun tl htl=>?_
 trivial
 refine⟨by decide,fun c9 hc9=>?_⟩
 obtain⟨I9,b9,W9,U9⟩:=bN (K:=K) hc9 [V.str (txt k0.1),V.str (txt k0.2)]
 rw[← b9]
 clear b9
 refine⟨by decide,fun c10 hc10=>?_⟩
 obtain⟨I10,b10,W10,U10⟩:=bN (K:=K) hc10 [V.str (Dj "over"),V.ref c9]
 rw[← b10]
 clear b10
 refine⟨by decide,fun c11 hc11=>?_⟩
 obtain⟨I11,b11,W11,U11⟩:=bN (K:=K) hc11 [V.str (txt k0.1),V.str (txt k0.2)]
 rw[← b11]
 clear b11
 refine⟨by decide,fun c12 hc12=>?_⟩
 obtain⟨I12,b12,W12,U12⟩:=bN (K:=K) hc12 [V.str (Dj "over"),V.ref c11,V.str (txt k0.1)]
 rw[← b12]
 clear b12
 refine⟨by decide,fun c13 hc13=>?_⟩
 obtain⟨I13,b13,W13,U13⟩:=bN (K:=K) hc13 [V.str (Dj "any")]
 rw[← b13]
 clear b13
 refine⟨by decide,fun c14 hc14=>?_⟩
 obtain⟨I14,b14,W14,U14⟩:=bN (K:=K) hc14 [V.str (Dj "both"),V.ref c13]
 rw[← b14]
 clear b14
 refine⟨by decide,fun c15 hc15=>?_⟩
 obtain⟨I15,b15,W15,U15⟩:=bN (K:=K) hc15 [V.str (Dj "none")]
 rw[← b15]
 clear b15
 refine⟨by decide,fun c16 hc16=>?_⟩
 obtain⟨I16,b16,W16,U16⟩:=bN (K:=K) hc16 [V.str (Dj "any")]
 rw[← b16]
 clear b16
 refine⟨_,U16,?_⟩
 intro c17 hc17
 obtain⟨I17,b17,W17,U17⟩:=bN (K:=K) hc17 [V.str (Dj "any"),V.str (Dj "any")]
 rw[← b17]
 clear b17
 refine⟨by decide,fun c18 hc18=>?_⟩
 obtain⟨I18,b18,W18,U18⟩:=dW (K:=K) hc18 [V.ref c10,V.ref c12,V.ref c14,V.ref c15,V.ref c17]
 have Z18:I18 c18=some (.lst [V.ref c10,V.ref c12,V.ref c14,V.ref c15,V.ref c17]):=by rw[b18]; exact aT
 rw[← b18]
 clear b18
 have X17:=W18
 have X16:=W17.trans X17
 have X15:=W16.trans X16
 have X14:=W15.trans X15
 have X13:=W14.trans X14
 have X12:=W13.trans X13
 have X11:=W12.trans X12
 have X10:=W11.trans X11
 have X9:=W10.trans X10
 have X8:=W9.trans X9
 refine⟨_,X8 _ _ Z8,_,Z18,(show 9+5≤sizeLine by decide),fun c19 hc19=>?_⟩
 obtain⟨I19,b19,W19,U19⟩:=dW (K:=K) hc19 ([V.ref c1,V.ref c2,V.str (Dj "any"),V.non,V.ref c3,V.ref c4,V.ref c5,V.ref c6,V.ref c7]++[V.ref c10,V.ref c12,V.ref c14,V.ref c15,V.ref c17])
 have Z19:I19 c19=some (.lst ([V.ref c1,V.ref c2,V.str (Dj "any"),V.non,V.ref c3,V.ref c4,V.ref c5,V.ref c6,V.ref c7]++[V.ref c10,V.ref c12,V.ref c14,V.ref c15,V.ref c17])):=by rw[b19]; exact aT
 rw[← b19]
 clear b19
 have B2:AllBad K I18 [V.ref c10,V.ref c12,V.ref c14,V.ref c15,V.ref c17]:=allB (.one (Same.tup X10 U10) (.inl (by show (1:Nat)≠2; decide)) (.n1 (.no (k:=.tup) (.inr (.inl ⟨rfl,_,Same.tup X9 U9⟩)) (by decide)))) <| allB (.one (Same.tup X12 U12) (.inr (.inl rfl)) (.k2 (vE ok0 (Same.tup X11 U11)) (.no (k:=.str) rfl (by decide)))) <| allB (.one (Same.tup X14 U14) (.inl (by show (1:Nat)≠2; decide)) (.n1 (.no (k:=.tup) (.inr (.inl ⟨rfl,_,Same.tup X13 U13⟩)) (by decide)))) <| allB (.one (Same.tup X15 U15) (.inl (by decide)) (.w0 (by decide))) <| allB (.one (Same.tup X17 U17) (.inl (by decide)) (.m1 (s:=[97,110,121]) (by decide) (by decide) (by decide) rfl)) wW
 have B3:=((B1.same X8).app B2).same W19
 have S19:=(S8.trans X8).trans W19
 rw[htl]
 clear htl tl hc9 hc10 hc11 hc12 hc13 hc14 hc15 hc16 hc17 hc18 hc19 X8 X9 X10 X11 X12 X13 X14 X15 X16 X17 U8 U9 U10 U11 U12 U13 U14 U15 U16 U17 U18 W9 W10 W11 W12 W13 W14 W15 W16 W17 W18 W19 B1 B2 S8 Z8 Z18
 refine eU fun tl htl=>?_
 trivial
 refine⟨by decide,fun c20 hc20=>?_⟩
 obtain⟨I20,b20,W20,U20⟩:=bN (K:=K) hc20 [V.str (Dj "any")]
 rw[← b20]
 clear b20
 refine⟨by decide,fun c21 hc21=>?_⟩
 obtain⟨I21,b21,W21,U21⟩:=bN (K:=K) hc21 [V.str (Dj "made"),V.str (Dj "")]
 rw[← b21]
 clear b21
 refine⟨by decide,fun c22 hc22=>?_⟩
 obtain⟨I22,b22,W22,U22⟩:=bN (K:=K) hc22 [V.str (Dj "both"),V.ref c20,V.ref c21]
 rw[← b22]
 clear b22
 refine⟨by decide,fun c23 hc23=>?_⟩
 obtain⟨I23,b23,W23,U23⟩:=bN (K:=K) hc23 [V.str (Dj "any")]
 rw[← b23]
 clear b23
 refine⟨by decide,fun c24 hc24=>?_⟩
 obtain⟨I24,b24,W24,U24⟩:=bN (K:=K) hc24 [V.str (Dj "but"),V.non,V.ref c23]
 rw[← b24]
 clear b24
 have Y23:=W24
 have Y22:=W23.trans Y23
 have Y21:=W22.trans Y22
 have Y20:=W21.trans Y21
 have Y19:=W20.trans Y20
 have S24:=S19.trans Y19
 refine⟨kl,kx,ks,6,rfl,S24.seq hK,KA.same S24,kok,by decide,by decide,fun pd nd I25 W25 Rd okd dd=>?_⟩
 refine⟨by decide,fun c26 hc26=>?_⟩
 obtain⟨I26,b26,W26,U26⟩:=bN (K:=K) hc26 [V.int 3,V.str (txt k0.1)]
 rw[← b26]
 clear b26
 refine⟨by decide,fun c27 hc27=>?_⟩
 obtain⟨I27,b27,W27,U27⟩:=dW (K:=K) hc27 [V.ref c22,V.ref c24,V.ref pd,V.ref c26]
 have Z27:I27 c27=some (.lst [V.ref c22,V.ref c24,V.ref pd,V.ref c26]):=by rw[b27]; exact aT
 rw[← b27]
 clear b27
 have Y26:=W27
 have Y25:=W26.trans Y26
 have Y24:=W25.trans Y25
 refine⟨_,Y24 _ _ (Y19 _ _ Z19),_,Z27,(show 14+4≤sizeLine by decide),fun c28 hc28=>?_⟩
 obtain⟨xs,hxs⟩:∃ xs,xs=[V.ref c1,V.ref c2,V.str (Dj "any"),V.non,V.ref c3,V.ref c4,V.ref c5,V.ref c6,V.ref c7]++[V.ref c10,V.ref c12,V.ref c14,V.ref c15,V.ref c17]++[V.ref c22,V.ref c24,V.ref pd,V.ref c26]:=⟨_,rfl⟩
 rw[← hxs]
 have B4:AllBad K I27 [V.ref c22,V.ref c24,V.ref pd,V.ref c26]:=allB (.snd (n:=.any) (.inl rfl) (Same.tup (Y22.trans Y24) U22) (.tup (Same.tup (Y20.trans Y24) U20) (.cons (.str _) .nil)) trivial (by decide) (.one (Same.tup (Y21.trans Y24) U21) (.inl (by decide)) (.n1 (NameV.txt (cs:=[]) rfl (by decide))))) <| allB (.fst (.inr (.inr rfl)) (Same.tup Y24 U24) (.no (k:=.non) rfl (by decide))) <| allB (mL (Rd.same Y25) okd (by omega)) <| allB (.head (Same.tup Y26 U26) (k:=.int) rfl (by decide)) wW
 have B5:AllBad K I27 xs:=by
  rw[hxs]
  exact (B3.same (Y19.trans Y24)).app B4
 have lx:xs.length=18:=by rw[hxs]; rfl
 have S27:=S24.trans Y24
 obtain⟨I28,b28,W28,U28⟩:=dW (K:=K) hc28 xs
 rw[← b28,htl]
 clear htl tl hc28 hxs b28
 trivial
 have i0:=DB (c / 4) (show (18:Int)≠0 by decide)
 have i1:=Dv (c / 4) (show (0:Int)<18 by decide)
 obtain⟨ii,hi⟩:∃ j:Nat,c / 4 % 18=j:=⟨(c / 4 % 18).toNat,by omega⟩
 obtain⟨v,hv⟩:∃ v,xs[ii]?=some v:=⟨xs[ii]'(by omega),Dm _⟩
 exact⟨cdiv (by decide) (by decide),by decide,_,U28,_,by rw[hi]; exact dX hv,q v I28 (S27.trans W28) ((B5 v (Ds hv)).same W28)⟩
end _P
namespace _Q
open _y _B _C _D _E _F _G _I _J _K _L _M _N _O _P PySem _l
noncomputable def top (i:Nat):Stmt:=PySem.Challenge.pw_tariffgate_k42_trees_refused.main.body.getD i (.Pass ⟨0,0,0,0⟩)
abbrev bV:Stmt:=top 61
def aw:ScV ["_law_kinds_here","_law_cell","_law_some"] ["_law_kinds_here","_law_cell"] bV:=scv (by decide +kernel)
def uS (K:cy):Sp:=fun vs H Q _=>∃ (kl:Addr) (kx:List V) (ks:List Kd2) (c:Int),vs=[.ref kl,.int c]∧H kl=some (.lst kx)∧KnA K H kx ks∧KsOk ks∧∀ (v:V) (H':Hp),Same H H'→KindsV K H' v false→(∀ l o,H l=some o→v≠.ref l)→Q v H'
def yt (h:1≤xs.length):gC xs none (some (-1))=xs.dropLast:=by
 have e:_ht.sIx xs.length xs.length (some (-1))=xs.length-1:=by
  show (if (-1:Int)<0 then (-1+(xs.length:Int)).toNat else min (-1:Int).toNat xs.length)=_
  rw[if_pos (by decide)]
  exact Oz5
 unfold gC
 rw[e,_ht.sIx_none,FF,Nat.sub_zero,G8]
def nP (h:xs[xs.length-1]?=some v):atI xs (-1)=some v:=by
 have l:=(yp.mp h).1
 unfold atI ixN
 rw[if_neg (by decide),if_pos (by omega)]
 have e:((-1:Int)+(xs.length:Int)).toNat=xs.length-1:=by exact Oz5
 show xs[((-1:Int)+(xs.length:Int)).toNat]?=_
 rw[e]
 exact h
def AW {ks js:List Kd2} (h:KnA K H xs ks) (g:KnA K H ys js):KnA K H (xs++ys) (ks++js):=by
 induction h with
 | nil=>exact g
 | cons t _ ih=>exact .cons t ih
def AF {ks:List Kd2} (h:KnA K H xs ks) (ok:∀ k∈ks,nameB k.1=true∧nameB k.2=true) (v:V) (m:v∈xs):KindV K H v true:=by
 obtain⟨i,hi⟩:=Et.mp m
 obtain⟨p,k,rfl,hk,T⟩:=h.at hi
 exact vE (ok k (Ds hk)) T
theorem rD {K:cy} {H:Hp} {u:V}:∀ {xs:List V},(∀ v∈xs,KindV K H v true)→KindV K H u false→∃ bs,KindV2 K H (xs++[u]) bs∧bs.all id=false
 | [],_,g=>⟨_,.cons g .nil,rfl⟩
 | x::xs,h,g=>by
  obtain⟨bs,a,b⟩:=rD (xs:=xs) (fun v m=>h v (DI _ m)) g
  exact⟨_,.cons (h x DX) a,by rw[GK,b,Fj]⟩
def nD (F:Fun K "_law_bad_kinds" "_law_bad_kinds" bV f fd) (M:Mg mg):FnOk P w K mg base CX0 1 f fd ["_law_kinds_here","_law_cell"] (uS K):=by
 refine F.ok aw.fs (fun vs H Q E h=>?_) (fun cdv A outer s H vs Q E hr h=>?_)
 ·obtain⟨kl,kx,ks,c,rfl,_⟩:=h
  rfl
 obtain⟨kl,kx,ks,c,rfl,hk,KA,kok,q⟩:=h
 have hK:SqL K H kl kx:=SqL.of hk
 have k1:=kok.l1
 have lkx:kx.length=ks.length:=KA.length
 have k4:=kok.l4
 have small5:kx.length+1≤sizeLine:=Nat.le_trans (show kx.length+1≤5 by omega) (by decide)
 refine⟨_,(`f (`h 2 aw (@fS _ _ _ _ (`a (@fS _ _ _ _ `o) (`a (`d (@jv _) (`b 0 aw rfl) (@fS _ _ _ _ (`a (`g (@ix_list _) (`b 0 aw rfl) (`d (@dF _) (`d (@dY _) (`b 1 aw rfl) `c) (`i cQ rfl M.m_len fM (`a (`b 0 aw rfl) `o (aN rfl)) aq rfl (aN rfl) aW)) (fun _ _=>rfl)) `o (aN rfl)))) (`a (@gF _ _ _ _ _ _ _ _ _ jV rfl M.m_tuple iN (`a (`b 0 aw rfl) `o (aN rfl)) aL rfl (aN rfl) aW) (`a (@iV _ _ _) `o (aN rfl)) (aN rfl)) (aN rfl)) (aN rfl))) rfl) (`f (@gY _ _ _ _ (@iG _ _ _ _ _ _ _ _ _ _ _ _ DQ EO ER iS (`b 2 aw rfl) (`a (`r rfl (CompOk.make (N':=["_law_k"]) (ix:=[]) (nl:=1) (by rfl) fm0 (by rfl) (by decide +kernel) rfl (by decide +kernel) rfl DY) (@mF _ _ _ _ _ _ _ rfl M.m_range (`a `c (`a `c `o (aN rfl)) (aN rfl)) (star2' rfl rfl) (star1' rfl)) (fun _ _ _ _ _=>(@dH _ _ 0 _ (show D5 (["_law_k"]:List Str) from by decide) rfl (Or.inl rfl) (by first | exact .inl rfl | exact .inr rfl | assumption))) (fun _ _ _ _ _=>(@gx _)) (fun _ _ _ _ _=>(`j (`a (`d A6 `p (@pv _ 0 _ _ (by rfl) (by decreasing_trivial) (by decide) (by decide))) (`a `p `o (aN rfl)) (aN rfl)))) (by intro _; rfl)) `o (aN rfl)) (by rfl) (by rfl) (by rfl) (by rfl) (by rfl)) (fV rfl)) (`f (@gY _ _ _ _ (@iG _ _ _ _ _ _ _ _ _ _ _ _ DQ EO ER iS (`b 2 aw rfl) (`a (`d (@jv _) (@gK _ _ _ _ _ _ _ _ _ _ (@kX _) (`b 0 aw rfl) (@iA _) (@gP _ _ _ (@kI _ _ _ _ _ _ (@jO _) `c))) (@fS _ _ _ _ (`a (`j (`a (`g (@ix_tup _) (`g (@ix_list _) (`b 0 aw rfl) (@kI _ _ _ _ _ _ (@jO _) `c) (fun _ _=>rfl)) `c (fun _ _=>rfl)) (`a (`d vJ (`g (@ix_tup _) (`g (@ix_list _) (`b 0 aw rfl) (@kI _ _ _ _ _ _ (@jO _) `c) (fun _ _=>rfl)) `c (fun _ _=>rfl)) `p) `o (aN rfl)) (aN rfl))) `o (aN rfl)))) `o (aN rfl)) (by rfl) (by rfl) (by rfl) (by rfl) (by rfl)) (fV rfl)) (`n (`q (`g (@ix_list _) (`b 2 aw rfl) (`d (@dF _) (`b 1 aw rfl) `c) (fun _ _=>rfl))))))),?_⟩
 refine eU fun tl htl=>?_
 trivial
 refine⟨by decide,fun c1 hc1=>?_⟩
 obtain⟨I1,b1,W1,U1⟩:=dW (K:=K) hc1 []
 rw[← b1]
 clear b1
 have j0:=DB (c / 6) (show (kx.length:Int)≠0 by exact Oz34 k1 lkx)
 have j1:=Dv (c / 6) (show (0:Int)<(kx.length:Int) by exact Oz12 k1 lkx)
 obtain⟨jj,hj⟩:∃ j:Nat,c / 6 % (kx.length:Int)=j:=⟨(c / 6 % (kx.length:Int)).toNat,by exact Oz0 j0⟩
 obtain⟨v0,hv0⟩:∃ v0,kx[jj]?=some v0:=⟨kx[jj]'(by exact Oz16 j1 hj),Dm _⟩
 refine⟨cdiv (by decide) (by decide),_,.inl (W1.seq hK),by exact Oz12 k1 lkx,_,W1.seq hK,_,(by rw[hj]; exact dX hv0),?_⟩
 refine⟨by decide,fun c2 hc2=>?_⟩
 obtain⟨I2,b2,W2,U2⟩:=dW (K:=K) hc2 [v0]
 have Z2:I2 c2=some (.lst [v0]):=by rw[b2]; exact aT
 rw[← b2]
 clear b2
 refine⟨_,W2 _ _ (W1 _ _ hk),_,Z2,small5,?_⟩
 intro c3 hc3
 obtain⟨I3,b3,W3,U3⟩:=dW (K:=K) hc3 (kx++[v0])
 rw[← b3]
 clear b3
 refine⟨kx,.inl ⟨W3.seq (W2.seq (W1.seq hK)),?_⟩⟩
 intro c4 hc4
 obtain⟨I4,b4,W4,U4⟩:=bN (K:=K) hc4 kx
 rw[← b4]
 clear b4
 refine⟨by decide,fun c5 hc5=>?_⟩
 obtain⟨I5,b5,W5,U5⟩:=dW (K:=K) hc5 [V.ref c1,V.ref c3,V.ref c4,V.non]
 have Z5:I5 c5=some (.lst [V.ref c1,V.ref c3,V.ref c4,V.non]):=by rw[b5]; exact aT
 rw[← b5]
 clear b5
 rw[htl]
 clear htl tl
 refine eU fun tl htl=>?_
 trivial
 refine⟨.inl ⟨rfl,_,SqL.of Z5⟩,by decide,by decide,by decide,by decide,fun D hD=>?_⟩
 obtain⟨Pc,hC⟩:∃ Pc:Nat→St→Hp→Prop,Pc=fun i τ H''=>∃ ys z,H'' D=some (.lst ys)∧ys.length=i∧Same I5 H''∧τ=[z]:=⟨_,rfl⟩
 refine jK Pc ?_ ?_ ?_
 ·rw[hC]
  exact⟨_,_,aT,rfl,bO hD _,rfl⟩
 ·intro i τ H'' R hi h next
  have hi':i<5:=hi
  rw[hC] at h
  obtain⟨ys,z,d1,d2,d3,rfl⟩:=h
  trivial
  refine⟨113,rfl,1+i,by omega,by omega,by omega,by decide,fun p hp=>⟨ys,by rw[aZ (bZ d1 hp)]; exact d1,eV (by omega),next _ _ ?_⟩⟩
  rw[hC]
  exact⟨_,_,aT,by rw[Dp,d2]; rfl,fun b o hb=>by rw[aZ (bZ hb hD)]; exact bO hp _ _ _ (d3 _ _ hb),rfl⟩
 intro τ H6 h
 rw[hC] at h
 obtain⟨ys,z,d1,d2,d3,rfl⟩:=h
 have d2':ys.length=5:=d2
 refine⟨_,d3 _ _ Z5,eV (show 5≤64 by decide),?_⟩
 rw[htl]
 clear htl tl
 refine eU fun tl htl=>?_
 trivial
 obtain⟨I7,h7⟩:∃ I7,I7=upd H6 c5 (.lst [V.ref c1,V.ref c3,V.ref c4,V.non,V.ref D]):=⟨_,rfl⟩
 have Z7:I7 c5=some (.lst [V.ref c1,V.ref c3,V.ref c4,V.non,V.ref D]):=by rw[h7]; exact aT
 have E7:Same I4 I7:=fun b o hb=>by rw[h7,aZ (bZ hb hc5)]; exact d3 _ _ (W5 _ _ hb)
 have D7:I7 D=some (.lst ys):=by rw[h7,aZ (fun e=>by rw[e,Z5] at hD; cases hD)]; exact d1
 rw[← h7]
 have S4:=W1.trans (W2.trans (W3.trans W4))
 have S7:=S4.trans E7
 have hl0:kx[kx.length-1]?=some (kx[kx.length-1]'(by omega)):=Dm _
 obtain⟨pl,kl',ev,hkl,Tl⟩:=KA.at hl0
 rw[ev] at hl0
 have okl:=kok.name kl' (Ds hkl)
 refine⟨.inl ⟨rfl,_,SqL.of Z7⟩,kx,S7.seq hK,?_⟩
 rw[yt (by exact Oz32 k1 lkx)]
 intro c8 hc8
 obtain⟨I8,b8,W8,U8⟩:=dW (K:=K) hc8 kx.dropLast
 have Z8:I8 c8=some (.lst kx.dropLast):=by rw[b8]; exact aT
 rw[← b8]
 clear b8
 have S8:=S7.trans W8
 refine⟨kx,S8.seq hK,_,nP hl0,pl,rfl,_,Same.tup S8 Tl,_,at0,kx,S8.seq hK,_,nP hl0,pl,rfl,_,Same.tup S8 Tl,_,dX (j:=1) rfl,_,rfl,[32],rfl,by have:=(gJ okl.2).2; show kl'.2.length+1≤1000; exact Oz79 this,?_⟩
 refine⟨by decide,fun c9 hc9=>?_⟩
 obtain⟨I9,b9,W9,U9⟩:=bN (K:=K) hc9 [V.str (txt kl'.1),V.str (txt (kl'.2++[32]))]
 have Z9:I9 c9=some (.tup [V.str (txt kl'.1),V.str (txt (kl'.2++[32]))]):=by rw[b9]; exact aT
 rw[← b9]
 clear b9
 refine⟨by decide,fun c10 hc10=>?_⟩
 obtain⟨I10,b10,W10,U10⟩:=dW (K:=K) hc10 [V.ref c9]
 have Z10:I10 c10=some (.lst [V.ref c9]):=by rw[b10]; exact aT
 rw[← b10]
 clear b10
 refine⟨_,W10 _ _ (W9 _ _ Z8),_,Z10,by rw[Fe]; exact Nat.le_trans (show kx.length-1+1≤5 by omega) (by decide),?_⟩
 intro c11 hc11
 obtain⟨I11,b11,W11,U11⟩:=dW (K:=K) hc11 (kx.dropLast++[V.ref c9])
 have Z11:I11 c11=some (.lst (kx.dropLast++[V.ref c9])):=by rw[b11]; exact aT
 rw[← b11]
 clear b11
 have X7:=W8.trans (W9.trans (W10.trans W11))
 refine⟨_,X7 _ _ Z7,eV (show 6≤64 by decide),?_⟩
 obtain⟨I12,h12⟩:∃ I12,I12=upd I11 c5 (.lst [V.ref c1,V.ref c3,V.ref c4,V.non,V.ref D,V.ref c11]):=⟨_,rfl⟩
 have Z12:I12 c5=some (.lst [V.ref c1,V.ref c3,V.ref c4,V.non,V.ref D,V.ref c11]):=by rw[h12]; exact aT
 have E12:Same I4 I12:=fun b o hb=>by rw[h12,aZ (bZ hb hc5)]; exact X7 _ _ (E7 _ _ hb)
 show tl _ _ (upd I11 c5 (.lst [V.ref c1,V.ref c3,V.ref c4,V.non,V.ref D,V.ref c11]))
 rw[← h12,htl]
 clear htl tl
 trivial
 have S12:=S4.trans E12
 have nw:∀ {J:Hp} {c:Addr},Same H J→J c=none→∀ l o,H l=some o→V.ref c≠.ref l:=fun S h l o hl e=>by cases e; rw[S _ _ hl] at h; cases h
 have i0:=DB c (show (6:Int)≠0 by decide)
 have i1:=Dv c (show (0:Int)<6 by decide)
 obtain⟨ii,hi⟩:∃ j:Nat,c % 6=j:=⟨(c % 6).toNat,by omega⟩
 rw[hi]
 refine⟨by decide,_,SqL.of Z12,?_⟩
 have:ii=0∨ii=1∨ii=2∨ii=3∨ii=4∨ii=5:=by omega
 rcases this with rfl | rfl | rfl | rfl | rfl | rfl
 ·exact⟨_,dX rfl,q _ _ S12 (.len ((W2.trans (W3.trans (W4.trans E12))).seq U1) (by decide)) (nw (fun _ _ h=>h) hc1)⟩
 ·refine⟨_,dX rfl,q _ _ S12 ?_ (nw (W1.trans W2) hc3)⟩
  obtain⟨pv,kv,rfl,hkv,Tv⟩:=KA.at hv0
  have L3:=(W4.trans E12).seq U3
  have ll:(kx++[V.ref pv]).length=kx.length+1:=Dp
  by_cases hh:kx.length+1≤4
  ·have mk:=Ds hkv
   have g:=KindsV.good L3 (by exact Oz47 ll) (by omega) (AW (KA.same S12) (.cons (Same.tup S12 Tv) .nil)) (fun k m=>(DV.mp m).elim (kok.name k) fun m=>by rw[DA.mp m]; exact kok.name kv mk)
   rwa [decide_eq_false (fun n=>(Ik.mp n).2.2 kv mk kv (DA.mpr rfl) rfl)] at g
  ·exact .len L3 (by omega)
 ·exact⟨_,dX rfl,q _ _ S12 (.no (k:=.tup) (.inr (.inl ⟨rfl,_,Same.tup E12 U4⟩)) (by decide)) (nw (W1.trans (W2.trans W3)) hc4)⟩
 ·exact⟨_,dX rfl,q _ _ S12 (.no (k:=.non) rfl (by decide)) (fun _ _ _ e=>by cases e)⟩
 ·refine⟨_,dX rfl,q _ _ S12 (.len (xs:=ys) (SqL.of ?_) (by omega)) (nw (S4.trans W5) hD)⟩
  rw[h12,aZ (fun e=>by rw[e,Z5] at hD; cases hD)]
  exact X7 _ _ D7
 ·refine⟨_,dX rfl,q _ _ S12 ?_ (nw (S7.trans (W8.trans (W9.trans W10))) hc11)⟩
  have n5:∀ {b:Addr} {o:HO},I7 b=none→b≠c5:=fun h e=>by rw[e,Z7] at h; cases h
  have E11:∀ {b:Addr} {o:HO},b≠c5→I11 b=some o→I12 b=some o:=fun {b o} h g=>by rw[h12,aZ h]; exact g
  have L11:SqL K I12 c11 (kx.dropLast++[V.ref c9]):=SqL.of (E11 (fun e=>by rw[e,(W8.trans (W9.trans W10)) _ _ Z7] at hc11; cases hc11) Z11)
  have T9:SqT K I12 c9 [V.str (txt kl'.1),V.str (txt (kl'.2++[32]))]:=SqT.of (E11 (fun e=>by rw[e,W8 _ _ Z7] at hc9; cases hc9) ((W10.trans W11) _ _ Z9))
  have Kl:KindV K I12 (.ref c9) false:=by
   have h:=KindV.two T9 (.txt (gJ okl.1).1 (by have:=(gJ okl.1).2; omega)) (vB okl.2)
   rwa [Fj] at h
  obtain⟨bs,B2,hb⟩:=rD (xs:=kx.dropLast) (fun v m=>AF (KA.same S12) kok.name v (List.dropLast_subset _ m)) Kl
  have ll:(kx.dropLast++[V.ref c9]).length=kx.length-1+1:=by rw[Dp,Fe]; rfl
  exact .bad L11 (by omega) (by omega) B2 hb
end _Q
namespace _R
open _y _B _C _D _E _F _G _I _J _K _L _M _N _O _P _Q PySem _l
noncomputable def top (i:Nat):Stmt:=PySem.Challenge.pw_tariffgate_k42_trees_refused.main.body.getD i (.Pass ⟨0,0,0,0⟩)
abbrev di:Stmt:=top 62
def aa:ScV ["_law_rows_here","_law_at","_law_cell","_law_number","_law_note_here","_law_rule","_law_some"] ["_law_rows_here","_law_at","_law_cell"] di:=scv (by decide +kernel)
def se (K:cy):Sp:=fun vs H Q _=>∃ (rl:Addr) (us:List V) (rs:List Rk) (m:Nat) (c:Int),vs=[.ref rl,.int (m:Int),.int c]∧SqL K H rl us∧RksAt K H us rs∧(∀ r∈rs,okNum r.num∧okRule r.rule)∧m<rs.length∧∀ (v:V) (H':Hp),Same H H'→RowV K H' v false→Q v H'
def AllBR (K:cy) (H:Hp) (xs:List V):Prop:=∀ v∈xs,RowV K H v false
def AllBR.same (h:AllBR K H xs) (e:Same H H'):AllBR K H' xs:=fun v hv=>(h v hv).same e
def AllBR.app (a:AllBR K H xs) (b:AllBR K H ys):AllBR K H (xs++ys):=fun u h=>(DV.mp h).elim (a u) (b u)
def qT:AllBR K H []:=fun _ h=>nomatch h
def allR (a:RowV K H v false) (b:AllBR K H xs):AllBR K H (v::xs):=fun u h=>by
 cases h with
 | head=>exact a
 | tail _ h=>exact b u h
def oS {an:Addr} {k:List Int} {u:V} (Na:SqT K H an (k.map V.int)) (k1:1≤k.length) (k4:k.length≤4) (h:∀ p H',Same H H'→SqT K H' p ((upN k).map V.int++[u])→Q (.ref p) H'):Aj K (.ref an) none (some (-1)) H fun x H1=>1≤sizeLine∧∀ p,H1 p=none→rX K x (.ref p) (upd H1 p (.tup [u])) Q :=
 ⟨an,_,rfl,Na,fun p H' e T=>⟨by decide,fun p1 hp1=>⟨p,p1,_,_,rfl,rfl,Same.tup (bO hp1 _) T,SqT.of aT,by
  rw[wQ k1,iz]
  unfold upN
  rw[Fe]
  exact eV (show k.length-1+1≤64 by omega),fun p2 H2 e2 T2=>h p2 H2 ((e.trans (bO hp1 _)).trans e2) (by rw[wQ k1] at T2; exact T2)⟩⟩⟩
def pM {p n:Addr} {y u:V} {z:Str} {k:List Int} (okz:okRule z) (T:SqT K H p [.ref n,y,.str z]) (Tn:SqT K H n ((upN k).map V.int++[u])) (hu:itB u=false) (ku:Knd K H u):RowV K H (.ref p) false:=by
 have a:=NumV.tup Tn fun x hx=>(DV.mp hx).elim (fun m=>by obtain⟨i,_,rfl⟩:=DZ.mp m; exact⟨.int,rfl⟩) (fun m=>by rw[DA.mp m]; exact ku)
 have e:prefB ((upN k).map V.int++[u])=false:=by
  unfold prefB
  rw[Jg,GK,hu,FA,Fj,Fj]
 rw[e,FA] at a
 exact .row T a (.good okz)
def pH (F:Fun K "_law_bad_row" "_law_bad_row" di f fd) (M:Mg mg):FnOk P w K mg base CX0 1 f fd ["_law_rows_here","_law_at","_law_cell"] (se K):=by
 refine F.ok aa.fs (fun vs H Q E h=>?_) (fun cdv A outer s H vs Q E hr h=>?_)
 ·obtain⟨rl,us,rs,m,c,rfl,_⟩:=h
  rfl
 obtain⟨rl,us,rs,m,c,rfl,hL,RA,rok,hm,q⟩:=h
 refine⟨_,(`f (@jP _ _ _ _ _ _ (`g (@ix_list _) (`b 0 aa rfl) (`b 1 aa rfl) (fun _ _=>rfl)) (@rY _ _ _ _ _ _ rfl (@gD _ _ _ _ _ (@dH _ _ 3 _ aa.nd rfl (ScV.loc aa 3 rfl) (.inl rfl)) (@gD _ _ _ _ _ (@dH _ _ 4 _ aa.nd rfl (ScV.loc aa 4 rfl) (.inl rfl)) (@gD _ _ _ _ _ (@dH _ _ 5 _ aa.nd rfl (ScV.loc aa 5 rfl) (.inl rfl)) (@j9 _) (by rfl)) (by rfl)) (by rfl)) (by rfl) (by rfl)) (by rfl) (by rfl) (by rfl)) (`f (`h 6 aa (@fS _ _ _ _ (`a (`j (`a (`b 3 aa rfl) (`a (`b 4 aa rfl) `o (aN rfl)) (aN rfl))) (`a (`j (`a (`b 3 aa rfl) (`a (`b 4 aa rfl) (`a (`b 5 aa rfl) (`a (`b 5 aa rfl) `o (aN rfl)) (aN rfl)) (aN rfl)) (aN rfl))) (`a (@fS _ _ _ _ (`a (`b 3 aa rfl) (`a (`b 4 aa rfl) (`a (`b 5 aa rfl) `o (aN rfl)) (aN rfl)) (aN rfl))) (`a (@iV _ _ _) `o (aN rfl)) (aN rfl)) (aN rfl)) (aN rfl))) rfl) (`f (`h 6 aa (`d (@jv _) (`b 6 aa rfl) (@fS _ _ _ _ (`a (`j (`a (`d (kL (K:=K) rfl) (@gK _ _ _ _ _ _ _ _ _ _ (kE (K:=K) rfl) (`b 3 aa rfl) (@iA _) (@gP _ _ _ (@kI _ _ _ _ _ _ (@jO _) `c))) (`j (`a `c `o (aN rfl)))) (`a (`b 4 aa rfl) (`a (`b 5 aa rfl) `o (aN rfl)) (aN rfl)) (aN rfl))) (`a (`j (`a (`d (kL (K:=K) rfl) (@gK _ _ _ _ _ _ _ _ _ _ (kE (K:=K) rfl) (`b 3 aa rfl) (@iA _) (@gP _ _ _ (@kI _ _ _ _ _ _ (@jO _) `c))) (`j (`a `c `o (aN rfl)))) (`a (`b 4 aa rfl) (`a (`b 5 aa rfl) `o (aN rfl)) (aN rfl)) (aN rfl))) `o (aN rfl)) (aN rfl)))) rfl) (`f (`h 6 aa (`d (@jv _) (`b 6 aa rfl) (@fS _ _ _ _ (`a (`j (`a (`j (`a `c (`a `c (`a `c (`a `c (`a `c `o (aN rfl)) (aN rfl)) (aN rfl)) (aN rfl)) (aN rfl))) (`a (`b 4 aa rfl) (`a (`b 5 aa rfl) `o (aN rfl)) (aN rfl)) (aN rfl))) (`a (`j (`a (`j `o) (`a (`b 4 aa rfl) (`a (`b 5 aa rfl) `o (aN rfl)) (aN rfl)) (aN rfl))) (`a (`j (`a (@gF _ _ _ _ _ _ _ _ _ iU rfl M.m_list kr (`a (`b 3 aa rfl) `o (aN rfl)) a8 rfl (aN rfl) aW) (`a (`b 4 aa rfl) (`a (`b 5 aa rfl) `o (aN rfl)) (aN rfl)) (aN rfl))) (`a (`j (`a `c (`a (`b 4 aa rfl) (`a (`b 5 aa rfl) `o (aN rfl)) (aN rfl)) (aN rfl))) `o (aN rfl)) (aN rfl)) (aN rfl)) (aN rfl)))) rfl) (`f (`h 6 aa (`d (@jv _) (`b 6 aa rfl) (@fS _ _ _ _ (`a (`j (`a (`b 3 aa rfl) (`a (`b 4 aa rfl) (`a `p `o (aN rfl)) (aN rfl)) (aN rfl))) (`a (`j (`a (`b 3 aa rfl) (`a (`b 4 aa rfl) (`a `p `o (aN rfl)) (aN rfl)) (aN rfl))) (`a (`j (`a (`b 3 aa rfl) (`a (`b 4 aa rfl) (`a (@iV _ _ _) `o (aN rfl)) (aN rfl)) (aN rfl))) `o (aN rfl)) (aN rfl)) (aN rfl)))) rfl) (`f (@gY _ _ _ _ (@iG _ _ _ _ _ _ _ _ _ _ _ _ DQ Ii Ij qc (`b 6 aa rfl) (`a (`r rfl (CompOk.make (N':=["_law_note_here","_law_rule","_law_number","_law_part"]) (ix:=[4,5,3]) (nl:=1) (by rfl) (fm1 rfl (fm1 rfl (fm1 rfl fm0))) (by rfl) (by decide +kernel) rfl (by decide +kernel) rfl (EH ⟨rfl,.inl rfl,.inl rfl⟩ (EH ⟨rfl,.inl rfl,.inl rfl⟩ (EH ⟨rfl,.inl rfl,.inl rfl⟩ DY)))) (@gw _ _ _ _ (@fS _ _ _ _ (`a (@fY _ _ _ _) (`a `p (`a (@iV _ _ _) `o (aN rfl)) (aN rfl)) (aN rfl)))) (fun _ _ _ _ _=>(@dH _ _ 3 _ (show D5 (["_law_note_here","_law_rule","_law_number","_law_part"]:List Str) from by decide) rfl (Or.inl rfl) (by first | exact .inl rfl | exact .inr rfl | assumption))) (fun _ _ _ _ _=>(@gx _)) (fun _ _ _ _ _=>(`j (`a (`d (kL (K:=K) rfl) (@gK _ _ _ _ _ _ _ _ _ _ (kE (K:=K) rfl) (@pv _ 2 _ _ (by rfl) (by decreasing_trivial) (by decide) (by decide)) (@iA _) (@gP _ _ _ (@kI _ _ _ _ _ _ (@jO _) `c))) (`j (`a (@pv _ 3 _ _ (by rfl) (by decreasing_trivial) (by decide) (by decide)) `o (aN rfl)))) (`a (@pv _ 0 _ _ (by rfl) (by decreasing_trivial) (by decide) (by decide)) (`a (@pv _ 1 _ _ (by rfl) (by decreasing_trivial) (by decide) (by decide)) `o (aN rfl)) (aN rfl)) (aN rfl)))) (by intro _; rfl)) `o (aN rfl)) (by rfl) (by rfl) (by rfl) (by rfl) (by rfl)) (fV rfl)) (`n (`q (`g (@ix_list _) (`b 6 aa rfl) (`d (@dF _) (`b 2 aa rfl) `c) (fun _ _=>rfl)))))))))),?_⟩
 refine eU fun tl htl=>?_
 trivial
 have lus:us.length=rs.length:=DT RA
 obtain⟨v0,hv0⟩:∃ v0,us[m]?=some v0:=⟨us[m]'(by exact Oz20 hm lus),Dm _⟩
 obtain⟨r0,hr0,pr,an,rfl,Tr,Na⟩:=gy RA hv0
 obtain⟨ok0,okr⟩:=rok r0 (Ds hr0)
 refine⟨_,hL,_,dX hv0,pr,rfl,_,Tr,rfl,_,_,rfl,_,_,rfl,_,_,rfl,rfl,?_⟩
 rw[htl]
 clear htl tl
 refine eU fun tl htl=>?_
 trivial
 refine⟨by decide,fun c1 hc1=>?_⟩
 obtain⟨I1,b1,W1,U1⟩:=bN (K:=K) hc1 [V.ref an,r0.nv]
 rw[← b1]
 clear b1
 refine⟨by decide,fun c2 hc2=>?_⟩
 obtain⟨I2,b2,W2,U2⟩:=bN (K:=K) hc2 [V.ref an,r0.nv,V.str r0.rule,V.str r0.rule]
 rw[← b2]
 clear b2
 refine⟨by decide,fun c3 hc3=>?_⟩
 obtain⟨I3,b3,W3,U3⟩:=dW (K:=K) hc3 [V.ref an,r0.nv,V.str r0.rule]
 rw[← b3]
 clear b3
 refine⟨by decide,fun c4 hc4=>?_⟩
 obtain⟨I4,b4,W4,U4⟩:=dW (K:=K) hc4 [V.ref c1,V.ref c2,V.ref c3,V.non]
 have Z4:I4 c4=some (.lst [V.ref c1,V.ref c2,V.ref c3,V.non]):=by rw[b4]; exact aT
 rw[← b4]
 clear b4
 have B1:AllBR K I4 [V.ref c1,V.ref c2,V.ref c3,V.non]:=allR (.len (Same.tup (W2.trans (W3.trans W4)) U1) (show (2:Nat)≠3 by decide)) <| allR (.len (Same.tup (W3.trans W4) U2) (show (4:Nat)≠3 by decide)) <| allR (.no (k:=.lst) (.inl ⟨rfl,_,W4.seq U3⟩) (by decide)) <| allR (.no (k:=.non) rfl (by decide)) qT
 have S4:=W1.trans (W2.trans (W3.trans W4))
 rw[htl]
 clear htl tl hc1 hc2 hc3 hc4 W1 W2 W3 W4 U1 U2 U3 U4
 refine eU fun tl htl=>?_
 trivial
 have NA:SqT K H an (r0.num.map V.int):=SqT.of Na
 refine oS (Same.tup S4 NA) ok0.1 ok0.2.1 fun n5 I5 W5 T5=>?_
 refine⟨by decide,fun c6 hc6=>?_⟩
 obtain⟨I6,b6,W6,U6⟩:=bN (K:=K) hc6 [V.ref n5,r0.nv,V.str r0.rule]
 rw[← b6]
 clear b6
 refine oS (Same.tup (S4.trans (W5.trans W6)) NA) ok0.1 ok0.2.1 fun n7 I7 W7 T7=>?_
 refine⟨by decide,fun c8 hc8=>?_⟩
 obtain⟨I8,b8,W8,U8⟩:=bN (K:=K) hc8 [V.ref n7,r0.nv,V.str r0.rule]
 rw[← b8]
 clear b8
 refine⟨by decide,fun c9 hc9=>?_⟩
 obtain⟨I9,b9,W9,U9⟩:=dW (K:=K) hc9 [V.ref c6,V.ref c8]
 have Z9:I9 c9=some (.lst [V.ref c6,V.ref c8]):=by rw[b9]; exact aT
 rw[← b9]
 clear b9
 have X7:=W8.trans W9
 have X6:=W7.trans X7
 have X5:=W6.trans X6
 have X4:=W5.trans X5
 refine⟨_,X4 _ _ Z4,_,Z9,eV (show 4+2≤64 by decide),?_⟩
 intro c10 hc10
 obtain⟨I10,b10,W10,U10⟩:=dW (K:=K) hc10 ([V.ref c1,V.ref c2,V.ref c3,V.non]++[V.ref c6,V.ref c8])
 have Z10:I10 c10=some (.lst ([V.ref c1,V.ref c2,V.ref c3,V.non]++[V.ref c6,V.ref c8])):=by rw[b10]; exact aT
 rw[← b10]
 clear b10
 have B2:AllBR K I10 ([V.ref c1,V.ref c2,V.ref c3,V.non]++[V.ref c6,V.ref c8]):=((B1.same X4).app (allR (pM okr (Same.tup X6 U6) (Same.tup X5 T5) rfl ⟨.int,rfl⟩) <| allR (pM okr (Same.tup W9 U8) (Same.tup X7 T7) rfl ⟨.int,rfl⟩) qT)).same W10
 have S10:=(S4.trans X4).trans W10
 obtain⟨x1,lx1,Z10,B2⟩:∃ x1,x1.length=6∧I10 c10=some (.lst x1)∧AllBR K I10 x1:=⟨_,rfl,Z10,B2⟩
 rw[htl]
 clear htl tl hc6 hc8 hc9 hc10 W5 W6 W7 W8 W9 W10 U6 U8 U9 U10 T5 T7 X7 X6 X5 X4 Z4 Z9 B1 S4
 refine eU fun tl htl=>?_
 trivial
 refine⟨by decide,fun c11 hc11=>?_⟩
 obtain⟨I11,b11,W11,U11⟩:=bN (K:=K) hc11 [V.int 1,V.int 2,V.int 3,V.int 4,V.int 5]
 rw[← b11]
 clear b11
 refine⟨by decide,fun c12 hc12=>?_⟩
 obtain⟨I12,b12,W12,U12⟩:=bN (K:=K) hc12 [V.ref c11,r0.nv,V.str r0.rule]
 rw[← b12]
 clear b12
 refine⟨by decide,fun c13 hc13=>?_⟩
 obtain⟨I13,b13,W13,U13⟩:=bN (K:=K) hc13 []
 rw[← b13]
 clear b13
 refine⟨by decide,fun c14 hc14=>?_⟩
 obtain⟨I14,b14,W14,U14⟩:=bN (K:=K) hc14 [V.ref c13,r0.nv,V.str r0.rule]
 rw[← b14]
 clear b14
 refine⟨_,.inr (Same.tup (S10.trans (W11.trans (W12.trans (W13.trans W14)))) NA),?_⟩
 intro c15 hc15
 obtain⟨I15,b15,W15,U15⟩:=dW (K:=K) hc15 (r0.num.map V.int)
 rw[← b15]
 clear b15
 refine⟨by decide,fun c16 hc16=>?_⟩
 obtain⟨I16,b16,W16,U16⟩:=bN (K:=K) hc16 [V.ref c15,r0.nv,V.str r0.rule]
 rw[← b16]
 clear b16
 refine⟨by decide,fun c17 hc17=>?_⟩
 obtain⟨I17,b17,W17,U17⟩:=bN (K:=K) hc17 [V.int 7,r0.nv,V.str r0.rule]
 rw[← b17]
 clear b17
 refine⟨by decide,fun c18 hc18=>?_⟩
 obtain⟨I18,b18,W18,U18⟩:=dW (K:=K) hc18 [V.ref c12,V.ref c14,V.ref c16,V.ref c17]
 have Z18:I18 c18=some (.lst [V.ref c12,V.ref c14,V.ref c16,V.ref c17]):=by rw[b18]; exact aT
 rw[← b18]
 clear b18
 have X17:=W18
 have X16:=W17.trans X17
 have X15:=W16.trans X16
 have X14:=W15.trans X15
 have X13:=W14.trans X14
 have X12:=W13.trans X13
 have X11:=W12.trans X12
 have X10:=W11.trans X11
 refine⟨_,X10 _ _ Z10,_,Z18,eV (show x1.length+4≤64 by omega),?_⟩
 intro c19 hc19
 obtain⟨I19,b19,W19,U19⟩:=dW (K:=K) hc19 (x1++[V.ref c12,V.ref c14,V.ref c16,V.ref c17])
 have Z19:I19 c19=some (.lst (x1++[V.ref c12,V.ref c14,V.ref c16,V.ref c17])):=by rw[b19]; exact aT
 rw[← b19]
 clear b19
 have five:NumV K I18 (.ref c11) false:=NumV.tup (Same.tup X11 U11) fun x hx=>by
  rcases Du.mp hx with rfl | hx
  ·exact⟨.int,rfl⟩
  rcases Du.mp hx with rfl | hx
  ·exact⟨.int,rfl⟩
  rcases Du.mp hx with rfl | hx
  ·exact⟨.int,rfl⟩
  rcases Du.mp hx with rfl | hx
  ·exact⟨.int,rfl⟩
  rw[DA.mp hx]
  exact⟨.int,rfl⟩
 have none':NumV K I18 (.ref c13) false:=NumV.tup (Same.tup X13 U13) fun x hx=>nomatch hx
 have bad:∀ {p:Addr} {n y:V},SqT K I18 p [n,y,.str r0.rule]→NumV K I18 n false→RowV K I18 (.ref p) false:=fun T a=>.row T a (.good okr)
 have B3:=((B2.same X10).app (allR (bad (Same.tup X12 U12) five) <| allR (bad (Same.tup X14 U14) none') <| allR (bad (Same.tup X16 U16) (.no (k:=.lst) (.inl ⟨rfl,_,X15.seq U15⟩) (by decide))) <| allR (bad (Same.tup X17 U17) (.no (k:=.int) rfl (by decide))) qT)).same W19
 have S19:=(S10.trans X10).trans W19
 obtain⟨x2,lx2,Z19,B3⟩:∃ x2,x2.length=10∧I19 c19=some (.lst x2)∧AllBR K I19 x2:=⟨_,by rw[Dp,lx1]; rfl,Z19,B3⟩
 rw[htl]
 clear htl tl hc11 hc12 hc13 hc14 hc15 hc16 hc17 hc18 hc19 W11 W12 W13 W14 W15 W16 W17 W18 W19 U11 U12 U13 U14 U15 U16 U17 U18 U19 X10 X11 X12 X13 X14 X15 X16 X17 Z18 bad five none' S10 Z10 B2
 refine eU fun tl htl=>?_
 trivial
 refine⟨by decide,fun c20 hc20=>?_⟩
 obtain⟨I20,b20,W20,U20⟩:=bN (K:=K) hc20 [V.ref an,r0.nv,V.str (Dj "")]
 rw[← b20]
 clear b20
 refine⟨by decide,fun c21 hc21=>?_⟩
 obtain⟨I21,b21,W21,U21⟩:=bN (K:=K) hc21 [V.ref an,r0.nv,V.str (Dj "both")]
 rw[← b21]
 clear b21
 refine⟨by decide,fun c22 hc22=>?_⟩
 obtain⟨I22,b22,W22,U22⟩:=bN (K:=K) hc22 [V.ref an,r0.nv,V.non]
 rw[← b22]
 clear b22
 refine⟨by decide,fun c23 hc23=>?_⟩
 obtain⟨I23,b23,W23,U23⟩:=dW (K:=K) hc23 [V.ref c20,V.ref c21,V.ref c22]
 have Z23:I23 c23=some (.lst [V.ref c20,V.ref c21,V.ref c22]):=by rw[b23]; exact aT
 rw[← b23]
 clear b23
 have X22:=W23
 have X21:=W22.trans X22
 have X20:=W21.trans X21
 have X19:=W20.trans X20
 refine⟨_,X19 _ _ Z19,_,Z23,eV (show x2.length+3≤64 by omega),?_⟩
 intro c24 hc24
 obtain⟨I24,b24,W24,U24⟩:=dW (K:=K) hc24 (x2++[V.ref c20,V.ref c21,V.ref c22])
 have Z24:I24 c24=some (.lst (x2++[V.ref c20,V.ref c21,V.ref c22])):=by rw[b24]; exact aT
 rw[← b24]
 clear b24
 have bad:∀ {p:Addr} {y z:V},SqT K I23 p [.ref an,y,z]→PickV K I23 z false→RowV K I23 (.ref p) false:=fun T a=>.row (b:=true) (c:=false) T (sD ((S19.trans X19) _ _ Na) ok0) a
 have B4:=((B3.same X19).app (allR (bad (Same.tup X20 U20) (.bad (.inl rfl))) <| allR (bad (Same.tup X21 U21) (.bad (.inr rfl))) <| allR (bad (Same.tup X22 U22) (.no (k:=.non) rfl (by decide))) qT))
 have S23:=S19.trans X19
 obtain⟨x3,lx3,Z24,B4⟩:∃ x3,x3.length=13∧I24 c24=some (.lst x3)∧AllBR K I23 x3:=⟨_,by rw[Dp,lx2]; rfl,Z24,B4⟩
 rw[htl]
 clear htl tl hc20 hc21 hc22 hc23 W20 W21 W22 U20 U21 U22 U23 U24 X20 X21 X22 Z23 bad Z19 lx2 lx1 B3
 refine eU fun tl htl=>?_
 trivial
 refine⟨.inl ⟨rfl,_,SqL.of Z24⟩,by decide,fun c25 hc25=>?_⟩
 obtain⟨I25,b25,W25,U25⟩:=dW (K:=K) hc25 [V.bl true,V.str (Dj "7"),V.non]
 rw[← b25]
 clear b25
 refine⟨⟨_,U25⟩,fun D hD=>?_⟩
 obtain⟨Pc,hC⟩:∃ Pc:Nat→St→Hp→Prop,Pc=fun i τ H''=>∃ ys z,H'' D=some (.lst ys)∧ys.length=i∧(∀ y∈ys,∃ (p n:Addr) (u:V),y=.ref p∧SqT K H'' p [.ref n,r0.nv,.str r0.rule]∧SqT K H'' n ((upN r0.num).map V.int++[u])∧itB u=false∧(u=.bl true∨u=.str (Dj "7")∨u=.non))∧Same I25 H''∧τ=[some r0.nv,some (V.str r0.rule),some (V.ref an),z]:=⟨_,rfl⟩
 refine fR [V.bl true,V.str (Dj "7"),V.non] Pc ?_ ?_ ?_ ?_
 ·rw[hC]
  exact⟨[],_,aT,rfl,(fun y hy=>nomatch hy),bO hD _,rfl⟩
 ·intro i τ H'' hi h
  rw[hC] at h
  obtain⟨ys,z,d1,d2,d3,d4,rfl⟩:=h
  exact d4.seq U25
 ·intro i u τ H'' R hu h next
  rw[hC] at h
  obtain⟨ys,z,d1,d2,d3,d4,rfl⟩:=h
  have hi:i<3:=(yp.mp hu).1
  have mu:itB u=false∧(u=.bl true∨u=.str (Dj "7")∨u=.non):=by
   have:i=0∨i=1∨i=2:=by omega
   rcases this with rfl | rfl | rfl <;> cases hu
   ·exact⟨rfl,.inl rfl⟩
   ·exact⟨rfl,.inr (.inl rfl)⟩
   ·exact⟨rfl,.inr (.inr rfl)⟩
  trivial
  refine oS (Same.tup ((S23.trans (W24.trans W25)).trans d4) NA) ok0.1 ok0.2.1 fun n5 I26 W26 T26=>?_
  refine⟨by decide,fun c27 hc27=>?_⟩
  obtain⟨I27,b27,W27,U27⟩:=bN (K:=K) hc27 [V.ref n5,r0.nv,V.str r0.rule]
  rw[← b27]
  clear b27
  have W2:=W26.trans W27
  have dD:=W2 _ _ d1
  refine⟨ys,dD,eV (by omega),next _ _ ?_⟩
  rw[hC]
  have ts:TS I27 (upd I27 D (.lst (ys++[V.ref c27]))):=TS.lst dD
  refine⟨_,_,aT,by rw[Dp,d2]; rfl,fun y hy=>?_,fun b o hb=>by rw[aZ (bZ hb hD)]; exact W2 _ _ (d4 _ _ hb),rfl⟩
  rcases DV.mp hy with hy | hy
  ·obtain⟨p,n,u',e,t1,t2,t3,t4⟩:=d3 y hy
   exact⟨p,n,u',e,ts.tup (Same.tup W2 t1),ts.tup (Same.tup W2 t2),t3,t4⟩
  ·exact⟨c27,n5,u,DA.mp hy,ts.tup U27,ts.tup (Same.tup W27 T26),mu.1,mu.2⟩
 intro τ H6 h
 rw[hC] at h
 obtain⟨ys,z,d1,d2,d3,d4,rfl⟩:=h
 have d2':ys.length=3:=d2
 have Z6:=d4 _ _ (W25 _ _ Z24)
 refine⟨c24,D,x3,ys,rfl,rfl,Z6,d1,eV (by omega),?_⟩
 obtain⟨I7,h7⟩:∃ I7,I7=upd H6 c24 (.lst (x3++ys)):=⟨_,rfl⟩
 have Z7:I7 c24=some (.lst (x3++ys)):=by rw[h7]; exact aT
 have E7:Same I23 I7:=fun b o hb=>by rw[h7,aZ (bZ hb hc24)]; exact d4 _ _ (W25 _ _ (W24 _ _ hb))
 have ts:TS H6 I7:=by rw[h7]; exact TS.lst Z6
 have B5:AllBR K I7 (x3++ys):=(B4.same E7).app fun y hy=>by
  obtain⟨p,n,u,rfl,t1,t2,t3,t4⟩:=d3 y hy
  refine pM okr (ts.tup t1) (ts.tup t2) t3 ?_
  rcases t4 with rfl | rfl | rfl
  ·exact⟨.bl,rfl⟩
  ·exact⟨.str,rfl⟩
  ·exact⟨.non,rfl⟩
 rw[← h7,htl]
 clear htl tl
 trivial
 have lx:(x3++ys).length=16:=by rw[Dp,lx3,d2']
 have i0:=DB c (show (16:Int)≠0 by decide)
 have i1:=Dv c (show (0:Int)<16 by decide)
 obtain⟨ii,hi⟩:∃ j:Nat,c % 16=j:=⟨(c % 16).toNat,by omega⟩
 obtain⟨v,hv⟩:∃ v,(x3++ys)[ii]?=some v:=⟨(x3++ys)[ii]'(by omega),Dm _⟩
 exact⟨by decide,_,SqL.of Z7,_,by rw[hi]; exact dX hv,q v I7 (S23.trans E7) (B5 v (Ds hv))⟩
end _R
namespace _S
open _y _B _C _D _E _F _G _I _J _K _L _M _N _O _P _Q _R PySem _l
noncomputable def top (i:Nat):Stmt:=PySem.Challenge.pw_tariffgate_k42_trees_refused.main.body.getD i (.Pass ⟨0,0,0,0⟩)
abbrev eP:Stmt:=top 64
def aI:ScV ["_law_rows_here","_law_cell","_law_free","_law_number"] ["_law_rows_here","_law_cell"] eP:=scv (by decide +kernel)
def yH (ks:List (List Int)) (k:List Int):Prop:=∃ a t,k=a::t∧1≤t.length∧[a] ∉ ks∧okNum k
def pO (K:cy):Sp:=fun vs H Q _=>∃ (rl:Addr) (us:List V) (rs:List Rk) (c:Int),vs=[.ref rl,.int c]∧SqL K H rl us∧RksAt K H us rs∧rs.length≤9∧∀ (p:Addr) (k:List Int) (H':Hp),Same H H'→H' p=some (.tup (k.map V.int))→yH (rs.map Rk.num) k→Q (.ref p) H'
def qC {us:List V} {rs:List Rk} (hL:SqL K H rl us) (RA:RksAt K H us rs) (l25:rs.length≤25) (hD:H D=none) (q:∀ ns H',Same H H'→H' D=some (.lst ns)→NumsAt K H' ns (rs.map Rk.num)→Q (.ref D) H'):jf D (Itl K rl) (lB 0) wR (tOp (tM K) (nM 0) (tC (V.int 0))) Q [none] (upd H D (.lst [])):=by
 have lu:us.length=rs.length:=DT RA
 obtain⟨Pc,hC⟩:∃ Pc:Nat→St→Hp→Prop,Pc=fun j τ H2=>∃ (ns:List V) (z:Option V),H2 D=some (.lst ns)∧NumsAt K H2 ns ((rs.map Rk.num).take j)∧Same H H2∧τ=[z]:=⟨_,rfl⟩
 refine fR us Pc ?_ (fun j τ H2 _ h=>by rw[hC] at h; obtain⟨_,_,_,_,e2,_⟩:=h; exact e2.seq hL) ?_ ?_
 ·rw[hC]
  exact⟨[],_,aT,.nil,bO hD _,rfl⟩
 ·intro j v τ H2 R' hv h next
  rw[hC] at h
  obtain⟨ns,z,dD2,na,e2,rfl⟩:=h
  have lj:=(yp.mp hv).1
  obtain⟨r,hr',hrow⟩:=gy (RksAt.ts RA (TS.of e2)) hv
  obtain⟨p',a',rfl,h2',h3'⟩:=id hrow
  have ln:ns.length≤25:=by
   have:=DT na
   rw[this,Dt,iz]
   omega
  trivial
  refine⟨_,h2',_,at0,_,dD2,Nat.lt_of_lt_of_le (m:=64) (by omega) (by decide),next _ _ ?_⟩
  rw[hC]
  refine⟨ns++[.ref a'],_,aT,?_,dI e2 hD _,rfl⟩
  rw[E1,Dq,hr']
  exact iy ⟨a',rfl,(TS.lst dD2).at h3'⟩ (na.ts (TS.lst dD2))
 intro τ H2 h
 rw[hC] at h
 obtain⟨ns,z,dD2,na,e2,rfl⟩:=h
 rw[lu,Dw (by rw[iz]; exact Nat.le_refl _)] at na
 exact q ns H2 e2 dD2 na
def qe {p l:Addr} {k:List Int} {ns:List V} {ks:List (List Int)} (h1:SqT K H p (k.map V.int)) (L:SqL K H l ns) (NA:NumsAt K H ns ks) (hq:Q (.bl (!decide (k∈ks))) H):rP K true (.ref p) (.ref l) H Q:=by
 have fl:iC (.list (ks.map gp)):=⟨(kP ks).1,by show DO (ks.map gp)+1≤40; have:=(kP ks).2; exact Oz31 this⟩
 refine⟨l,_,_,rfl,i7 h1,.inl (.lst L NA.rep),iF _,fl,?_⟩
 have ea:((ks.map gp).any fun y=>Eu y (gp k))=decide (k∈ks):=by
  rw[JX,FI,List.any_eq_true,decide_eq_true_iff]
  refine⟨fun ⟨y,hy,h⟩=>?_,fun h=>⟨_,h,?_⟩⟩
  ·have h':Eu (gp y) (gp k)=true:=h
   rw[jC] at h'
   rw[← of_decide_eq_true h']
   exact hy
  ·show Eu (gp k) (gp k)=true
   rw[jC]
   exact decide_eq_true rfl
 rw[ea]
 exact hq
theorem pX:∀ {gs:List Int},gs.Nodup→(gs.map fun x=>[x]).Nodup
 | [],_=>.nil
 | g::gs,h=>by
  obtain⟨a,b⟩:=Fp.mp h
  refine Fp.mpr ⟨fun m=>?_,pX b⟩
  obtain⟨x,hx,e⟩:=DZ.mp m
  cases e
  exact a hx
def C4 {n:Nat}:gC xs none (some (n:Int))=xs.take n:=by
 have e:_ht.sIx xs.length xs.length (some (n:Int))=min n xs.length:=_ht.sIx_nat _ _ n
 unfold gC
 rw[e,_ht.sIx_none,FF,Nat.sub_zero,← List.take_eq_take_min]
def rT (F:Fun K "_law_alone" "_law_alone" eP f fd) (M:Mg mg):FnOk P w K mg base CX0 1 f fd ["_law_rows_here","_law_cell"] (pO K):=by
 refine F.ok aI.fs (fun vs H Q E h=>?_) (fun cdv A outer s H vs Q E hr h=>?_)
 ·obtain⟨rl,us,rs,c,rfl,_⟩:=h
  rfl
 obtain⟨rl,us,rs,c,rfl,hL,RA,r9,q⟩:=h
 refine⟨_,(`f (@ju _ _ _ _ _ _ _ _ _ _ _ _ _ _ _ 2 _ _ _ aI.nd rfl (ScV.loc aI 2 rfl) rfl (CompOk.make (N':=["_law_rows_here","_law_part"]) (ix:=[0]) (nl:=1) (by rfl) (fm1 rfl fm0) (by rfl) (by decide +kernel) rfl (by decide +kernel) rfl (EH ⟨rfl,.inl rfl,.inl rfl⟩ DY)) (@mF _ _ _ _ _ _ _ rfl M.m_range (`a `c (`a `c `o (aN rfl)) (aN rfl)) (star2' rfl rfl) (star1' rfl)) (fun _ _ _ _ _=>(@dH _ _ 1 _ (show D5 (["_law_rows_here","_law_part"]:List Str) from by decide) rfl (Or.inl rfl) (by first | exact .inl rfl | exact .inr rfl | assumption))) (fun _ _ _ _ _=>(@iO _ _ _ (`k (oj (K:=K) rfl (jk hr)) (`j (`a (@pv _ 1 _ _ (by rfl) (by decreasing_trivial) (by decide) (by decide)) `o (aN rfl))) (`r rfl (CompOk.make (N':=["_law_row"]) (ix:=[]) (nl:=1) (by rfl) fm0 (by rfl) (by decide +kernel) rfl (by decide +kernel) rfl DY) (@z5 _ K _ _ _ rfl (@pv _ 0 _ _ (by rfl) (by decreasing_trivial) (by decide) (by decide))) (fun _ _ _ _ _=>(@dH _ _ 0 _ (show D5 (["_law_row"]:List Str) from by decide) rfl (Or.inl rfl) (by first | exact .inl rfl | exact .inr rfl | assumption))) (fun _ _ _ _ _=>(@gx _)) (fun _ _ _ _ _=>(`g (gG (K:=K) rfl) (@pv _ 0 _ _ (by rfl) (by decreasing_trivial) (by decide) (by decide)) `c (fun _ _=>rfl))) (by intro _; rfl)) (by with_unfolding_all rfl)))) (fun _ _ _ _ _=>(@pv _ 1 _ _ (by rfl) (by decreasing_trivial) (by decide) (by decide))) (by rfl) (by intro _; rfl) (by first | exact .inl rfl | exact .inr rfl | assumption)) (`f (`h 3 aI (`j (`a (`g (@ix_list _) (`b 2 aI rfl) (`d (@dF _) (`b 1 aI rfl) `c) (fun _ _=>rfl)) (`a (`d (@gQ _) `c (`d (@dF _) (`d (@dY _) (`b 1 aI rfl) `c) `c)) (`a (`d (@gQ _) `c (`d (@dF _) (`d (@dY _) (`b 1 aI rfl) `c) `c)) (`a `c `o (aN rfl)) (aN rfl)) (aN rfl)) (aN rfl))) rfl) (`n (`q (@gK _ _ _ _ _ _ _ _ _ _ vm (`b 3 aI rfl) (@iA _) (@gP _ _ _ (`d (@gQ _) `c (`d (@dF _) (`d (@dY _) (`b 1 aI rfl) `c) `c)))))))),?_⟩
 refine eU fun tl htl=>?_
 trivial
 refine⟨by decide,by decide,by decide,by decide,fun D hD=>?_⟩
 obtain⟨ks,hks⟩:∃ ks,ks=rs.map Rk.num:=⟨_,rfl⟩
 have lks:ks.length=rs.length:=by rw[hks,iz]
 obtain⟨Pc,hC⟩:∃ Pc:Nat→St→Hp→Prop,Pc=fun i τ H''=>∃ (fs gs:List Int) (z:Option V),H'' D=some (.lst (fs.map V.int))∧fs.length+gs.length=i∧(∀ x∈fs,1≤x∧x≤99∧[x] ∉ ks)∧gs.Nodup∧(∀ x∈gs,x≤(i:Int)∧[x]∈ks)∧Same H H''∧τ=[some (V.ref rl),z]:=⟨_,rfl⟩
 refine jK Pc ?_ ?_ ?_
 ·rw[hC]
  exact⟨[],[],_,aT,rfl,(fun x hx=>nomatch hx),.nil,(fun x hx=>nomatch hx),bO hD _,rfl⟩
 ·intro i τ H'' R hi h next
  have hi':i<99:=hi
  rw[hC] at h
  obtain⟨fs,gs,z,d1,d2,d3,d4,d5,d6,rfl⟩:=h
  trivial
  refine⟨by decide,fun p hp=>?_⟩
  obtain⟨I1,b1,W1,U1⟩:=bN (K:=K) hp [V.int (1+(i:Int))]
  rw[← b1]
  clear b1
  have S1:=d6.trans W1
  refine⟨⟨_,S1.seq hL⟩,fun D1 hD1=>qC (S1.seq hL) (RA.ts (TS.of S1)) (by exact Oz96 r9) hD1 fun ns I2 W2 N2 NA=>?_⟩
  rw[← hks] at NA
  refine qe (k:=[1+(i:Int)]) (Same.tup W2 U1) (SqL.of N2) NA ⟨_,rfl,?_⟩
  have W12:=W1.trans W2
  by_cases hm:[1+(i:Int)]∈ks
  ·rw[decide_eq_true hm,if_neg (by decide)]
   refine next _ _ ?_
   rw[hC]
   refine⟨fs,gs++[1+(i:Int)],_,W12 _ _ d1,by rw[Dp]; show fs.length+(gs.length+1)=_; omega,d3,?_,fun x hx=>?_,d6.trans W12,rfl⟩
   ·refine Ik.mpr ⟨d4,Fp.mpr ⟨(fun h=>nomatch h),.nil⟩,fun a ha b hb e=>?_⟩
    rw[DA.mp hb] at e
    have:=(d5 a ha).1
    omega
   ·rcases DV.mp hx with hx | hx
    ·have:=d5 x hx
     exact⟨by omega,this.2⟩
    ·rw[DA.mp hx]
     exact⟨by omega,hm⟩
  ·rw[decide_eq_false hm,if_pos (by decide)]
   have dD:=W12 _ _ d1
   refine⟨_,dD,Nat.lt_of_lt_of_le (m:=128) (by rw[iz]; omega) (by decide),next _ _ ?_⟩
   rw[hC]
   refine⟨fs++[1+(i:Int)],gs,_,by rw[aT,DH]; rfl,by rw[Dp]; show fs.length+1+gs.length=_; omega,fun x hx=>?_,d4,fun x hx=>⟨by have:=(d5 x hx).1; omega,(d5 x hx).2⟩,dI (d6.trans W12) hD _,rfl⟩
   rcases DV.mp hx with hx | hx
   ·exact d3 x hx
   ·rw[DA.mp hx]
    exact⟨by omega,by omega,hm⟩
 intro τ H6 h
 rw[hC] at h
 obtain⟨fs,gs,z,d1,d2,d3,d4,d5,d6,rfl⟩:=h
 have d2':fs.length+gs.length=99:=d2
 rw[htl]
 clear htl tl
 refine eU fun tl htl=>?_
 trivial
 have gl:gs.length≤ks.length:=by
  have n1:(gs.map fun x=>[x]).Nodup:=pX d4
  have:=G9 n1 (l₂:=ks) (fun s hs=>by obtain⟨x,hx,rfl⟩:=DZ.mp hs; exact (d5 x hx).2)
  rwa [iz] at this
 have i0:=DB c (show (90:Int)≠0 by decide)
 have i1:=Dv c (show (0:Int)<90 by decide)
 obtain⟨ii,hi⟩:∃ j:Nat,c % 90=j:=⟨(c % 90).toNat,by omega⟩
 obtain⟨a,ha⟩:∃ a,fs[ii]?=some a:=⟨fs[ii]'(by omega),Dm _⟩
 obtain⟨a1,a99,an⟩:=d3 a (Ds ha)
 refine⟨by decide,_,SqL.of d1,.int a,by rw[hi]; exact dX (by rw[Dq,ha]; rfl),cdiv (by decide) (by decide),by decide,cdiv (by decide) (by decide),by decide,by decide,fun p hp=>?_⟩
 have b0:=DB (c / 90) (show (99:Int)≠0 by decide)
 have b1:=Dv (c / 90) (show (0:Int)<99 by decide)
 have e0:=DB (c / 7) (show (99:Int)≠0 by decide)
 have e1:=Dv (c / 7) (show (0:Int)<99 by decide)
 obtain⟨kk,hk⟩:∃ kk:List Int,kk=[a,1+c / 90 % 99,1+c / 7 % 99,1]:=⟨_,rfl⟩
 obtain⟨I7,h7⟩:∃ I7,I7=upd H6 p (.tup (kk.map V.int)):=⟨_,rfl⟩
 have Z7:I7 p=some (.tup (kk.map V.int)):=by rw[h7]; exact aT
 have W7:Same H6 I7:=by rw[h7]; exact bO hp _
 have gk:[V.int a,V.int (1+c / 90 % 99),V.int (1+c / 7 % 99),V.int 1]=kk.map V.int:=by rw[hk]; rfl
 rw[gk,← h7,htl]
 clear htl tl
 trivial
 have f0:=DB (c / 3) (show (3:Int)≠0 by decide)
 have f1:=Dv (c / 3) (show (0:Int)<3 by decide)
 obtain⟨jj,hj⟩:∃ j:Nat,2+c / 3 % 3=((2+j:Nat):Int):=⟨(c / 3 % 3).toNat,by omega⟩
 have j3:jj<3:=by omega
 refine⟨cdiv (by decide) (by decide),by decide,p,_,rfl,Z7,fun p' H' e T=>?_⟩
 rw[hj,C4,← Fx] at T
 refine q p' _ H' ((d6.trans W7).trans e) T ?_
 rw[← hks]
 have ok4:∀ x∈kk,1≤x∧x≤99:=by
  rw[hk]
  intro x hx
  rcases Du.mp hx with rfl | hx
  ·exact⟨a1,a99⟩
  rcases Du.mp hx with rfl | hx
  ·omega
  rcases Du.mp hx with rfl | hx
  ·omega
  rw[DA.mp hx]
  decide
 have lk:(kk.take (2+jj)).length=2+jj:=by rw[Dt,hk]; show min (2+jj) 4=_; omega
 refine⟨a,(kk.take (2+jj)).tail,?_,by rw[List.length_tail,lk]; omega,an,by omega,by omega,fun x hx=>ok4 x (EI hx)⟩
 rw[hk,show 2+jj=(1+jj)+1 by omega]
 rfl
end _S
namespace _T
open _y _B _C _D _E _F _G _I _J _K _L _M _N _O _P _Q _R _S PySem _l
noncomputable def top (i:Nat):Stmt:=PySem.Challenge.pw_tariffgate_k42_trees_refused.main.body.getD i (.Pass ⟨0,0,0,0⟩)
abbrev fc:Stmt:=top 63
def aG:ScV ["_law_rows_here","_law_row","_law_part"] ["_law_rows_here"] fc:=scv (by decide +kernel)
noncomputable def manyN (ns:List (List Int)):Nat→List (List Int)
 | 0=>ns
 | i+1=>if [1+(i:Int)] ∉ manyN ns i∧(manyN ns i).length<25 then manyN ns i++[[1+(i:Int)]] else manyN ns i
def rE (K:cy):Sp:=fun vs H Q _=>∃ (rl:Addr) (us:List V) (rs:List Rk),vs=[.ref rl]∧SqL K H rl us∧RksAt K H us rs∧rs.length≤9∧∀ (l:Addr) (xs:List V) (qs:List Rk) (H':Hp),Same H H'→H' l=some (.lst xs)→RksAt K H' xs qs→qs.map Rk.num=manyN ((rs.map Rk.num).filter fun k=>decide (k.length=1)) 99→(∀ r∈qs,r∈rs∨(r.rule = "one"∧ToldAt K H' r.nv .any))→Q (.ref l) H'
def uL (F:Fun K "_law_many" "_law_many" fc f fd) (M:Mg mg):FnOk P w K mg base CX0 1 f fd ["_law_rows_here"] (rE K):=by
 refine F.ok aG.fs (fun vs H Q E h=>?_) (fun cdv A outer s H vs Q E hr h=>?_)
 ·obtain⟨rl,us,rs,rfl,_⟩:=h
  rfl
 obtain⟨rl,us,rs,rfl,hL,RA,r9,q⟩:=h
 refine⟨_,(`f (@ju _ _ _ _ _ _ _ _ _ _ _ _ _ _ _ 1 _ _ _ aG.nd rfl (ScV.loc aG 1 rfl) rfl (CompOk.make (N':=["_law_part"]) (ix:=[]) (nl:=1) (by rfl) fm0 (by rfl) (by decide +kernel) rfl (by decide +kernel) rfl DY) (@gw _ _ _ _ (`b 0 aG rfl)) (fun _ _ _ _ _=>(@dH _ _ 0 _ (show D5 (["_law_part"]:List Str) from by decide) rfl (Or.inl rfl) (by first | exact .inl rfl | exact .inr rfl | assumption))) (fun _ _ _ _ _=>(@iO _ _ _ (`k (@fk _) (`i (qP (K:=K) rfl) rfl M.m_len fM (`a (`g (gG (K:=K) rfl) (@pv _ 0 _ _ (by rfl) (by decreasing_trivial) (by decide) (by decide)) `c (fun _ _=>rfl)) `o (aN rfl)) aq rfl (aN rfl) aW) `c (dm _)))) (fun _ _ _ _ _=>(@pv _ 0 _ _ (by rfl) (by decreasing_trivial) (by decide) (by decide))) (by rfl) (by intro _; rfl) (by first | exact .inl rfl | exact .inr rfl | assumption)) (`f (@jx _ _ _ _ _ _ _ _ FQ rfl (@mF _ _ _ _ _ _ _ rfl M.m_range (`a `c (`a `c `o (aN rfl)) (aN rfl)) (star2' rfl rfl) (star1' rfl)) (@dH _ _ 2 _ aG.nd rfl (ScV.loc aG 2 rfl) (.inl rfl)) (`n (`m (@PW.pt _ _ _ (@iu _ _ _ _ _ _ _ (`k (oj (K:=K) rfl (jk hr)) (`j (`a (`b 2 aG rfl) `o (aN rfl))) (`r rfl (CompOk.make (N':=["_law_some"]) (ix:=[]) (nl:=1) (by rfl) fm0 (by rfl) (by decide +kernel) rfl (by decide +kernel) rfl DY) (@gw _ _ _ _ (`b 1 aG rfl)) (fun _ _ _ _ _=>(@dH _ _ 0 _ (show D5 (["_law_some"]:List Str) from by decide) rfl (Or.inl rfl) (by first | exact .inl rfl | exact .inr rfl | assumption))) (fun _ _ _ _ _=>(@gx _)) (fun _ _ _ _ _=>(`g (gG (K:=K) rfl) (@pv _ 0 _ _ (by rfl) (by decreasing_trivial) (by decide) (by decide)) `c (fun _ _=>rfl))) (by intro _; rfl)) (by with_unfolding_all rfl)) (@gZ _ _ _ _ (`k (@qX _) (`i cQ rfl M.m_len fM (`a (`b 1 aG rfl) `o (aN rfl)) aq rfl (aN rfl) aW) `c (dm _))))) (`n (@gY _ _ _ _ (@iG _ _ _ _ _ _ _ _ _ _ _ _ DQ EO ER iS (`b 1 aG rfl) (`a (`j (`a (`j (`a (`b 2 aG rfl) `o (aN rfl))) (`a (`j (`a `p `o (aN rfl))) (`a `p `o (aN rfl)) (aN rfl)) (aN rfl))) `o (aN rfl)) (by rfl) (by rfl) (by rfl) (by rfl) (by rfl)) (fV rfl))) (@dw _))) (by intro _; rfl)) (`n (`q (`b 1 aG rfl))))),?_⟩
 refine eU fun tl htl=>?_
 trivial
 have lus:us.length=rs.length:=DT RA
 refine⟨⟨_,hL⟩,fun D hD=>?_⟩
 obtain⟨Pc,hC⟩:∃ Pc:Nat→St→Hp→Prop,Pc=fun j τ H2=>∃ (xs:List V) (z:Option V),H2 D=some (.lst xs)∧RksAt K H2 xs ((rs.take j).filter fun r=>decide (r.num.length=1))∧Same H H2∧τ=[z]:=⟨_,rfl⟩
 refine fR us Pc ?_ (fun j τ H2 _ h=>by rw[hC] at h; obtain⟨_,_,_,_,e2,_⟩:=h; exact e2.seq hL) ?_ ?_
 ·rw[hC]
  exact⟨[],_,aT,.nil,bO hD _,rfl⟩
 ·intro j v τ H2 R' hv h next
  rw[hC] at h
  obtain⟨xs,z,d1,ra,e2,rfl⟩:=h
  have lj:=(yp.mp hv).1
  obtain⟨r,hr',hrow⟩:=gy (RksAt.ts RA (TS.of e2)) hv
  have hrow':=hrow
  obtain⟨p',a',rfl,h2',h3'⟩:=hrow'
  have lx:xs.length≤9:=by
   have:=DT ra
   rw[this]
   exact Nat.le_trans (D6 _ _) (by rw[Dt]; omega)
  have tk:rs.take (j+1)=rs.take j++[r]:=by rw[E1,hr']; rfl
  trivial
  refine⟨_,h2',_,at0,a',rfl,_,.inr (SqT.of h3'),?_⟩
  by_cases h1:r.num.length=1
  ·rw[if_pos (by rw[iz,h1]; rfl)]
   refine⟨_,d1,eV (by omega),next _ _ ?_⟩
   rw[hC]
   refine⟨xs++[.ref p'],_,aT,?_,dI e2 hD _,rfl⟩
   rw[tk,EC,List.filter_cons,if_pos (decide_eq_true h1)]
   exact iy ⟨p',a',rfl,(TS.lst d1).tup h2',(TS.lst d1).at h3'⟩ (RksAt.ts ra (TS.lst d1))
  ·rw[if_neg (by rw[iz]; omega)]
   refine next _ _ ?_
   rw[hC]
   refine⟨xs,_,d1,?_,e2,rfl⟩
   rw[tk,EC,List.filter_cons,if_neg (by rw[decide_eq_false h1]; decide),Gb,D9]
   exact ra
 intro τ H2 h
 rw[hC] at h
 obtain⟨xs,z,d1,ra,e2,rfl⟩:=h
 rw[lus,EW] at ra
 rw[htl]
 clear htl tl hC Pc
 trivial
 obtain⟨ns,hns⟩:∃ ns,ns=(rs.map Rk.num).filter fun k=>decide (k.length=1):=⟨_,rfl⟩
 rw[← hns] at q
 refine⟨by decide,by decide,by decide,by decide,?_⟩
 obtain⟨Pv,hP⟩:∃ Pv:Nat→St→Hp→Prop,Pv=fun i σ H'=>∃ (xs:List V) (qs:List Rk) (y:Option V),H' D=some (.lst xs)∧RksAt K H' xs qs∧qs.map Rk.num=manyN ns i∧qs.length≤25∧(∀ r∈qs,r∈rs∨(r.rule = "one"∧ToldAt K H' r.nv .any))∧Same H H'∧σ=[some (V.ref rl),some (V.ref D),y]:=⟨_,rfl⟩
 refine i8 Pv ?_ ?_ ?_
 ·rw[hP]
  refine⟨xs,_,_,d1,ra,?_,Nat.le_trans (D6 _ _) (by exact Oz96 r9),fun r hr=>.inl (FH.mp hr).1,e2,rfl⟩
  rw[hns,List.filter_map]
  rfl
 ·intro i σ H' hi h
  have hi':i<99:=hi
  rw[hP] at h
  obtain⟨xs,qs,y,d1,ra,nm,l25,nw,e,rfl⟩:=h
  have lx:xs.length=qs.length:=DT ra
  have lm:(manyN ns i).length=qs.length:=by rw[← nm,iz]
  trivial
  refine⟨by decide,fun p hp=>?_⟩
  obtain⟨I1,b1,W1,U1⟩:=bN (K:=K) hp [V.int (1+(i:Int))]
  rw[← b1]
  clear b1
  have D1:=W1 _ _ d1
  refine⟨⟨_,SqL.of D1⟩,fun D2 hD2=>qC (SqL.of D1) (RksAt.ts ra (TS.of W1)) l25 hD2 fun ms I2 W2 N2 NA=>?_⟩
  rw[nm] at NA
  refine qe (k:=[1+(i:Int)]) (Same.tup W2 U1) (SqL.of N2) NA ⟨_,rfl,?_⟩
  have W12:=W1.trans W2
  have same:manyN ns (i+1)=manyN ns i→Pv (i+1) [some (V.ref rl),some (V.ref D),some (V.int (1+(i:Int)))] I2:=fun em=>by
   rw[hP]
   exact⟨xs,qs,_,W12 _ _ d1,RksAt.ts ra (TS.of W12),by rw[em]; exact nm,l25,fun r hr=>(nw r hr).imp_right fun ⟨a,b⟩=>⟨a,b.same W12⟩,e.trans W12,rfl⟩
  by_cases hm:[1+(i:Int)]∈manyN ns i
  ·rw[decide_eq_true hm,if_neg (by decide)]
   exact same (if_neg fun h=>h.1 hm)
  ·rw[decide_eq_false hm,if_pos (by decide)]
   refine⟨_,.inl (SqL.of (W12 _ _ d1)),?_⟩
   by_cases h25:qs.length<25
   ·rw[if_pos (by rw[lx]; omega)]
    refine⟨.inl ⟨rfl,_,SqL.of (W12 _ _ d1)⟩,by decide,fun p3 hp3=>?_⟩
    obtain⟨I3,b3,W3,U3⟩:=bN (K:=K) hp3 [V.int (1+(i:Int))]
    have Z3:I3 p3=some (.tup ([1+(i:Int)].map V.int)):=by rw[b3]; exact aT
    rw[← b3]
    clear b3
    refine⟨by decide,fun p4 hp4=>?_⟩
    obtain⟨I4,b4,W4,U4⟩:=bN (K:=K) hp4 [V.str (Dj "any")]
    rw[← b4]
    clear b4
    refine⟨by decide,fun p5 hp5=>?_⟩
    obtain⟨I5,b5,W5,U5⟩:=bN (K:=K) hp5 [V.ref p3,V.ref p4,V.str (Dj "one")]
    rw[← b5]
    clear b5
    have W25:=W3.trans (W4.trans W5)
    have W15:=W12.trans W25
    have dD:=W15 _ _ d1
    have ts:TS I5 (upd I5 D (.lst (xs++[V.ref p5]))):=TS.lst dD
    refine⟨_,dD,eV (by omega),?_⟩
    rw[hP]
    refine⟨_,qs++[⟨[1+(i:Int)],.ref p4,"one"⟩],_,aT,iy ⟨p5,p3,rfl,ts.tup U5,ts.at ((W4.trans W5) _ _ Z3)⟩ (RksAt.ts ra ((TS.of W15).trans ts)),?_,by rw[Dp]; show qs.length+1≤25; omega,fun r hr=>?_,dI (e.trans W15) hD _,rfl⟩
    ·rw[DH,nm]
     exact (if_pos ⟨hm,by omega⟩).symm
    ·rcases DV.mp hr with hr | hr
     ·exact (nw r hr).imp_right fun ⟨a,b⟩=>⟨a,ie ts (b.same W15)⟩
     ·rw[DA.mp hr]
      exact .inr ⟨rfl,ie ts (.tup (Same.tup W5 U4) (.cons (.str _) .nil))⟩
   ·rw[if_neg (by rw[lx]; omega)]
    exact same (if_neg fun h=>by have:=h.2; omega)
 intro σ H' h
 rw[hP] at h
 obtain⟨xs,qs,y,d1,ra,nm,l25,nw,e,rfl⟩:=h
 trivial
 exact q D xs qs H' e d1 ra nm nw
end _T
namespace _U
open _y _B _C _D _E _F _G _I _J _K _L _M _N _O _P _Q _R _S _T PySem _l
noncomputable def top (i:Nat):Stmt:=PySem.Challenge.pw_tariffgate_k42_trees_refused.main.body.getD i (.Pass ⟨0,0,0,0⟩)
def jq:NnB "min":=by decide
abbrev cC:Stmt:=top 65
def ag:ScV ["_law_rows_here","_law_cell","_law_way","_law_row","_law_at"] ["_law_rows_here","_law_cell"] cC:=scv (by decide +kernel)
def upCl (ks:List (List Int)):Prop:=∀ k∈ks,upN k=[]∨upN k∈ks
def pZ (K:cy):Sp:=fun vs H Q _=>∃ (rl:Addr) (us:List V) (rs:List Rk) (c:Int),vs=[.ref rl,.int c]∧SqL K H rl us∧RksAt K H us rs∧(∀ r∈rs,okNum r.num∧okRule r.rule)∧upCl (rs.map Rk.num)∧1≤rs.length∧rs.length≤8∧∀ (v:V) (H':Hp),Same H H'→RowsV K H' v false→Q v H'
def kdU {l:Addr} {k:Kn} (h:Kd K H v k) (d:H l=some (.lst xs)):Kd K (upd H l (.lst ys)) v k:=by
 cases v with
 | ref a =>
  rcases h with ⟨e,zs,h⟩ | ⟨e,zs,h⟩ | ⟨e,h⟩
  ·by_cases hal:a=l
   ·subst hal
    exact .inl ⟨e,ys,SqL.of aT⟩
   ·exact .inl ⟨e,zs,SqL.upd h hal⟩
  ·exact .inr (.inl ⟨e,zs,(TS.lst d).tup h⟩)
  ·exact .inr (.inr ⟨e,by rw[aZ (fun z=>by rw[z,d] at h; cases h)]; exact h⟩)
 | _=>exact h
def BD {l:Addr} {b:Bool} (h:RowV K H v b) (d:H l=some (.lst xs)):RowV K (upd H l (.lst ys)) v b:=by
 have nu:∀ {v:V} {b:Bool},NumV K H v b→NumV K (upd H l (.lst ys)) v b:=fun {v b} h=>by
  cases h with
  | no a c=>exact .no (kdU a d) c
  | tup a c=>exact .tup ((TS.lst d).tup a) fun x hx=>(c x hx).imp fun _ h=>kdU h d
 have pi:∀ {v:V} {b:Bool},PickV K H v b→PickV K (upd H l (.lst ys)) v b:=fun {v b} h=>by
  cases h with
  | good a=>exact .good a
  | bad a=>exact .bad a
  | no a c=>exact .no (kdU a d) c
 cases h with
 | no a c=>exact .no (kdU a d) c
 | len a c=>exact .len ((TS.lst d).tup a) c
 | row a c e=>exact .row ((TS.lst d).tup a) (nu c) (pi e)
theorem nC {α β:Type} {R:α→β→Prop} {x:α} {y:β} (h:R x y):∀ {xs:List α} {ys:List β},Paired R xs ys→∀ m,Paired R (xs.set m x) (ys.set m y)
 | _,_,.nil,_=>.nil
 | _,_,.cons _ t,0=>.cons h t
 | _,_,.cons a t,m+1=>.cons a (nC h t m)
theorem nF {α β:Type} {R:α→β→Prop} {x:α} {y:β} (h:R x y):∀ {xs:List α} {ys:List β},Paired R xs ys→∀ m,Paired R (xs.take m++x::xs.drop m) (ys.take m++y::ys.drop m)
 | _,_,.nil,0=>.cons h .nil
 | _,_,.nil,_+1=>.cons h .nil
 | _,_,.cons a t,0=>.cons h (.cons a t)
 | _,_,.cons a t,m+1=>.cons a (nF h t m)
theorem vt {ks:List (List Int)} (u:upCl ks):∀ (n:Nat) (a:Int) (t:List Int),t.length=n→a::t∈ks→[a]∈ks
 | 0,a,t,l,h=>by rw[List.length_eq_zero_iff.mp l] at h; exact h
 | n+1,a,b::t,l,h=>by
  rcases u _ h with e | e
  ·cases e
  ·refine vt u n a ((b::t).dropLast) ?_ e
   rw[Fe,l]
   rfl
theorem rR {ns:List (List Int)} (h:ns.length≤25):∀ i,(manyN ns i).length≤25∧((manyN ns i).length=25∨∀ j<i,[1+(j:Int)]∈manyN ns i)
 | 0=>⟨h,.inr fun j hj=>absurd hj (Nat.not_lt_zero _)⟩
 | i+1=>by
  obtain⟨a,b⟩:=rR h i
  by_cases c:[1+(i:Int)] ∉ manyN ns i∧(manyN ns i).length<25
  ·have e:manyN ns (i+1)=manyN ns i++[[1+(i:Int)]]:=if_pos c
   rw[e,Dp]
   refine⟨by have:=c.2; show _+1≤25; omega,?_⟩
   rcases b with b | b
   ·have:=c.2
    omega
   ·refine .inr fun j hj=>?_
    by_cases hji:j=i
    ·subst hji
     exact DV.mpr (.inr (DA.mpr rfl))
    ·exact DV.mpr (.inl (b j (by exact Oz86 hj hji)))
  ·have e:manyN ns (i+1)=manyN ns i:=if_neg c
   rw[e]
   refine⟨a,?_⟩
   rcases b with b | b
   ·exact .inl b
   ·by_cases l:(manyN ns i).length=25
    ·exact .inl l
    ·refine .inr fun j hj=>?_
     by_cases hji:j=i
     ·subst hji
      exact Classical.byContradiction fun hn=>c ⟨hn,by omega⟩
     ·exact b j (by exact Oz86 hj hji)
def yF {ns:List (List Int)} (h:ns.length≤25):(manyN ns 99).length=25:=by
 obtain⟨a,b⟩:=rR h 99
 rcases b with b | b
 ·exact b
 ·have nd:(((DJ 99).map fun j:Nat=>(1+(j:Int))).map fun x=>[x]).Nodup:=by decide +kernel
  have:=G9 nd (l₂:=manyN ns 99) (fun s hs=>by
   obtain⟨x,hx,rfl⟩:=DZ.mp hs
   obtain⟨j,hj,rfl⟩:=DZ.mp hx
   exact b j (ES.mp hj))
  rw[iz,iz,DW] at this
  omega
def vA {ks:List (List Int)} {k:List Int} (h:placeB (ks.take m++k::ks.drop m) k=false):(ks.take m++k::ks.drop m).all (placeB (ks.take m++k::ks.drop m))=false:=by
 rw[List.all_eq_false]
 exact⟨k,DV.mpr (.inr (.head _)),by rw[h]; decide⟩
def xQ {ks:List (List Int)} {k:List Int} (h:k∈ks):placeB (ks.take m++k::ks.drop m) k=false:=by
 have c:0<ks.count k:=List.count_pos_iff.mpr h
 have e:(ks.take m++k::ks.drop m).count k=ks.count k+1:=by
  rw[List.count_append,Jm,← Nat.add_assoc,← List.count_append,Jf]
 unfold placeB
 rw[e,decide_eq_false (by omega),FA]
def qp {ks:List (List Int)} {k:List Int} (u:upCl ks) (h:yH ks k):placeB (ks.take m++k::ks.drop m) k=false:=by
 obtain⟨a,t,rfl,t1,na,_⟩:=h
 obtain⟨b,t,rfl⟩:∃ b t',t=b::t':=by
  cases t with
  | nil=>exact absurd t1 (by decide)
  | cons b t=>exact⟨b,t,rfl⟩
 have e1:upN (a::b::t)≠[]:=fun z=>by cases z
 have e2:upN (a::b::t) ∉ ks.take m++(a::b::t)::ks.drop m:=fun z=>by
  have z':upN (a::b::t)∈ks∨upN (a::b::t)=a::b::t:=by
   rcases DV.mp z with z | z
   ·exact .inl (EI z)
   ·rcases Du.mp z with z | z
    ·exact .inr z
    ·exact .inl (Gm z)
  rcases z' with z | z
  ·exact na (vt u _ a (b::t).dropLast rfl z)
  ·have:=congrArg Jv z
   unfold upN at this
   rw[Fe] at this
   have l2:(a::b::t).length=t.length+2:=rfl
   omega
 unfold placeB
 rw[decide_eq_false e1,decide_eq_false e2,Bool.or_false,Fj]
def oR (F:Fun K "_law_bad_rows" "_law_bad_rows" cC f fd) (M:Mg mg) (bJ:Cal P w K mg base CX0 "_law_many" 1 ["_law_rows_here"] (rE K)) (bp:Cal P w K mg base CX0 "_law_alone" 1 ["_law_rows_here","_law_cell"] (pO K)) (dk:Cal P w K mg base CX0 "_law_bad_row" 1 ["_law_rows_here","_law_at","_law_cell"] (se K)):FnOk P w K mg base CX0 2 f fd ["_law_rows_here","_law_cell"] (pZ K):=by
 refine F.ok ag.fs (fun vs H Q E h=>?_) (fun cdv A outer s H vs Q E hr h=>?_)
 ·obtain⟨rl,us,rs,c,rfl,_⟩:=h
  rfl
 obtain⟨rl,us,rs,c,rfl,hL,RA,rok,ucl,r1,r8,q⟩:=h
 refine⟨_,(`f (`h 2 ag (`d (@dF _) (`b 1 ag rfl) `c) rfl) (`f (`h 3 ag (@gF _ _ _ _ _ _ _ _ _ iU rfl M.m_list kr (`a (`b 0 ag rfl) `o (aN rfl)) a8 rfl (aN rfl) aW) rfl) (`f (`h 4 ag (`d (@dF _) (`d (@dY _) (`b 1 ag rfl) `c) (`i cQ rfl M.m_len fM (`a (`b 0 ag rfl) `o (aN rfl)) aq rfl (aN rfl) aW)) rfl) (`f (`m (`k (@qX _) (`b 2 ag rfl) `c (dm _)) (`n (`q (@iM _ _ _ _ _ _ _ (`a (@fS _ _ _ _ `o) (`a (@gF _ _ _ _ _ _ _ _ _ jV rfl M.m_tuple iN (`a (`b 0 ag rfl) `o (aN rfl)) aL rfl (aN rfl) aW) (`a (@iV _ _ _) (`a (`e bJ hr rfl (`a (`b 0 ag rfl) `o (aN rfl)) (by decide) rfl (aN rfl) aW) `o (aN rfl)) (aN rfl)) (aN rfl)) (aN rfl)) (`i (xU rfl) rfl M.m_min CS (`a `c (`a (`d (@dF _) (`d (@dY _) (`b 1 ag rfl) `c) `c) `o (aN rfl)) (aN rfl)) jq rfl (aN rfl) (cg rfl aW)) (fun _ _=>rfl)))) (@dw _)) (`f (`m (`k (@fk _) (`b 2 ag rfl) `c (dm _)) (`n (@gY _ _ _ _ (@iG _ _ _ _ _ _ _ _ _ _ _ _ DQ GA GB mH (`b 3 ag rfl) (`a (`b 4 ag rfl) (`a (`j (`a (`g (@ix_tup _) (`g (@ix_list _) (`b 0 ag rfl) (`d (@dF _) (`d (@dY _) (`b 1 ag rfl) `c) (`i cQ rfl M.m_len fM (`a (`b 0 ag rfl) `o (aN rfl)) aq rfl (aN rfl) aW)) (fun _ _=>rfl)) `c (fun _ _=>rfl)) (`a (`j (`a `p `o (aN rfl))) (`a `p `o (aN rfl)) (aN rfl)) (aN rfl))) `o (aN rfl)) (aN rfl)) (by rfl) (by rfl) (by rfl) (by rfl) (by rfl)) (fV rfl))) (`n (`m (`k (@fk _) (`b 2 ag rfl) `c (dm _)) (`n (@gY _ _ _ _ (@iG _ _ _ _ _ _ _ _ _ _ _ _ DQ GA GB mH (`b 3 ag rfl) (`a (`b 4 ag rfl) (`a (`j (`a (`e bp hr rfl (`a (`b 0 ag rfl) (`a (`d (@dY _) (`b 1 ag rfl) `c) `o (aN rfl)) (aN rfl)) (by decide) rfl (aN rfl) (cg rfl aW)) (`a (`j (`a `p `o (aN rfl))) (`a `p `o (aN rfl)) (aN rfl)) (aN rfl))) `o (aN rfl)) (aN rfl)) (by rfl) (by rfl) (by rfl) (by rfl) (by rfl)) (fV rfl))) (`n (@jP _ _ _ _ _ _ (`e dk hr rfl (`a (`b 0 ag rfl) (`a (`b 4 ag rfl) (`a (`d (@dY _) (`b 1 ag rfl) `c) `o (aN rfl)) (aN rfl)) (aN rfl)) (by decide) rfl (aN rfl) (cg rfl (cg rfl aW))) (@kY _ _ _ _ _ _ _ (`b 3 ag rfl) (`b 4 ag rfl) set_list (by intro _; rfl)) (by rfl) (by rfl) (by rfl)))))) (`n (`q (`b 3 ag rfl)))))))),?_⟩
 refine eU fun tl htl=>?_
 trivial
 refine⟨by decide,?_⟩
 rw[htl]
 clear htl tl
 refine eU fun tl htl=>?_
 trivial
 have lus:us.length=rs.length:=DT RA
 refine⟨_,.inl hL,fun cl hcl=>?_⟩
 obtain⟨I1,b1,W1,U1⟩:=dW (K:=K) hcl us
 have Z1:I1 cl=some (.lst us):=by rw[b1]; exact aT
 rw[← b1,htl]
 clear b1 htl tl
 refine eU fun tl htl=>?_
 trivial
 have j0:=DB (c / 8) (show (us.length:Int)≠0 by exact Oz34 r1 lus)
 have j1:=Dv (c / 8) (show (0:Int)<(us.length:Int) by exact Oz12 r1 lus)
 obtain⟨m,hm⟩:∃ j:Nat,c / 8 % (us.length:Int)=j:=⟨(c / 8 % (us.length:Int)).toNat,by exact Oz0 j0⟩
 refine⟨cdiv (by decide) (by decide),_,.inl (W1.seq hL),by exact Oz12 r1 lus,?_⟩
 rw[hm,htl]
 clear htl tl
 trivial
 have S1:=W1
 have ins:∀ {H2:Hp} {p1 p2 ka:Addr} {k:List Int},Same H H2→H2 cl=some (.lst us)→SqT K H2 p2 [.ref ka,.ref p1,.str (Dj "one")]→H2 ka=some (.tup (k.map V.int))→okNum k→placeB ((rs.map Rk.num).take m++k::(rs.map Rk.num).drop m) k=false→Q (.ref cl) (upd H2 cl (.lst (us.take m++V.ref p2::us.drop m))):=fun {H2 p1 p2 ka k} S2 d T ha ok pb=>by
  have ts:TS H2 (upd H2 cl (.lst (us.take m++V.ref p2::us.drop m))):=TS.lst d
  refine q _ _ (dI S2 hcl _) ?_
  have rk:v7 K (upd H2 cl (.lst (us.take m++V.ref p2::us.drop m))) (.ref p2) ⟨k,.ref p1,"one"⟩:=⟨p2,ka,rfl,ts.tup T,ts.at ha⟩
  have ll:(us.take m++V.ref p2::us.drop m).length=us.length+1:=by
   rw[Dp,DF,Dt,ED]
   exact Oz2
  have g:=RowsV.rows (K:=K) (SqL.of (aT (H:=H2) (a:=cl))) (by exact Oz47 ll) (by omega) (nF rk (RksAt.ts RA ((TS.of S2).trans ts)) m) (fun r hr=>by
   rcases DV.mp hr with hr | hr
   ·exact rok r (EI hr)
   ·rcases Du.mp hr with rfl | hr
    ·exact⟨ok,.inl rfl⟩
    ·exact rok r (Gm hr))
  rwa [DH,D8,Fx,Iu,vA pb] at g
 by_cases w3:c % 8<3
 ·rw[if_pos w3]
  refine⟨by decide,fun p2 hp2=>?_⟩
  obtain⟨I2,b2,W2,U2⟩:=dW (K:=K) hp2 []
  rw[← b2]
  clear b2
  refine⟨us,.inl ⟨W2.seq (W1.seq hL),fun p3 hp3=>?_⟩⟩
  obtain⟨I3,b3,W3,U3⟩:=bN (K:=K) hp3 us
  rw[← b3]
  clear b3
  have S3:=W1.trans (W2.trans W3)
  refine⟨rl,us,rs,rfl,S3.seq hL,RksAt.ts RA (TS.of S3),by exact Oz92 r8,fun l xs qs I4 W4 dl ra nm nw=>?_⟩
  have lq:xs.length=25:=by
   rw[DT ra,← iz (f:=Rk.num),nm]
   exact yF (Nat.le_trans (D6 _ _) (by rw[iz]; omega))
  have S4:=S3.trans W4
  have i0:=DB (c / 8) (show (6:Int)≠0 by decide)
  have i1:=Dv (c / 8) (show (0:Int)<6 by decide)
  refine⟨by decide,cdiv (by decide) (by decide),by decide,?_⟩
  have last:∀ {j:Int},j=3→0≤j∧∃ x_1,[V.ref p2,V.ref p3,V.non,V.ref l][j.toNat]?=some x_1∧Q x_1 I4:=fun {j} e=>by
   subst e
   exact⟨by decide,_,rfl,q _ _ S4 (.len (SqL.of dl) (by omega) (by omega))⟩
  by_cases x3:c / 8 % 6<3
  ·rw[if_pos x3]
   have:c / 8 % 6=0∨c / 8 % 6=1∨c / 8 % 6=2:=by omega
   rcases this with h | h | h <;> rw[h]
   ·exact⟨by decide,_,rfl,q _ _ S4 (.len ((W3.trans W4).seq U2) (by decide) (by decide))⟩
   ·exact⟨by decide,_,rfl,q _ _ S4 (.no (k:=.tup) (.inr (.inl ⟨rfl,_,Same.tup W4 U3⟩)) (by decide))⟩
   ·exact⟨by decide,_,rfl,q _ _ S4 (.no (k:=.non) rfl (by decide))⟩
  ·rw[if_neg x3]
   exact last rfl
 rw[if_neg w3]
 by_cases e3:c % 8=3
 ·rw[if_pos e3]
  have j0:=DB (c / 64) (show (us.length:Int)≠0 by exact Oz34 r1 lus)
  have j1:=Dv (c / 64) (show (0:Int)<(us.length:Int) by exact Oz12 r1 lus)
  obtain⟨m2,hm2⟩:∃ j:Nat,c / 64 % (us.length:Int)=j:=⟨(c / 64 % (us.length:Int)).toNat,by exact Oz0 j0⟩
  obtain⟨v0,hv0⟩:∃ v0,us[m2]?=some v0:=⟨us[m2]'(by exact Oz16 j1 hm2),Dm _⟩
  obtain⟨r0,hr0,pr,an,rfl,Tr,Na⟩:=gy RA hv0
  have mr:=Ds hr0
  refine⟨.inl ⟨rfl,_,SqL.of Z1⟩,cdiv (by decide) (by decide),_,.inl (W1.seq hL),by exact Oz12 r1 lus,_,W1.seq hL,_,(by rw[hm2]; exact dX hv0),pr,rfl,_,Same.tup W1 Tr,_,at0,by decide,fun p2 hp2=>?_⟩
  obtain⟨I2,b2,W2,U2⟩:=bN (K:=K) hp2 [V.str (Dj "any")]
  rw[← b2]
  clear b2
  refine⟨by decide,fun p3 hp3=>?_⟩
  obtain⟨I3,b3,W3,U3⟩:=bN (K:=K) hp3 [V.ref an,V.ref p2,V.str (Dj "one")]
  rw[← b3]
  clear b3
  have S3:=W1.trans (W2.trans W3)
  exact⟨us,m,rfl,W3 _ _ (W2 _ _ Z1),by omega,eV (by omega),ins S3 (W3 _ _ (W2 _ _ Z1)) U3 (S3 _ _ Na) (rok r0 mr).1 (xQ (DZ.mpr ⟨r0,mr,rfl⟩))⟩
 rw[if_neg e3]
 by_cases e4:c % 8=4
 ·rw[if_pos e4]
  refine⟨.inl ⟨rfl,_,SqL.of Z1⟩,cdiv (by decide) (by decide),rl,us,rs,c / 8,rfl,W1.seq hL,RksAt.ts RA (TS.of W1),by exact Oz92 r8,fun pk k I2 W2 hk al=>?_⟩
  refine⟨by decide,fun p3 hp3=>?_⟩
  obtain⟨I3,b3,W3,U3⟩:=bN (K:=K) hp3 [V.str (Dj "any")]
  rw[← b3]
  clear b3
  refine⟨by decide,fun p4 hp4=>?_⟩
  obtain⟨I4,b4,W4,U4⟩:=bN (K:=K) hp4 [V.ref pk,V.ref p3,V.str (Dj "one")]
  rw[← b4]
  clear b4
  have S4:=W1.trans (W2.trans (W3.trans W4))
  have d4:=(W2.trans (W3.trans W4)) _ _ Z1
  have ok:=al
  obtain⟨_,_,_,_,_,ok⟩:=ok
  exact⟨us,m,rfl,d4,by omega,eV (by omega),ins S4 d4 U4 ((W3.trans W4) _ _ hk) ok (qp ucl al)⟩
 rw[if_neg e4]
 refine⟨cdiv (by decide) (by decide),rl,us,rs,m,c / 64,rfl,W1.seq hL,RksAt.ts RA (TS.of W1),rok,by exact Oz77 lus j1 hm,fun v I2 W2 rv=>?_⟩
 have d2:=W2 _ _ Z1
 refine⟨us,d2,m,pQ (by exact Oz16 j1 hm),q _ _ (dI (W1.trans W2) hcl _) ?_⟩
 have ts:TS I2 (upd I2 cl (.lst (us.set m v))):=TS.lst d2
 have ll:(us.set m v).length=us.length:=F3
 refine RowsV.bad (SqL.of aT) (by omega) (by omega) (nC (BD rv d2) (nR (RksAt.ts RA ((TS.of (W1.trans W2)).trans ts)) rok) m) ?_
 exact Et.mpr ⟨m,by rw[Fq (by rw[iz]; exact Oz77 lus j1 hm)]⟩
end _U
namespace _V
open _y _B _C _D _E _F _G _I _J _K _L _M _N _O _P _Q _R _S _T _U PySem _l
noncomputable def top (i:Nat):Stmt:=PySem.Challenge.pw_tariffgate_k42_trees_refused.main.body.getD i (.Pass ⟨0,0,0,0⟩)
abbrev iD:Stmt:=top 69
def ah:ScV ["_law_script","_law_kinds_here","_law_good","_law_bits","_law_rule","_law_asked_here","_law_at","_law_way","_law_due","_law_alone_here","_law_number","_law_deep_here"] ["_law_script"] iD:=scv (by decide +kernel)
def iI (K:cy) (H:Hp) (v:V):Prop:=∃ n,ToldAt K H v n∧n.ok∧n.dp≤5
structure RwsOk (K:cy) (H:Hp) (rl:Addr) (us:List V) (rs:List Rk):Prop where
 sq:SqL K H rl us
 at_:RksAt K H us rs
 ok:∀ r∈rs,okNum r.num∧okRule r.rule
 up:upCl (rs.map Rk.num)
 nd:(rs.map Rk.num).Nodup
 l1:1≤rs.length
 l24:rs.length≤24
theorem qD {k:List Int}:∀ {ks:List (List Int)},ks.Nodup→k∈ks→ks.count k=1
 | c::ks,n,m=>by
  obtain⟨a,b⟩:=Fp.mp n
  by_cases e:c=k
  ·subst e
   rw[Jm,List.count_eq_zero.mpr a]
  ·rw[Je,if_neg (by intro z; exact e (eq_of_beq z))]
   exact qD b ((Du.mp m).resolve_left fun z=>e z.symm)
def RwsOk.good {K:cy} {H:Hp} {rl:Addr} {us:List V} {rs:List Rk} (h:RwsOk K H rl us rs):RowsV K H (.ref rl) true:=by
 have l:us.length=rs.length:=DT h.at_
 have g:=RowsV.rows h.sq (by have:=h.l1; omega) (by have:=h.l24; omega) h.at_ h.ok
 have e:(rs.map Rk.num).all (placeB (rs.map Rk.num))=true:=by
  rw[Ek]
  intro k hk
  unfold placeB
  rw[decide_eq_true (qD h.nd hk),Fy,Bool.or_eq_true]
  exact (h.up k hk).imp decide_eq_true decide_eq_true
 rwa [e] at g
noncomputable def oV (K:cy) (H:Hp) (r:Rk):Nt:=open Classical in if h:iI K H r.nv then h.choose else .any
def qm {r:Rk} (h:iI K H r.nv):ToldAt K H r.nv (oV K H r)∧(oV K H r).ok∧(oV K H r).dp≤5:=by
 unfold oV
 rw[dif_pos h]
 exact h.choose_spec
def nG {us:List V} {ks:List Kd2} {rs:List Rk} {z:Str} (hK:SqL K H kl kx) (KA:KnA K H kx ks) (kok:KsOk ks) (okz:okRule z) (h:RwsOk K H rl us rs) (rk:RkOk rs) (t:∀ r∈rs,iI K H r.nv):Cls3 K H (.ref kl) (.str z) (.ref rl) 3 :=
 .inr ⟨kl,kx,ks,rfl,hK,KA,kok,.inr ⟨z,rfl,okz,.inr ⟨rl,us,rs,oV K H,fun _=>true,rfl,h.sq,h.at_,rk,h.good,h.l1,h.l24,fun r hr=>.inl ⟨rfl,qm (t r hr)⟩,.inr ⟨rfl,fun _ _=>rfl⟩⟩⟩⟩
def zE {us:List V} {ks:List Kd2} {rs:List Rk} {z:Str} (hK:SqL K H kl kx) (KA:KnA K H kx ks) (kok:KsOk ks) (okz:okRule z) (h:RwsOk K H rl us rs) (rk:RkOk rs) (t:∀ r∈rs,iI K H r.nv∨NBad K H 5 r.nv) (b:∃ r∈rs,NBad K H 5 r.nv):Cls3 K H (.ref kl) (.str z) (.ref rl) 2:=by
 classical
 refine .inr ⟨kl,kx,ks,rfl,hK,KA,kok,.inr ⟨z,rfl,okz,.inr ⟨rl,us,rs,oV K H,fun r=>!decide (NBad K H 5 r.nv),rfl,h.sq,h.at_,rk,h.good,h.l1,h.l24,fun r hr=>?_,.inl ⟨rfl,?_⟩⟩⟩⟩
 ·by_cases c:NBad K H 5 r.nv
  ·exact .inr ⟨by show (!decide (NBad K H 5 r.nv))=false; rw[decide_eq_true c]; rfl,c⟩
  ·exact .inl ⟨by show (!decide (NBad K H 5 r.nv))=true; rw[decide_eq_false c]; rfl,qm ((t r hr).resolve_right c)⟩
 ·obtain⟨r,hr,c⟩:=b
  exact⟨r,hr,by show (!decide (NBad K H 5 r.nv))=false; rw[decide_eq_true c]; rfl⟩
theorem zj {K:cy} {H:Hp}:∀ {us:List V} {rs:List Rw},RowsAt K H us rs→(∀ r∈rs,okNum r.num∧okRule r.rule∧r.note.ok∧r.note.dp≤5)→∃ r2,RksAt K H us r2∧r2.map Rk.num=rs.map Rw.num∧∀ r∈r2,iI K H r.nv∧okNum r.num∧okRule r.rule
 | _,_,.nil,_=>⟨[],.nil,rfl,fun _ h=>nomatch h⟩
 | _,_,.cons (b:=r) ⟨p,a,t,e,h2,h3,h4⟩ tl,ok=>by
  obtain⟨r2,a1,a2,a3⟩:=zj tl fun r hr=>ok r (.tail _ hr)
  obtain⟨o1,o2,o3,o4⟩:=ok r (.head _)
  refine⟨⟨r.num,.ref t,r.rule⟩::r2,.cons ⟨p,a,e,h2,h3⟩ a1,by rw[D8,D8,a2],fun r' hr=>?_⟩
  rcases Du.mp hr with rfl | hr
  ·exact⟨⟨_,h4,o3,o4⟩,o1,o2⟩
  ·exact a3 r' hr
def Cw {us:List V} (L:SqL K H rl us) (ra:RowsAt K H us rs) (ok:RsOk 5 rs) (r1:1≤rs.length) (r8:rs.length≤8):∃ r2,RwsOk K H rl us r2∧RkOk r2∧r2.map Rk.num=rs.map Rw.num∧∀ r∈r2,iI K H r.nv:=by
 obtain⟨r2,a1,a2,a3⟩:=zj ra fun r hr=>⟨⟨(ok.len r hr).1,(ok.len r hr).2,ok.part r hr⟩,ok.rule r hr,ok.ok r hr⟩
 have l2:r2.length=rs.length:=by rw[← iz (f:=Rk.num),a2,iz]
 refine⟨r2,⟨L,a1,fun r hr=>(a3 r hr).2,?_,by rw[a2]; exact ok.nd,by exact Oz32 r1 l2,by omega⟩,⟨by rw[a2]; exact ok.nd,fun r hr=>⟨(a3 r hr).2.1.1,(a3 r hr).2.1.2.1⟩⟩,a2,fun r hr=>(a3 r hr).1⟩
 rw[a2]
 intro k hk
 obtain⟨r,hr,rfl⟩:=DZ.mp hk
 exact ok.up r hr
def vM {l:Addr} {b:Bool} (h:NameV K H v b) (d:H l=some (.lst xs)):NameV K (upd H l (.lst ys)) v b:=by
 cases h with
 | no a c=>exact .no (kdU a d) c
 | txt a c=>exact .txt a c
def wI {l:Addr} {b:Bool} (h:KindV K H v b) (d:H l=some (.lst xs)):KindV K (upd H l (.lst ys)) v b:=by
 cases h with
 | no a c=>exact .no (kdU a d) c
 | len a c=>exact .len ((TS.lst d).tup a) c
 | two a c e=>exact .two ((TS.lst d).tup a) (vM c d) (vM e d)
def CN {l:Addr} (d:H l=some (.lst xs)) {n:Nat} (h:NBad K H n v):NBad K (upd H l (.lst ys)) n v:=by
 induction h with
 | zero v=>exact .zero v
 | no k n=>exact .no (kdU k d) n
 | nil t=>exact .nil ((TS.lst d).tup t)
 | head t k n=>exact .head ((TS.lst d).tup t) (kdU k d) n
 | one t n b =>
  refine .one ((TS.lst d).tup t) n ?_
  cases b with
  | w0 a=>exact .w0 a
  | n1 a=>exact .n1 (vM a d)
  | m1 a b c e=>exact .m1 a b c e
  | w2 a=>exact .w2 a
  | k1 a=>exact .k1 (wI a d)
  | k2 a b=>exact .k2 (wI a d) (wI b d)
 | fst z t _ ih=>exact .fst z ((TS.lst d).tup t) ih
 | snd z t r o dp _ ih=>exact .snd z ((TS.lst d).tup t) (ie (TS.lst d) r) o dp ih
theorem sY {α:Type} {x:α}:∀ {xs:List α} {m:Nat},xs[m]?=some x→xs.set m x=xs
 | [],_,_=>rfl
 | y::ys,0,h=>by cases h; rfl
 | y::ys,m+1,h=>congrArg (y::·) (sY (xs:=ys) (m:=m) h)
def CZ {l:Addr} {b:Bool} (h:PickV K H v b) (d:H l=some (.lst xs)):PickV K (upd H l (.lst ys)) v b:=by
 cases h with
 | good a=>exact .good a
 | bad a=>exact .bad a
 | no a c=>exact .no (kdU a d) c
def CW {l:Addr} {b:Bool} (h:RowsV K H v b) (d:H l=some (.lst xs)) (n:v≠.ref l):RowsV K (upd H l (.lst ys)) v b:=by
 have e:∀ {a:Addr} {zs:List V},SqL K H a zs→v=.ref a→SqL K (upd H l (.lst ys)) a zs:=fun h e=>SqL.upd h fun z=>n (by rw[e,z])
 cases h with
 | no k n=>exact .no (kdU k d) n
 | len L a c=>exact .len (e L rfl) a c
 | bad L a c pr m=>exact .bad (e L rfl) a c (Paired.mapP pr fun v b h=>BD h d) m
 | rows L a c ra ok=>exact .rows (e L rfl) a c (ra.ts (TS.lst d)) ok
def AO {al:Addr} {z:Str} (d:H al=some (.lst [.ref kl,.str z,.ref al])) (hk:SqL K H kl kx):RowsV K H (.ref al) false :=
 .bad (SqL.of d) (by show 1≤3; decide) (by show 3≤24; decide) (.cons (.no (k:=.lst) (.inl ⟨rfl,_,hk⟩) (by decide)) (.cons (.no (k:=.str) rfl (by decide)) (.cons (.no (k:=.lst) (.inl ⟨rfl,_,SqL.of d⟩) (by decide)) .nil))) (.head _)
def Cls3.same {kv rv wv:V} {c:Nat} (h:Cls3 K H kv rv wv c) (e:Same H H'):Cls3 K H' kv rv wv c:=by
 rcases h with ⟨a,b⟩ | ⟨kl,kx,ks,a,b,d,g,⟨i,j⟩ | ⟨z,i,j,⟨l,m⟩ | ⟨rl,us,rs,nt,gd,l,m,n,o,p,q,r,s,t⟩⟩⟩
 ·exact .inl ⟨a,b.same e⟩
 ·exact .inr ⟨kl,kx,ks,a,e.seq b,d.same e,g,.inl ⟨i,j.same e⟩⟩
 ·exact .inr ⟨kl,kx,ks,a,e.seq b,d.same e,g,.inr ⟨z,i,j,.inl ⟨l,m.same e⟩⟩⟩
 ·exact .inr ⟨kl,kx,ks,a,e.seq b,d.same e,g,.inr ⟨z,i,j,.inr ⟨rl,us,rs,nt,gd,l,e.seq m,RksAt.ts n (TS.of e),o,p.same e,q,r,fun x hx=>(s x hx).imp (fun ⟨u,v,w⟩=>⟨u,v.same e,w⟩) (fun ⟨u,v⟩=>⟨u,v.same e⟩),t⟩⟩⟩
def mW {p q:Addr} {c:Nat} (h1:H p=some (.tup (mY c))) (h2:H q=some (.tup (mY c))) (hq:Q (.bl (!neg)) H):pq K neg (.ref p) (.ref q) H Q:=by
 unfold mY at h1 h2
 by_cases e:c=3
 ·rw[if_pos e] at h1 h2
  exact qd (.tup (SqT.of h1) .nil) (.tup (SqT.of h2) .nil) ⟨rfl,by decide⟩ hq
 ·rw[if_neg e] at h1 h2
  refine qd (.tup (SqT.of h1) (.cons (.bl _) (.cons (.bl _) (.cons (.bl _) .nil)))) (.tup (SqT.of h2) (.cons (.bl _) (.cons (.bl _) (.cons (.bl _) .nil)))) ⟨rfl,?_⟩ hq
  show 1≤40
  decide
def CI (h:xs.length=25):gC xs (some 1) (some 24)=(xs.drop 1).take 23:=by
 have e1:_ht.sIx xs.length 0 (some 1)=1:=by rw[h]; exact _ht.sIx_nat _ _ 1
 have e2:_ht.sIx xs.length xs.length (some 24)=24:=by rw[h]; exact _ht.sIx_nat _ _ 24
 unfold gC
 rw[e1,e2]
def many_ok:(([1]:List Int)::((manyN [] 99).drop 1).take 23).Nodup∧∀ k∈([1]:List Int)::((manyN [] 99).drop 1).take 23,(1≤k.length∧k.length≤4∧∀ x∈k,1≤x∧x≤99)∧upN k=[]:=by
 decide +kernel
def CB (F:Fun K "law" "law" iD f fd) (M:Mg mg) (eQ:Cal P w K mg base CX0 "_law_kinds" 2 ["_law_script"] (u9 K)) (fg:Cal P w K mg base CX0 "_law_rows" 6 ["_law_script","_law_kinds_here"] (vH K)) (dU:Cal P w K mg base CX0 "_law_turned" 1 ["_law_rows_here","_law_cell"] (qi K)) (am:Cal P w K mg base CX0 "_law_cell_at" 1 ["_law_script","_law_k"] (kF K)) (cF:Cal P w K mg base CX0 "_law_bad_note" 2 ["_law_kinds_here","_law_cell"] (qv K)) (cH:Cal P w K mg base CX0 "_law_bad_rows" 2 ["_law_rows_here","_law_cell"] (pZ K)) (bW:Cal P w K mg base CX0 "_law_bad_kinds" 1 ["_law_kinds_here","_law_cell"] (uS K)) (bp:Cal P w K mg base CX0 "_law_alone" 1 ["_law_rows_here","_law_cell"] (pO K)) (bJ:Cal P w K mg base CX0 "_law_many" 1 ["_law_rows_here"] (rE K)) (bI:Cal P w K mg base CX0 "_law_deep" 1 ["_law_kinds_here","_law_deep_here"] (pF K)) (bq:Cal P w K mg base CX0 "_law_asked" 14 ["_law_kinds_here","_law_rule","_law_rows_here"] (yZ K)):FnOk P w K mg base CX0 16 f fd ["_law_script"] (rg K):=by
 refine F.ok ah.fs (fun vs H Q E h=>?_) (fun cdv A outer s H vs Q E hr h=>?_)
 ·obtain⟨a,ns,rfl,_⟩:=h
  rfl
 obtain⟨a,ns,rfl,hS,l63,q⟩:=h
 refine⟨_,(`f (`h 1 ah (`e eQ hr rfl (`a (`b 0 ah rfl) `o (aN rfl)) (by decide) rfl (aN rfl) aW) rfl) (`f (`h 2 ah (`e dU hr rfl (`a (`e fg hr rfl (`a (`b 0 ah rfl) (`a (`b 1 ah rfl) `o (aN rfl)) (aN rfl)) (by decide) rfl (aN rfl) (cg rfl aW)) (`a (`e am hr rfl (`a (`b 0 ah rfl) (`a `c `o (aN rfl)) (aN rfl)) (by decide) rfl (aN rfl) (cg rfl aW)) `o (aN rfl)) (aN rfl)) (by decide) rfl (aN rfl) (cg rfl aW)) rfl) (`f (`h 3 ah (`d (@dF _) (`e am hr rfl (`a (`b 0 ah rfl) (`a `c `o (aN rfl)) (aN rfl)) (by decide) rfl (aN rfl) (cg rfl aW)) `c) rfl) (`f (`h 4 ah (@iM _ _ _ _ _ _ _ (`a `p (`a `p `o (aN rfl)) (aN rfl)) (`d (@dF _) (`d (@dY _) (`e am hr rfl (`a (`b 0 ah rfl) (`a `c `o (aN rfl)) (aN rfl)) (by decide) rfl (aN rfl) (cg rfl aW)) `c) `c) (fun _ _=>rfl)) rfl) (`f (`h 5 ah (@fS _ _ _ _ (`a (`b 1 ah rfl) (`a (`b 4 ah rfl) (`a (@gF _ _ _ _ _ _ _ _ _ iU rfl M.m_list kr (`a (`b 2 ah rfl) `o (aN rfl)) a8 rfl (aN rfl) aW) `o (aN rfl)) (aN rfl)) (aN rfl))) rfl) (`f (`m (`k (@fk _) (`d (@dY _) (`b 3 ah rfl) `c) `c (dm _)) (`f (`h 6 ah (`d (@dF _) (`e am hr rfl (`a (`b 0 ah rfl) (`a `c `o (aN rfl)) (aN rfl)) (by decide) rfl (aN rfl) (cg rfl aW)) (`i cQ rfl M.m_len fM (`a (`b 2 ah rfl) `o (aN rfl)) aq rfl (aN rfl) aW)) rfl) (`n (@jP _ _ _ _ _ _ (`j (`a (`g (@ix_tup _) (`g (@ix_list _) (`b 2 ah rfl) (`b 6 ah rfl) (fun _ _=>rfl)) `c (fun _ _=>rfl)) (`a (`e cF hr rfl (`a (`b 1 ah rfl) (`a (`e am hr rfl (`a (`b 0 ah rfl) (`a `c `o (aN rfl)) (aN rfl)) (by decide) rfl (aN rfl) (cg rfl aW)) `o (aN rfl)) (aN rfl)) (by decide) rfl (aN rfl) (cg rfl aW)) (`a (`g (@ix_tup _) (`g (@ix_list _) (`b 2 ah rfl) (`b 6 ah rfl) (fun _ _=>rfl)) `c (fun _ _=>rfl)) `o (aN rfl)) (aN rfl)) (aN rfl))) (@kY _ _ _ _ _ _ _ (`g (@ix_list _) (`b 5 ah rfl) `c (fun _ _=>rfl)) (`b 6 ah rfl) set_list (by intro _; rfl)) (by rfl) (by rfl) (by rfl)))) (@dw _)) (`f (`m (`k (@fk _) (`d (@dF _) (`d (@dY _) (`b 3 ah rfl) `c) `c) `c (dm _)) (`f (`h 7 ah (`d (@dF _) (`e am hr rfl (`a (`b 0 ah rfl) (`a `c `o (aN rfl)) (aN rfl)) (by decide) rfl (aN rfl) (cg rfl aW)) `c) rfl) (`n (`m (`k (@fk _) (`b 7 ah rfl) `c (dm _)) (`n (@jP _ _ _ _ _ _ (@iM _ _ _ _ _ _ _ (`a `p (`a `p (`a (@iV _ _ _) (`a (@fY _ _ _ _) `o (aN rfl)) (aN rfl)) (aN rfl)) (aN rfl)) (`d (@dF _) (`d (@dY _) (`e am hr rfl (`a (`b 0 ah rfl) (`a `c `o (aN rfl)) (aN rfl)) (by decide) rfl (aN rfl) (cg rfl aW)) `c) `c) (fun _ _=>rfl)) (@kY _ _ _ _ _ _ _ (`b 5 ah rfl) `c set_list (by intro _; rfl)) (by rfl) (by rfl) (by rfl))) (`n (@jP _ _ _ _ _ _ (`e cH hr rfl (`a (`g (@ix_list _) (`b 5 ah rfl) `c (fun _ _=>rfl)) (`a (`d (@dY _) (`e am hr rfl (`a (`b 0 ah rfl) (`a `c `o (aN rfl)) (aN rfl)) (by decide) rfl (aN rfl) (cg rfl aW)) `c) `o (aN rfl)) (aN rfl)) (by decide) rfl (aN rfl) (cg rfl aW)) (@kY _ _ _ _ _ _ _ (`b 5 ah rfl) `c set_list (by intro _; rfl)) (by rfl) (by rfl) (by rfl)))))) (@dw _)) (`f (`m (`k (@fk _) (`d (@dF _) (`b 3 ah rfl) `c) `c (dm _)) (`n (@jP _ _ _ _ _ _ (`e bW hr rfl (`a (`b 1 ah rfl) (`a (`e am hr rfl (`a (`b 0 ah rfl) (`a `c `o (aN rfl)) (aN rfl)) (by decide) rfl (aN rfl) (cg rfl aW)) `o (aN rfl)) (aN rfl)) (by decide) rfl (aN rfl) (cg rfl aW)) (@kY _ _ _ _ _ _ _ (`b 5 ah rfl) `c set_list (by intro _; rfl)) (by rfl) (by rfl) (by rfl))) (@dw _)) (`f (`h 8 ah (`j (`a (@ig _ _ _ _ _ _ _ _ (@fk _) (`d (@dF _) (`b 3 ah rfl) `c) `c (dm _)) (`a (@ig _ _ _ _ _ _ _ _ (@fk _) (`d (@dF _) (`b 3 ah rfl) `c) `c (dm _)) (`a (@ig _ _ _ _ _ _ _ _ (@fk _) (`b 3 ah rfl) `c (dm _)) `o (aN rfl)) (aN rfl)) (aN rfl))) rfl) (`f (`m (`k (@fk _) (`b 3 ah rfl) `c (dm _)) (`n (`h 8 ah (`j `o) rfl)) (@dw _)) (`f (`m (`k (rV (jk hr)) (`e bq hr rfl (`a (`g (@ix_list _) (`b 5 ah rfl) `c (fun _ _=>rfl)) (`a (`g (@ix_list _) (`b 5 ah rfl) `c (fun _ _=>rfl)) (`a (`g (@ix_list _) (`b 5 ah rfl) `c (fun _ _=>rfl)) `o (aN rfl)) (aN rfl)) (aN rfl)) (by decide) rfl (aN rfl) (cg rfl (cg rfl aW))) (`b 8 ah rfl) (dm _)) (`n (`q (@fY _ _ _ _))) (@dw _)) (`f (`h 9 ah (@gF _ _ _ _ _ _ _ _ _ iU rfl M.m_list kr (`a (`b 2 ah rfl) `o (aN rfl)) a8 rfl (aN rfl) aW) rfl) (`f (`h 10 ah (`e bp hr rfl (`a (`b 2 ah rfl) (`a (`e am hr rfl (`a (`b 0 ah rfl) (`a `c `o (aN rfl)) (aN rfl)) (by decide) rfl (aN rfl) (cg rfl aW)) `o (aN rfl)) (aN rfl)) (by decide) rfl (aN rfl) (cg rfl aW)) rfl) (`f (@gY _ _ _ _ (@iG _ _ _ _ _ _ _ _ _ _ _ _ DQ GA GB mH (`b 9 ah rfl) (`a (`d (@dF _) (`e am hr rfl (`a (`b 0 ah rfl) (`a `c `o (aN rfl)) (aN rfl)) (by decide) rfl (aN rfl) (cg rfl aW)) (`d (@gQ _) (`i cQ rfl M.m_len fM (`a (`b 2 ah rfl) `o (aN rfl)) aq rfl (aN rfl) aW) `c)) (`a (`j (`a (`b 10 ah rfl) (`a (`j (`a `p `o (aN rfl))) (`a (`b 4 ah rfl) `o (aN rfl)) (aN rfl)) (aN rfl))) `o (aN rfl)) (aN rfl)) (by rfl) (by rfl) (by rfl) (by rfl) (by rfl)) (fV rfl)) (`f (`m (`k (rV (jk hr)) (`e bq hr rfl (`a (`b 1 ah rfl) (`a (`b 4 ah rfl) (`a (`b 9 ah rfl) `o (aN rfl)) (aN rfl)) (aN rfl)) (by decide) rfl (aN rfl) (cg rfl (cg rfl aW))) (`j (`a (@fY _ _ _ _) (`a (@fY _ _ _ _) (`a (@fY _ _ _ _) `o (aN rfl)) (aN rfl)) (aN rfl))) (dm _)) (`n (`q (@fY _ _ _ _))) (@dw _)) (`f (`h 11 ah (`d (@jv _) (@fS _ _ _ _ (`a (`j (`a (`j (`a `c `o (aN rfl))) (`a (`e bI hr rfl (`a (`b 1 ah rfl) (`a `c `o (aN rfl)) (aN rfl)) (by decide) rfl (aN rfl) (cg rfl aW)) (`a (`b 4 ah rfl) `o (aN rfl)) (aN rfl)) (aN rfl))) `o (aN rfl))) (@gK _ _ _ _ _ _ _ _ _ _ (@kX _) (`e bJ hr rfl (`a (@fS _ _ _ _ `o) `o (aN rfl)) (by decide) rfl (aN rfl) aW) (@gP _ _ _ `c) (@gP _ _ _ `c))) rfl) (`n (`q (@jL _ _ _ _ _ _ _ (@ig _ _ _ _ _ _ _ _ (nY (jk hr)) (`e bq hr rfl (`a (`b 1 ah rfl) (`a (`b 4 ah rfl) (`a (`b 11 ah rfl) `o (aN rfl)) (aN rfl)) (aN rfl)) (by decide) rfl (aN rfl) (cg rfl (cg rfl aW))) (`j `o) (dm _)) (@jo _ _ _ _ _ (@ig _ _ _ _ _ _ _ _ (nY (jk hr)) (`e bq hr rfl (`a (`b 1 ah rfl) (`a (`b 4 ah rfl) (`a (`b 2 ah rfl) `o (aN rfl)) (aN rfl)) (aN rfl)) (by decide) rfl (aN rfl) (cg rfl (cg rfl aW))) (`j `o) (dm _)))))))))))))))))))))),?_⟩
 refine eU fun tl htl=>?_
 trivial
 refine⟨a,ns,rfl,hS,fun kl kx ks H1 S1 hkl dkl td kok=>?_⟩
 have k1:=kok.l1
 have k4:=kok.l4
 have KA:KnA K H1 kx ks:=TpD.kna td
 have lkx:kx.length=ks.length:=KA.length
 show tl _ _ _
 rw[htl]
 clear htl tl
 refine eU fun tl htl=>?_
 trivial
 refine⟨a,kl,ns,kx,ks,rfl,S1.seq hS,SqL.of dkl,KA,k1,k4,kok.name,fun l0 vs0 rs0 H2 S2 hl0 dl0 ra0 rok0 r1 r8=>?_⟩
 have S02:=S1.trans S2
 refine fm (S02.seq hS) (by decide) ?_
 refine⟨l0,_,vs0,rs0,rfl,dl0,ra0,r1,r8,fun rl us rs H3 S3 hrl drl ra pm=>?_⟩
 have rok:RsOk 5 rs:=(RsOk.perm rok0 pm).mono (by decide)
 have lrs:rs.length=rs0.length:=pm.length_eq
 have S13:=S2.trans S3
 have S03:=S1.trans S13
 show tl _ _ _
 rw[htl]
 clear htl tl
 refine eU fun tl htl=>?_
 trivial
 obtain⟨bt,hbt⟩:∃ bt:Int,bt=cellAt ns 15 % 8:=⟨_,rfl⟩
 have bt0:0≤bt∧bt<8:=by rw[hbt]; omega
 refine fm (S03.seq hS) (by decide) ⟨_,rfl,by decide,?_⟩
 rw[← hbt,htl]
 clear htl tl
 refine eU fun tl htl=>?_
 trivial
 obtain⟨z,okz,ez⟩:∃ z:Str,okRule z∧[V.str (Dj "one"),V.str (Dj "near")][(cellAt ns 15 / 8 % 2).toNat]?=some (.str z):=by
  have:(cellAt ns 15 / 8 % 2).toNat=0∨(cellAt ns 15 / 8 % 2).toNat=1:=by omega
  rcases this with e | e <;> rw[e]
  ·exact⟨_,.inl rfl,rfl⟩
  ·exact⟨_,.inr rfl,rfl⟩
 refine⟨by decide,fm (S03.seq hS) (by decide) ⟨_,rfl,cdiv (by decide) (by decide),by decide,by omega,_,ez,?_⟩⟩
 rw[htl]
 clear htl tl
 refine eU fun tl htl=>?_
 trivial
 have hR:SqL K H3 rl us:=SqL.of drl
 refine⟨_,.inl hR,fun gl hgl=>?_⟩
 obtain⟨I4,b4,W4,U4⟩:=dW (K:=K) hgl us
 have Z4:I4 gl=some (.lst us):=by rw[b4]; exact aT
 rw[← b4]
 clear b4
 refine⟨by decide,fun al hal=>?_⟩
 obtain⟨I5,b5,W5,U5⟩:=dW (K:=K) hal [V.ref kl,V.str z,V.ref gl]
 have Z5:I5 al=some (.lst [V.ref kl,V.str z,V.ref gl]):=by rw[b5]; exact aT
 rw[← b5,htl]
 clear b5 htl tl
 refine eU fun tl htl=>?_
 trivial
 have lus:us.length=rs.length:=DT ra
 obtain⟨r2,rw2,rk2,nm2,tk2⟩:=Cw hR ra rok (by exact Oz32 r1 lrs) (by omega)
 have W35:=W4.trans W5
 have S05:=S03.trans W35
 obtain⟨J,hJ⟩:∃ J:Hp→Prop,J=fun I=>∃ us2 r3,I gl=some (.lst us2)∧I al=some (.lst [V.ref kl,V.str z,V.ref gl])∧RwsOk K I gl us2 r3∧RkOk r3∧r3.length≤8∧Same H3 I∧((bt / 4=1∧(∀ r∈r3,iI K I r.nv∨NBad K I 5 r.nv)∧∃ r∈r3,NBad K I 5 r.nv)∨(bt / 4≠1∧∀ r∈r3,iI K I r.nv)):=⟨_,rfl⟩
 have l2:r2.length=us.length:=(DT rw2.at_).symm
 suffices go:∀ (I:Hp) (u6:Option V),J I→tl { nx:=fun x H'=>Q V.non H',rt:=Q } [some (V.ref a),some (V.ref kl),some (V.ref rl),some (V.int bt),some (V.str z),some (V.ref al),u6,none,none,none,none,none] I by
  refine⟨cdiv (by decide) (by decide),?_⟩
  by_cases b4:bt / 4=1
  ·rw[if_pos b4]
   have j0:=DB (cellAt ns 18) (show (us.length:Int)≠0 by omega)
   have j1:=Dv (cellAt ns 18) (show (0:Int)<(us.length:Int) by exact Oz69 r1 lrs lus)
   obtain⟨m,hm⟩:∃ j:Nat,cellAt ns 18 % (us.length:Int)=j:=⟨(cellAt ns 18 % (us.length:Int)).toNat,by exact Oz0 j0⟩
   obtain⟨v0,hv0⟩:∃ v0,us[m]?=some v0:=⟨us[m]'(by exact Oz65 j1 hm),Dm _⟩
   obtain⟨r0,hr0,pr,an,rfl,Tr,Na⟩:=gy rw2.at_ hv0
   have mr:=Ds hr0
   refine fm (S05.seq hS) (by decide) ⟨_,.inl (W35.seq hR),_,rfl,by exact Oz69 r1 lrs lus,_,W35.seq hR,_,(by rw[hm]; exact dX hv0),pr,rfl,_,Same.tup W35 Tr,_,at0,?_⟩
   refine fm (S05.seq hS) (by decide) ?_
   refine⟨kl,kx,ks,_,rfl,(S13.trans W35).seq (SqL.of dkl),KA.same (S13.trans W35),kok,fun v I6 W6 bad=>?_⟩
   have W36:=W35.trans W6
   refine⟨_,W36.seq hR,_,(by rw[hm]; exact dX hv0),pr,rfl,_,Same.tup W36 Tr,_,dX (j:=2) rfl,by decide,fun p hp=>?_⟩
   obtain⟨I7,b7,W7,U7⟩:=bN (K:=K) hp [V.ref an,v,V.str r0.rule]
   rw[← b7]
   clear b7
   have W37:=W36.trans W7
   have Z7:=(W6.trans W7) _ _ Z5
   have G7:=(W5.trans (W6.trans W7)) _ _ Z4
   refine⟨_,SqL.of Z7,_,dX (j:=2) rfl,gl,rfl,us,G7,m,(by rw[hm]; exact pQ (by exact Oz65 j1 hm)),go _ _ ?_⟩
   have ts:TS I7 (upd I7 gl (.lst (us.set m (V.ref p)))):=TS.lst G7
   have tsH:=(TS.of W37).trans ts
   have enum:(r2.set m ⟨r0.num,v,r0.rule⟩).map Rk.num=r2.map Rk.num:=by
    rw[JW]
    exact sY (by rw[Dq,hr0]; rfl)
   rw[hJ]
   have nga:al≠gl:=fun e=>by rw[e,Z4] at hal; cases hal
   have told:∀ r∈r2,iI K (upd I7 gl (.lst (us.set m (V.ref p)))) r.nv:=fun r hr=>by
    obtain⟨n,x,y⟩:=tk2 r hr
    exact⟨n,ie tsH x,y⟩
   have bad':NBad K (upd I7 gl (.lst (us.set m (V.ref p)))) 5 v:=CN G7 (bad.same W7)
   have ok0:=rw2.ok r0 mr
   have okS:∀ r∈r2.set m ⟨r0.num,v,r0.rule⟩,okNum r.num∧okRule r.rule:=fun r hr=>by
    rcases Gq hr with hr | rfl
    ·exact rw2.ok r hr
    ·exact ok0
   refine⟨us.set m (V.ref p),r2.set m ⟨r0.num,v,r0.rule⟩,aT,by rw[aZ nga]; exact Z7,⟨SqL.of aT,nC ⟨p,an,rfl,ts.tup U7,tsH.at Na⟩ (RksAt.ts rw2.at_ tsH) m,okS,by rw[enum]; exact rw2.up,by rw[enum]; exact rw2.nd,by rw[F3]; exact rw2.l1,by rw[F3]; exact rw2.l24⟩,⟨by rw[enum]; exact rw2.nd,fun r hr=>⟨(okS r hr).1.1,(okS r hr).1.2.1⟩⟩,by rw[F3]; exact Oz76 r8 lrs lus l2,dI W37 hgl _,.inl ⟨b4,fun r hr=>?_,⟨r0.num,v,r0.rule⟩,?_,bad'⟩⟩
   ·rcases Gq hr with hr | rfl
    ·exact .inl (told r hr)
    ·exact .inr bad'
   ·exact Et.mpr ⟨m,Fq (by omega)⟩
  ·rw[if_neg b4]
   refine go _ _ ?_
   rw[hJ]
   exact⟨us,r2,W5 _ _ Z4,Z5,⟨SqL.of (W5 _ _ Z4),RksAt.ts rw2.at_ (TS.of W35),rw2.ok,rw2.up,rw2.nd,rw2.l1,rw2.l24⟩,rk2,by exact Oz76 r8 lrs lus l2,W35,.inr ⟨b4,fun r hr=>by obtain⟨n,x,y⟩:=tk2 r hr; exact⟨n,x.same W35,y⟩⟩⟩
 intro I u6 hI
 rw[hJ] at hI
 obtain⟨us2,r3,dg,da,rw3,rk3,l3,S3I,nt3⟩:=hI
 rw[htl]
 clear htl tl hJ J
 refine eU fun tl htl=>?_
 trivial
 have hal3:H3 al=none:=by
  cases e:H3 al with
  | none=>rfl
  | some o=>rw[W4 _ _ e] at hal; cases hal
 have hKI:SqL K I kl kx:=S3I.seq ((S2.trans S3).seq (SqL.of dkl))
 have nka:kl≠al:=fun e=>by
  have:=(S2.trans S3) _ _ dkl
  rw[e,hal3] at this
  cases this
 have nkg:(V.ref gl)≠.ref al:=fun e=>by cases e; rw[Z4] at hal; cases hal
 obtain⟨J,hJ⟩:∃ J:Hp→Prop,J=fun I=>∃ rv wv,I al=some (.lst [V.ref kl,rv,wv])∧Same H3 I∧((bt / 2 % 2=1∧(PickV K I rv false∨(rv=.str z∧RowsV K I wv false)))∨(bt / 2 % 2≠1∧rv=.str z∧wv=.ref gl∧∃ us2 r3,RwsOk K I gl us2 r3∧RkOk r3∧((bt / 4=1∧(∀ r∈r3,iI K I r.nv∨NBad K I 5 r.nv)∧∃ r∈r3,NBad K I 5 r.nv)∨(bt / 4≠1∧∀ r∈r3,iI K I r.nv)))):=⟨_,rfl⟩
 suffices go:∀ (I:Hp) (u7:Option V),J I→tl { nx:=fun x H'=>Q V.non H',rt:=Q } [some (V.ref a),some (V.ref kl),some (V.ref rl),some (V.int bt),some (V.str z),some (V.ref al),u6,u7,none,none,none,none] I by
  refine⟨cdiv (by decide) (by decide),by decide,?_⟩
  by_cases b2:bt / 2 % 2=1
  ·rw[if_pos b2]
   refine fm ((S03.trans S3I).seq hS) (by decide) ⟨_,rfl,by decide,?_⟩
   by_cases w5:cellAt ns 17 % 5=0
   ·rw[if_pos w5]
    obtain⟨v,pv,ev⟩:∃ v:V,PickV K I v false∧[V.str (Dj ""),V.str (Dj "both"),V.non,V.bl true][(cellAt ns 17 / 5 % 4).toNat]?=some v:=by
     have:(cellAt ns 17 / 5 % 4).toNat=0∨(cellAt ns 17 / 5 % 4).toNat=1∨(cellAt ns 17 / 5 % 4).toNat=2∨(cellAt ns 17 / 5 % 4).toNat=3:=by omega
     rcases this with e | e | e | e <;> rw[e]
     ·exact⟨_,.bad (.inl rfl),rfl⟩
     ·exact⟨_,.bad (.inr rfl),rfl⟩
     ·exact⟨.non,.no (k:=.non) rfl (by decide),rfl⟩
     ·exact⟨.bl true,.no (k:=.bl) rfl (by decide),rfl⟩
    refine⟨by decide,fm ((S03.trans S3I).seq hS) (by decide) ⟨_,rfl,cdiv (by decide) (by decide),by decide,by omega,v,ev,_,da,1,rfl,go _ _ ?_⟩⟩
    rw[hJ]
    exact⟨v,_,aT,dI S3I hal3 _,.inl ⟨b2,.inl (CZ pv da)⟩⟩
   ·rw[if_neg w5]
    refine⟨_,SqL.of da,_,dX (j:=2) rfl,fm ((S03.trans S3I).seq hS) (by decide) ⟨_,rfl,cdiv (by decide) (by decide),?_⟩⟩
    refine⟨gl,us2,r3,_,rfl,rw3.sq,rw3.at_,rw3.ok,rw3.up,rw3.l1,l3,fun v I6 W6 bad=>?_⟩
    have da6:=W6 _ _ da
    refine⟨_,da6,2,rfl,go _ _ ?_⟩
    rw[hJ]
    refine⟨_,v,aT,dI (S3I.trans W6) hal3 _,.inl ⟨b2,.inr ⟨rfl,?_⟩⟩⟩
    by_cases e:v=.ref al
    ·rw[e]
     exact AO aT (SqL.upd (W6.seq hKI) nka)
    ·exact CW bad da6 e
  ·rw[if_neg b2]
   refine go _ _ ?_
   rw[hJ]
   exact⟨_,_,da,S3I,.inr ⟨b2,rfl,rfl,us2,r3,rw3,rk3,nt3⟩⟩
 clear dg da rw3 rk3 l3 S3I nt3 hKI
 clear us2 r3 I
 intro I u7 hI
 rw[hJ] at hI
 obtain⟨rv,wv,da,S3I,st⟩:=hI
 rw[htl]
 clear htl tl hJ J
 refine eU fun tl htl=>?_
 trivial
 obtain⟨cc,hcc⟩:∃ cc:Nat,cc=if bt % 2=1 then 0 else if bt / 2 % 2=1 then 1 else if bt / 4=1 then 2 else 3:=⟨_,rfl⟩
 obtain⟨J,hJ⟩:∃ J:Hp→Prop,J=fun I=>∃ kv rv wv,I al=some (.lst [kv,rv,wv])∧Same H3 I∧Cls3 K I kv rv wv cc:=⟨_,rfl⟩
 suffices go:∀ (I:Hp),J I→tl { nx:=fun x H'=>Q V.non H',rt:=Q } [some (V.ref a),some (V.ref kl),some (V.ref rl),some (V.int bt),some (V.str z),some (V.ref al),u6,u7,none,none,none,none] I by
  have S13I:=S13.trans S3I
  refine⟨by decide,?_⟩
  by_cases b1:bt % 2=1
  ·rw[if_pos b1]
   rw[if_pos b1] at hcc
   refine fm ((S1.trans S13I).seq hS) (by decide) ⟨kl,kx,ks,_,rfl,S13I _ _ dkl,KA.same S13I,kok,fun v I6 W6 bad nw=>?_⟩
   have da6:=W6 _ _ da
   refine⟨_,da6,0,rfl,go _ ?_⟩
   rw[hJ]
   exact⟨v,rv,wv,aT,dI (S3I.trans W6) hal3 _,.inl ⟨hcc,KindsV.upd bad da6 (nw _ _ da)⟩⟩
  ·rw[if_neg b1]
   rw[if_neg b1] at hcc
   refine go _ ?_
   rw[hJ]
   refine⟨_,rv,wv,da,S3I,?_⟩
   have hKI:SqL K I kl kx:=S13I.seq (SqL.of dkl)
   have KAI:=KA.same S13I
   rcases st with ⟨b2,pk | ⟨rfl,rf⟩⟩ | ⟨b2,rfl,rfl,us2,r3,rw3,rk3,⟨b4,tn,bn⟩ | ⟨b4,tn⟩⟩
   ·rw[if_pos b2] at hcc
    exact .inr ⟨kl,kx,ks,rfl,hKI,KAI,kok,.inl ⟨hcc,pk⟩⟩
   ·rw[if_pos b2] at hcc
    exact .inr ⟨kl,kx,ks,rfl,hKI,KAI,kok,.inr ⟨z,rfl,okz,.inl ⟨hcc,rf⟩⟩⟩
   ·rw[if_neg b2,if_pos b4] at hcc
    rw[hcc]
    exact zE hKI KAI kok okz rw3 rk3 tn bn
   ·rw[if_neg b2,if_neg b4] at hcc
    rw[hcc]
    exact nG hKI KAI kok okz rw3 rk3 tn
 clear st da S3I
 clear rv wv I
 intro I hI
 rw[hJ] at hI
 obtain⟨kv,rv,wv,da,S3I,cls⟩:=hI
 rw[htl]
 clear htl tl hJ J
 refine eU fun tl htl=>?_
 trivial
 refine⟨by decide,by decide,by decide,fun p hp=>?_⟩
 obtain⟨I6,b6,W6,U6⟩:=bN (K:=K) hp [V.bl (decide (bt % 2=1)),V.bl (decide (bt % 4=2)),V.bl (decide (bt=4))]
 have Z6:I6 p=some (.tup [V.bl (decide (bt % 2=1)),V.bl (decide (bt % 4=2)),V.bl (decide (bt=4))]):=by rw[b6]; exact aT
 rw[← b6,htl]
 clear b6 htl tl
 refine eU fun tl htl=>?_
 trivial
 suffices go:∀ (I':Hp) (p:Addr),Same I I'→I' p=some (.tup (mY cc))→tl { nx:=fun x H'=>Q V.non H',rt:=Q } [some (V.ref a),some (V.ref kl),some (V.ref rl),some (V.int bt),some (V.str z),some (V.ref al),u6,u7,some (V.ref p),none,none,none] I' by
  by_cases b0:bt=0
  ·rw[if_pos b0]
   refine⟨by decide,fun p hp=>go _ _ (W6.trans (bO hp _)) ?_⟩
   rw[aT,hcc,b0]
   rfl
  ·rw[if_neg b0]
   refine go _ _ W6 ?_
   rw[Z6,hcc]
   have:bt=1∨bt=2∨bt=3∨bt=4∨bt=5∨bt=6∨bt=7:=by omega
   rcases this with e | e | e | e | e | e | e <;> rw[e] <;> rfl
 clear W6 U6 Z6 hp
 clear p I6
 intro I6 p W6 Z6
 rw[htl]
 clear htl tl
 refine eU fun tl htl=>?_
 trivial
 have da6:=W6 _ _ da
 have L6:SqL K I6 al [kv,rv,wv]:=SqL.of da6
 refine⟨_,L6,_,dX (j:=0) rfl,_,L6,_,dX (j:=1) rfl,_,L6,_,dX (j:=2) rfl,?_⟩
 refine⟨kv,rv,wv,cc,rfl,Cls3.same cls W6,fun p2 I7 W7 Z7=>mW Z7 (W7 _ _ Z6) ⟨_,rfl,?_⟩⟩
 rw[if_neg (by decide),htl]
 clear htl tl
 refine eU fun tl htl=>?_
 trivial
 have T7:=S3I.trans (W6.trans W7)
 refine⟨_,.inl (T7.seq hR),fun cl hcl=>?_⟩
 obtain⟨I8,b8,W8,U8⟩:=dW (K:=K) hcl us
 have Z8:I8 cl=some (.lst us):=by rw[b8]; exact aT
 rw[← b8,htl]
 clear b8 htl tl
 have T8:=T7.trans W8
 refine eU fun tl htl=>?_
 trivial
 refine fm ((S03.trans T8).seq hS) (by decide) ?_
 refine⟨rl,us,r2,_,rfl,T8.seq hR,RksAt.ts rw2.at_ (TS.of T8),by omega,fun pk k I9 W9 hk alo=>?_⟩
 show tl _ _ _
 rw[htl]
 clear htl tl
 refine eU fun tl htl=>?_
 trivial
 have T9:=T8.trans W9
 have j0:=DB (cellAt ns 18) (show (us.length:Int)+1≠0 by omega)
 have j1:=Dv (cellAt ns 18) (show (0:Int)<(us.length:Int)+1 by exact Oz46)
 obtain⟨m,hm⟩:∃ j:Nat,cellAt ns 18 % ((us.length:Int)+1)=j:=⟨(cellAt ns 18 % ((us.length:Int)+1)).toNat,by exact Oz0 j0⟩
 refine⟨.inl ⟨rfl,_,SqL.of (W9 _ _ Z8)⟩,fm ((S03.trans T9).seq hS) (by decide) ⟨_,.inl (T9.seq hR),_,rfl,by exact Oz46,by decide,fun p3 hp3=>?_⟩⟩
 obtain⟨I10,b10,W10,U10⟩:=bN (K:=K) hp3 [V.str (Dj "any")]
 rw[← b10]
 clear b10
 refine⟨by decide,fun p4 hp4=>?_⟩
 obtain⟨I11,b11,W11,U11⟩:=bN (K:=K) hp4 [V.ref pk,V.ref p3,V.str z]
 rw[← b11]
 clear b11
 have W911:=W10.trans W11
 have d11:=(W9.trans W911) _ _ Z8
 have T11:=T9.trans W911
 refine⟨us,m,hm,d11,by omega,eV (by omega),?_⟩
 have ts:TS I11 (upd I11 cl (.lst (us.take m++V.ref p4::us.drop m))):=TS.lst d11
 obtain⟨I12,h12⟩:∃ I12,I12=upd I11 cl (.lst (us.take m++V.ref p4::us.drop m)):=⟨_,rfl⟩
 rw[← h12] at ts ⊢
 have d12:I12 cl=some (.lst (us.take m++V.ref p4::us.drop m)):=by rw[h12]; exact aT
 have T12:Same I7 I12:=by rw[h12]; exact dI (W8.trans (W9.trans W911)) hcl _
 have rf:RowsV K I12 (.ref cl) false:=by
  have rk:v7 K I12 (.ref p4) ⟨k,.ref p3,z⟩:=⟨p4,pk,rfl,ts.tup U11,ts.at (W911 _ _ hk)⟩
  have ll:(us.take m++V.ref p4::us.drop m).length=us.length+1:=by
   rw[Dp,DF,Dt,ED]
   exact Oz2
  have okk:=alo
  obtain⟨_,_,_,_,_,okk⟩:=okk
  have g:=RowsV.rows (K:=K) (SqL.of d12) (by omega) (by omega) (nF rk (RksAt.ts rw2.at_ ((TS.of T11).trans ts)) m) (fun r hr=>by
   rcases DV.mp hr with hr | hr
   ·exact rw2.ok r (EI hr)
   ·rcases Du.mp hr with rfl | hr
    ·exact⟨okk,okz⟩
    ·exact rw2.ok r (Gm hr))
  rwa [DH,D8,Fx,Iu,vA (qp rw2.up alo)] at g
 have T12':=T7.trans T12
 rw[htl]
 clear htl tl
 refine eU fun tl htl=>?_
 trivial
 have K12:=S13.trans T12'
 refine⟨_,_,_,1,rfl,.inr ⟨kl,kx,ks,rfl,K12.seq (SqL.of dkl),KA.same K12,kok,.inr ⟨z,rfl,okz,.inl ⟨rfl,rf⟩⟩⟩,fun p5 I13 W13 Z13=>?_⟩
 refine⟨by decide,fun p6 hp6=>?_⟩
 have W14:=bO hp6 (.tup [V.bl false,V.bl true,V.bl false])
 refine mW (c:=1) (W14 _ _ Z13) aT ⟨_,rfl,?_⟩
 obtain⟨I14,h14⟩:∃ I14,I14=upd I13 p6 (.tup [V.bl false,V.bl true,V.bl false]):=⟨_,rfl⟩
 rw[if_neg (by decide),← h14,htl]
 rw[← h14] at W14
 clear htl tl h14
 have T14:=T12'.trans (W13.trans W14)
 refine eU fun tl htl=>?_
 trivial
 refine⟨by decide,fun p7 hp7=>?_⟩
 obtain⟨I15,b15,W15,U15⟩:=bN (K:=K) hp7 [V.int 1]
 have Z15:I15 p7=some (.tup ([(1:Int)].map V.int)):=by rw[b15]; exact aT
 rw[← b15]
 clear b15
 have K15:=S13.trans (T14.trans W15)
 refine⟨kl,kx,ks,5,rfl,K15.seq (SqL.of dkl),KA.same K15,kok,by decide,by decide,fun p8 n5 I16 W16 told ok5 dp5=>?_⟩
 refine⟨by decide,fun p9 hp9=>?_⟩
 obtain⟨I17,b17,W17,U17⟩:=bN (K:=K) hp9 [V.ref p7,V.ref p8,V.str z]
 rw[← b17]
 clear b17
 refine⟨by decide,fun p10 hp10=>?_⟩
 obtain⟨I18,b18,W18,U18⟩:=dW (K:=K) hp10 [V.ref p9]
 have Z18:I18 p10=some (.lst [V.ref p9]):=by rw[b18]; exact aT
 rw[← b18]
 clear b18
 refine⟨by decide,fun p11 hp11=>?_⟩
 obtain⟨I19,b19,W19,U19⟩:=dW (K:=K) hp11 []
 rw[← b19]
 clear b19
 refine⟨p11,[],[],rfl,U19,.nil,by decide,fun l xs qs I20 W20 dl ra nm nw=>?_⟩
 have nm':qs.map Rk.num=manyN [] 99:=nm
 have l25:qs.length=25:=by
  rw[← iz (f:=Rk.num),nm']
  exact yF (by decide)
 have lx:xs.length=25:=by rw[DT ra,l25]
 refine⟨l,rfl,xs,SqL.of dl,fun p12 hp12=>?_⟩
 rw[CI lx]
 obtain⟨I21,b21,W21,U21⟩:=dW (K:=K) hp12 ((xs.drop 1).take 23)
 have Z21:I21 p12=some (.lst ((xs.drop 1).take 23)):=by rw[b21]; exact aT
 rw[← b21]
 clear b21
 have W1721:=W18.trans (W19.trans (W20.trans W21))
 refine⟨_,(W19.trans (W20.trans W21)) _ _ Z18,_,Z21,?_,fun p13 hp13=>?_⟩
 ·rw[Dt,ED,lx]
  exact (by decide:24≤sizeLine)
 obtain⟨I22,b22,W22,U22⟩:=dW (K:=K) hp13 ([V.ref p9]++(xs.drop 1).take 23)
 rw[← b22,htl]
 clear b22 htl tl
 trivial
 have W1722:=W1721.trans W22
 have W2022:=W21.trans W22
 have T22:=T14.trans (W15.trans (W16.trans (W17.trans W1722)))
 have K22:=S13.trans T22
 obtain⟨r4,h4⟩:∃ r4:List Rk,r4=⟨[1],.ref p8,z⟩::(qs.drop 1).take 23:=⟨_,rfl⟩
 have n4:r4.map Rk.num=([1]:List Int)::((manyN [] 99).drop 1).take 23:=by
  rw[h4,← nm',D8,Fx,Iu]
 have m4:∀ r∈r4,(1≤r.num.length∧r.num.length≤4∧∀ x∈r.num,1≤x∧x≤99)∧upN r.num=[]:=fun r hr=>many_ok.2 _ (by rw[← n4]; exact DZ.mpr ⟨r,hr,rfl⟩)
 have q4:∀ r∈r4,okRule r.rule∧iI K I22 r.nv:=fun r hr=>by
  rw[h4] at hr
  rcases Du.mp hr with rfl | hr
  ·exact⟨okz,n5,told.same (W17.trans W1722),ok5,by omega⟩
  ·rcases nw r (Gm (EI hr)) with h | ⟨h,h'⟩
   ·cases h
   ·exact⟨.inl h,.any,h'.same W2022,trivial,by decide⟩
 have l4:r4.length=24:=by rw[h4,DF,Dt,ED,l25]; rfl
 have RA4:RksAt K I22 ([V.ref p9]++(xs.drop 1).take 23) r4:=by
  rw[h4]
  exact .cons ⟨p9,p7,rfl,Same.tup W1722 U17,(W16.trans (W17.trans W1722)) _ _ Z15⟩ (lW 23 (lX 1 (RksAt.ts ra (TS.of W2022))))
 have rw4:RwsOk K I22 p13 ([V.ref p9]++(xs.drop 1).take 23) r4:=⟨U22,RA4,fun r hr=>⟨(m4 r hr).1,(q4 r hr).1⟩,fun k hk=>by
  obtain⟨r,hr,rfl⟩:=DZ.mp hk
  exact .inl (m4 r hr).2,by rw[n4]; exact many_ok.1,by omega,by omega⟩
 have rk4:RkOk r4:=⟨by rw[n4]; exact many_ok.1,fun r hr=>⟨(m4 r hr).1.1,(m4 r hr).1.2.1⟩⟩
 refine⟨_,_,_,3,rfl,nG (K22.seq (SqL.of dkl)) (KA.same K22) kok okz rw4 rk4 fun r hr=>(q4 r hr).2,fun p14 I23 W23 Z23=>?_⟩
 refine⟨by decide,fun p15 hp15=>mW (c:=3) (bO hp15 _ _ _ Z23) aT ⟨_,rfl,?_⟩⟩
 rw[if_pos (by decide)]
 have T24:=T22.trans (W23.trans (bO hp15 (.tup [])))
 have K24:=S13.trans T24
 exact⟨_,_,_,3,rfl,nG (K24.seq (SqL.of dkl)) (KA.same K24) kok okz ⟨T24.seq hR,RksAt.ts rw2.at_ (TS.of T24),rw2.ok,rw2.up,rw2.nd,rw2.l1,rw2.l24⟩ rk2 (fun r hr=>by obtain⟨n,x,y⟩:=tk2 r hr; exact⟨n,x.same T24,y⟩),fun p16 I25 W25 Z25=>⟨by decide,fun p17 hp17=>mW (c:=3) (bO hp17 _ _ _ Z25) aT (q _)⟩⟩
end _V
namespace _y
open _B _C _D _E _F _G _I _J _K _L _M _N _O _P _Q _R _S _T _U _V PySem _l
def vW {P:Dz} {spd:Nat→Sp} {L n:Nat} (h:∀ d,FnOk P w K mg base CX0 (L+d) f fd ps (spd d)):FnOk P w K mg base CX0 (L+n) f fd ps (fun vs H Q E=>∃ d,d≤n∧spd d vs H Q E):=by
 refine⟨fun vs H Q E ⟨d,hd,s⟩=>(h d).len _ _ _ _ s,fun A st s H bd us vs Q E hr I hb r ⟨d,hd,sp⟩=>?_⟩
 exact (h d).run A st s H bd us vs Q E (hr.mono (by omega)) I hb r sp
def jS {c d:Addr} {g:Value} (h1:DG K (.ref c) "reason"=some (some g)) (h2:DG K (.ref d) "reason"=some none):c≠d:=fun e=>by
 rw[e,h2] at h1
 cases h1
def Ae {p:Nat→Prop} (a:p 0) (b:p 1) (c:p 2) (d:p 3) (e:p 4) (f:p 5) (g:p 6) (h:p 7):∀ j,j<8→p j
 | 0,_=>a
 | 1,_=>b
 | 2,_=>c
 | 3,_=>d
 | 4,_=>e
 | 5,_=>f
 | 6,_=>g
 | 7,_=>h
set_option hygiene false
local macro_rules
| `(`zA $n $f)=>`(Ei K DR $n=some (some (.ref $f)))
| `(`zF $c $n $f)=>`(DG K (.ref $c) $n=some (some (.ref $f)))
| `(`zG $c $n)=>`(DG K (.ref $c) $n=some none)
| `(`zD $x $y $z $u)=>`(Cal l.prog w K mg base CX0 $x $y $z $u)
| `(`zN)=>`(⟨c_Anything,c_Made,c_Used,c_Chief,c_Over,c_Both,c_Either,c_But⟩)
| `(`zM $x)=>`(IB X G $x)
set_option hygiene true
def all_mk {l:IY} {f1 f2 f3 f4 f5 f6 f7 f8 f9 f10 f11 f12 f13 f14 f15 f16 f17 f18 f19 f20 f21 f22 f23 f24 f25 f26 f27 f28 f29 f30 f31 f32 f33 f34 f35 f36 f37 f38 f39 f40 f41 f42 f43 f44 f45 f46 f47 f48 f49 f50 f51 f52 f53 f54 f55 f56 f57 f58 f59:Addr} (X:K.In h) (G:h.Ns DR mg) (hfa:mg "law"=some (.ref fa))
  {c_TariffError c_NoKinds c_NoTree c_NoNote c_Note c_OfTwo c_Anything c_Made c_Used c_Chief c_Over c_Both c_Either c_But c_Tree:Addr}
  (n_TariffError:`zA "TariffError" c_TariffError)
  (n_NoKinds:`zA "NoKinds" c_NoKinds)
  (n_NoTree:`zA "NoTree" c_NoTree)
  (n_NoNote:`zA "NoNote" c_NoNote)
  (n_Note:`zA "Note" c_Note)
  (n_OfTwo:`zA "OfTwo" c_OfTwo)
  (n_Anything:`zA "Anything" c_Anything)
  (n_Made:`zA "Made" c_Made)
  (n_Used:`zA "Used" c_Used)
  (n_Chief:`zA "Chief" c_Chief)
  (n_Over:`zA "Over" c_Over)
  (n_Both:`zA "Both" c_Both)
  (n_Either:`zA "Either" c_Either)
  (n_But:`zA "But" c_But)
  (n_Tree:`zA "Tree" c_Tree)
  (g1:GD K "is_whole" eW f1)
  (g2:GD K "is_name" fq f2)
  (g3:GD K "is_prefix" d7 f3)
  (g4:GD K "is_number" d8 f4)
  (g5:GD K "is_kind" ft f5)
  (g6:GD K "are_kinds" d9 f6)
  (g7:GD K "kinds_of" eX f7)
  (g8:GD K "rank_in" fu f8)
  (g9:GD K "look_of" fw f9)
  (g10:GD K "key_of" fW f10)
  (g11:GD K "rows_of" fA f11)
  (g12:GD K "all_looks" eC f12)
  (g13:MD K c_Made "__init__" "Made.__init__" eD f13)
  (g14:MD K c_Used "__init__" "Used.__init__" eE f14)
  (g15:MD K c_Chief "__init__" "Chief.__init__" dN f15)
  (g16:MD K c_Over "__init__" "Over.__init__" eF f16)
  (g17:MD K c_OfTwo "__init__" "OfTwo.__init__" dO f17)
  (g18:GD K "note_of_name" cb f18)
  (g19:GD K "note_of_notes" bS f19)
  (g20:GD K "note_of_one" cV f20)
  (g21:GD K "note_within" bj f21)
  (g22:GD K "note_of" fG f22)
  (g23:GD K "made_places" cW f23)
  (g24:GD K "used_places" cX f24)
  (g25:GD K "chief_places" cj f25)
  (g26:GD K "number_in" eG f26)
  (g27:GD K "is_over" fH f27)
  (g28:GD K "place_reason" cq f28)
  (g29:MD K c_Anything "reason" "Anything.reason" bK f29)
  (g30:MD K c_Made "reason" "Made.reason" cY f30)
  (g31:MD K c_Used "reason" "Used.reason" cZ f31)
  (g32:MD K c_Chief "reason" "Chief.reason" cu f32)
  (g33:MD K c_Over "reason" "Over.reason" db f33)
  (g34:MD K c_Both "reason" "Both.reason" bL f34)
  (g35:MD K c_Either "reason" "Either.reason" bv f35)
  (g36:MD K c_But "reason" "But.reason" bU f36)
  (g37:MD K c_Note "claims" "Note.claims" bM f37)
  (g38:GD K "is_picking" dQ f38)
  (g39:GD K "is_row" gg f39)
  (g40:GD K "has_place" eJ f40)
  (g41:GD K "are_rows" e7 f41)
  (g42:GD K "claimed_of" dR f42)
  (g43:MD K c_Tree "__init__" "Tree.__init__" eM f43)
  (g44:GD K "_law_cell_at" cS f44)
  (g45:GD K "_law_names" eh f45)
  (g46:GD K "_law_kinds" ej f46)
  (g47:GD K "_law_plain" eI f47)
  (g48:GD K "_law_note" dB f48)
  (g49:GD K "_law_rows" eZ f49)
  (g50:GD K "_law_turned" dP f50)
  (g51:GD K "_law_asked" eO f51)
  (g52:GD K "_law_deep" fb f52)
  (g53:GD K "_law_bad_note" cB f53)
  (g54:GD K "_law_bad_kinds" bV f54)
  (g55:GD K "_law_bad_row" di f55)
  (g56:GD K "_law_alone" eP f56)
  (g57:GD K "_law_many" fc f57)
  (g58:GD K "_law_bad_rows" cC f58)
  (g59:GD K "law" iD f59)
  (o_Anything:OC K c_Anything)
  (in_Anything:DG K (.ref c_Anything) "__init__"=some (some (.builtin "object.__init__")))
  (o_Made:OC K c_Made)
  (o_Used:OC K c_Used)
  (o_Chief:OC K c_Chief)
  (o_Over:OC K c_Over)
  (o_Both:OC K c_Both)
  (o_Either:OC K c_Either)
  (o_But:OC K c_But)
  (o_Tree:OC K c_Tree)
  (e_NoKinds:Hq K c_NoKinds bmVE "ValueError.__new__"=true)
  (e_NoTree:Hq K c_NoTree bmVE "ValueError.__new__"=true)
  (e_NoNote:Hq K c_NoNote bmVE "ValueError.__new__"=true)
  (ci_TariffError:GS K c_TariffError=true)
  (ct_TariffError:HW K (.ref c_TariffError)=some (.type "type"))
  (cb_TariffError:EG K c_TariffError (.type "BaseException")=some true)
  (xga_NoKinds:DG K (.ref c_NoKinds) "__getattribute__"=some (some (.builtin "BaseException.__getattribute__")))
  (xgt_NoKinds:`zG c_NoKinds "__getattr__")
  (xca_NoKinds:DG K (.ref c_NoKinds) "__class__"=some (some (.builtin "object.__class__")))
  (xcn_NoKinds:EY K (.builtin "object.__class__") "__get__"=some (some (.builtin "getset_descriptor.__get__")))
  (xtk_NoKinds:FZ K (.builtin "object.__class__")=some true)
  (xmo_NoKinds:EG K c_NoKinds (.type "object")=some true)
  (xmb_NoKinds:EG K c_NoKinds (.type "BaseException")=some true)
  (xis_NoKinds:GS K c_NoKinds=true)
  (xga_NoTree:DG K (.ref c_NoTree) "__getattribute__"=some (some (.builtin "BaseException.__getattribute__")))
  (xgt_NoTree:`zG c_NoTree "__getattr__")
  (xca_NoTree:DG K (.ref c_NoTree) "__class__"=some (some (.builtin "object.__class__")))
  (xcn_NoTree:EY K (.builtin "object.__class__") "__get__"=some (some (.builtin "getset_descriptor.__get__")))
  (xtk_NoTree:FZ K (.builtin "object.__class__")=some true)
  (xmo_NoTree:EG K c_NoTree (.type "object")=some true)
  (xmb_NoTree:EG K c_NoTree (.type "BaseException")=some true)
  (xis_NoTree:GS K c_NoTree=true)
  (xga_NoNote:DG K (.ref c_NoNote) "__getattribute__"=some (some (.builtin "BaseException.__getattribute__")))
  (xgt_NoNote:`zG c_NoNote "__getattr__")
  (xca_NoNote:DG K (.ref c_NoNote) "__class__"=some (some (.builtin "object.__class__")))
  (xcn_NoNote:EY K (.builtin "object.__class__") "__get__"=some (some (.builtin "getset_descriptor.__get__")))
  (xtk_NoNote:FZ K (.builtin "object.__class__")=some true)
  (xmo_NoNote:EG K c_NoNote (.type "object")=some true)
  (xmb_NoNote:EG K c_NoNote (.type "BaseException")=some true)
  (xis_NoNote:GS K c_NoNote=true)
  (su0:Gj K (.ref c_NoKinds) (.ref c_TariffError)=some true)
  (qv0:D4 K (.ref c_NoKinds) (.type "ValueError")=some true)
  (q00:D4 K (.ref c_NoKinds) (.ref c_NoKinds)=some true)
  (q01:D4 K (.ref c_NoKinds) (.ref c_NoTree)=some false)
  (q02:D4 K (.ref c_NoKinds) (.ref c_NoNote)=some false)
  (su1:Gj K (.ref c_NoTree) (.ref c_TariffError)=some true)
  (qv1:D4 K (.ref c_NoTree) (.type "ValueError")=some true)
  (q10:D4 K (.ref c_NoTree) (.ref c_NoKinds)=some false)
  (q11:D4 K (.ref c_NoTree) (.ref c_NoTree)=some true)
  (q12:D4 K (.ref c_NoTree) (.ref c_NoNote)=some false)
  (su2:Gj K (.ref c_NoNote) (.ref c_TariffError)=some true)
  (qv2:D4 K (.ref c_NoNote) (.type "ValueError")=some true)
  (q20:D4 K (.ref c_NoNote) (.ref c_NoKinds)=some false)
  (q21:D4 K (.ref c_NoNote) (.ref c_NoTree)=some false)
  (q22:D4 K (.ref c_NoNote) (.ref c_NoNote)=some true)
  (na_Made_stuff:`zG c_Made "stuff")
  (na_Used_use:`zG c_Used "use")
  (na_Chief_stuff:`zG c_Chief "stuff")
  (na_Over_one:`zG c_Over "one")
  (na_Over_other:`zG c_Over "other")
  (na_Both_one:`zG c_Both "one")
  (na_Both_other:`zG c_Both "other")
  (na_Either_one:`zG c_Either "one")
  (na_Either_other:`zG c_Either "other")
  (na_But_one:`zG c_But "one")
  (na_But_other:`zG c_But "other")
  (in_Both:`zF c_Both "__init__" f17)
  (in_Either:`zF c_Either "__init__" f17)
  (in_But:`zF c_But "__init__" f17)
  (cm_Anything:`zF c_Anything "claims" f37)
  (cm_Made:`zF c_Made "claims" f37)
  (cm_Used:`zF c_Used "claims" f37)
  (cm_Chief:`zF c_Chief "claims" f37)
  (cm_Over:`zF c_Over "claims" f37)
  (cm_Both:`zF c_Both "claims" f37)
  (cm_Either:`zF c_Either "claims" f37)
  (cm_But:`zF c_But "claims" f37)
  (nt_goods:`zG c_Tree "goods")
  (nt_numbers:`zG c_Tree "numbers")
  (nt_pickings:`zG c_Tree "pickings")
  (nt_notes:`zG c_Tree "notes")
  (nt_counts:`zG c_Tree "counts")
  (nr_Tree:`zG c_Tree "reason")
  (z_len:Ei K DR "len"=some none)
  (z_range:Ei K DR "range"=some none)
  (z_abs:Ei K DR "abs"=some none)
  (z_max:Ei K DR "max"=some none)
  (z_min:Ei K DR "min"=some none)
  (z_isinstance:Ei K DR "isinstance"=some none)
  (z_int:Ei K DR "int"=some none)
  (z_bool:Ei K DR "bool"=some none)
  (z_str:Ei K DR "str"=some none)
  (z_list:Ei K DR "list"=some none)
  (z_tuple:Ei K DR "tuple"=some none)
  (z_sum:Ei K DR "sum"=some none)
  (z_all:Ei K DR "all"=some none)
  (z_enumerate:Ei K DR "enumerate"=some none)
  (z_zip:Ei K DR "zip"=some none)
  (z_ValueError:Ei K DR "ValueError"=some none)
  (z_any:Ei K DR "any"=some none)
  (z_set:Ei K DR "set"=some none)
  (z_sorted:Ei K DR "sorted"=some none)
  : ∃ fd:DU,(∀ (s:Shared) (v:Value),IS s fd ⟨[v],[]⟩ [("_law_script",v)])∧∀ base:Heap,K.In base→base.Ns DR mg→FnOk l.prog w K mg base CX0 16 fa fd ["_law_script"] (rg K):=by
 have M:Mg mg:=⟨DS X G z_len,DS X G z_range,DS X G z_abs,DS X G z_max,DS X G z_min,DS X G z_isinstance,DS X G z_int,DS X G z_bool,DS X G z_str,DS X G z_list,DS X G z_tuple,DS X G z_sum,DS X G z_all,DS X G z_enumerate,DS X G z_zip,DS X G z_ValueError,DS X G z_any,DS X G z_set,DS X G z_sorted⟩
 refine g59.top X G hfa (fun _ _ _ _ _ _ _=>rfl) fun base {fd} Fl=>?_
 have A_TariffError:=`zM n_TariffError
 have A_NoKinds:=`zM n_NoKinds
 have A_NoTree:=`zM n_NoTree
 have A_NoNote:=`zM n_NoNote
 have A_Note:=`zM n_Note
 have A_OfTwo:=`zM n_OfTwo
 have A_Anything:=`zM n_Anything
 have A_Made:=`zM n_Made
 have A_Used:=`zM n_Used
 have A_Chief:=`zM n_Chief
 have A_Over:=`zM n_Over
 have A_Both:=`zM n_Both
 have A_Either:=`zM n_Either
 have A_But:=`zM n_But
 have A_Tree:=`zM n_Tree
 have Z_Anything:=o_Anything.mk0 in_Anything
 have R_NoKinds:XRaise K mg "NoKinds" c_NoKinds:=⟨A_NoKinds,e_NoKinds⟩
 have R_NoTree:XRaise K mg "NoTree" c_NoTree:=⟨A_NoTree,e_NoTree⟩
 have R_NoNote:XRaise K mg "NoNote" c_NoNote:=⟨A_NoNote,e_NoNote⟩
 have X_TariffError:XCatch K mg "TariffError" c_TariffError:=⟨A_TariffError,(fun z=>by unfold GS at ci_TariffError; rw[z] at ci_TariffError; cases ci_TariffError),ct_TariffError,cb_TariffError⟩
 have K_NoKinds:XCls K c_NoKinds:=⟨xga_NoKinds,xgt_NoKinds,xca_NoKinds,xcn_NoKinds,xtk_NoKinds,xmo_NoKinds,xmb_NoKinds,xis_NoKinds⟩
 have K_NoTree:XCls K c_NoTree:=⟨xga_NoTree,xgt_NoTree,xca_NoTree,xcn_NoTree,xtk_NoTree,xmo_NoTree,xmb_NoTree,xis_NoTree⟩
 have K_NoNote:XCls K c_NoNote:=⟨xga_NoNote,xgt_NoNote,xca_NoNote,xcn_NoNote,xtk_NoNote,xmo_NoNote,xmb_NoNote,xis_NoNote⟩
 have tc_Over:TwoC K c_Over:=⟨o_Over.cls,na_Over_one,na_Over_other⟩
 have tc_Both:TwoC K c_Both:=⟨o_Both.cls,na_Both_one,na_Both_other⟩
 have tc_Either:TwoC K c_Either:=⟨o_Either.cls,na_Either_one,na_Either_other⟩
 have tc_But:TwoC K c_But:=⟨o_But.cls,na_But_one,na_But_other⟩
 have tcT:TrC K c_Tree:=⟨o_Tree.cls,nt_goods,nt_numbers,nt_pickings,nt_notes,nt_counts⟩
 have cG:=fun {CX x st f k ps sp}=>@GD.cal l.prog w K h mg base CX x st f k ps sp X G
 have eY:=cG g1 (fun F=>tY F M) (bd1 fun _ _ _ _ _ _ _=>rfl)
 have bz:=cG g2 (fun F=>wN F M) (bd1 fun _ _ _ _ _ _ _=>rfl)
 have eA:=cG g3 (fun F=>tN F M eY) (bd1 fun _ _ _ _ _ _ _=>rfl)
 have eK:=cG g4 (fun F=>sf F M eA) (bd1 fun _ _ _ _ _ _ _=>rfl)
 have bA:=cG g5 (fun F=>wU F M bz) (bd1 fun _ _ _ _ _ _ _=>rfl)
 have eB:=cG g6 (fun F=>sL F M bA) (bd1 fun _ _ _ _ _ _ _=>rfl)
 have e8:=cG g7 (fun F=>uf F M eB R_NoKinds) (bd1 fun _ _ _ _ _ _ _=>rfl)
 have fC:=cG g8 (fun F=>wL F M) (bd2 fun _ _ _ _ _ _ _ _=>rfl)
 have fF:=cG g9 (fun F=>w9 F M fC) (bd1 fun _ _ _ _ _ _ _=>rfl)
 have fX:=cG g10 (fun F=>yj F M) (bd1 fun _ _ _ _ _ _ _=>rfl)
 have fE:=cG g11 (fun F=>xK F M) (bd1 fun _ _ _ _ _ _ _=>rfl)
 have eN:=cG g12 (fun F=>rj F M fE fF fX) (bd1 fun _ _ _ _ _ _ _=>rfl)
 have Z_Made:MkC l.prog w K mg base _ _ _ _ _:=g13.mkC o_Made A_Made (fun F=>sH F M (cs:=`zN) o_Made.cls na_Made_stuff) (bd2 fun _ _ _ _ _ _ _ _=>rfl)
 have Z_Used:MkC l.prog w K mg base _ _ _ _ _:=g14.mkC o_Used A_Used (fun F=>sU F M (cs:=`zN) o_Used.cls na_Used_use) (bd2 fun _ _ _ _ _ _ _ _=>rfl)
 have Z_Chief:MkC l.prog w K mg base _ _ _ _ _:=g15.mkC o_Chief A_Chief (fun F=>qN F M (cs:=`zN) o_Chief.cls na_Chief_stuff) (bd2 fun _ _ _ _ _ _ _ _=>rfl)
 have Z_Over:MkC l.prog w K mg base _ _ _ _ _:=g16.mkC o_Over A_Over (fun F=>sZ F M) (bd3 fun _ _ _ _ _ _ _ _ _=>rfl)
 have Z_Both:MkC l.prog w K mg base "Both" c_Both 1 ["self","one","other"] (iY K):=g17.mkI o_Both A_Both in_Both (fun F=>jU F M) (bd3 fun _ _ _ _ _ _ _ _ _=>rfl)
 have Z_Either:MkC l.prog w K mg base "Either" c_Either 1 ["self","one","other"] (iY K):=g17.mkI o_Either A_Either in_Either (fun F=>jU F M) (bd3 fun _ _ _ _ _ _ _ _ _=>rfl)
 have Z_But:MkC l.prog w K mg base "But" c_But 1 ["self","one","other"] (iY K):=g17.mkI o_But A_But in_But (fun F=>jU F M) (bd3 fun _ _ _ _ _ _ _ _ _=>rfl)
 have ce:=cG g18 (fun F=>n8 (cs:=`zN) F M Z_Made Z_Used Z_Chief R_NoNote) (bd2 fun _ _ _ _ _ _ _ _=>rfl)
 have aE:=cG g19 (fun F=>nN (cs:=`zN) F M Z_Both Z_Either Z_But tc_Both tc_Either tc_But) (bd3 fun _ _ _ _ _ _ _ _ _=>rfl)
 have aJ:=cG g20 (fun F=>oU (cs:=`zN) F M bz bA ce Z_Anything A_Anything Z_Over tc_Over R_NoNote) (bd1 fun _ _ _ _ _ _ _=>rfl)
 have aK:Cal l.prog w K mg base (CXE l.prog w) "note_within" 10 ["left","told"] (jE K `zN c_NoNote 5):=g21.calR X G (fun F b k m=>lg F M aJ aE R_NoNote b k m 5) (bd2 fun _ _ _ _ _ _ _ _=>rfl)
 have fL:=cG g22 (fun F=>vZ (cs:=`zN) F M aK) (bd1 fun _ _ _ _ _ _ _=>rfl)
 have de:=cG g23 (fun F=>pT F M) (bd3 fun _ _ _ _ _ _ _ _ _=>rfl)
 have df:=cG g24 (fun F=>pL F M) (bd3 fun _ _ _ _ _ _ _ _ _=>rfl)
 have cw:=cG g25 (fun F=>om F M) (bd3 fun _ _ _ _ _ _ _ _ _=>rfl)
 have cJ:=cG g26 (fun F=>sN F M) (bd3 fun _ _ _ _ _ _ _ _ _=>rfl)
 have fK:=cG g27 (fun F=>wD F M cJ) (bd4 fun _ _ _ _ _ _ _ _ _ _=>rfl)
 have aH:=cG g28 (fun F=>oz F M) (bd1 fun _ _ _ _ _ _ _=>rfl)
 have cl8:∀ j,j<8→Cls K (jn `zN j):=Ae o_Anything.cls o_Made.cls o_Used.cls o_Chief.cls o_Over.cls o_Both.cls o_Either.cls o_But.cls
 have R0:jH l.prog w K mg base `zN 0:=fun k d=>(g29.ex (fun F=>l7 F M) (bd3 fun _ _ _ _ _ _ _ _ _=>rfl))
 have R1:jH l.prog w K mg base `zN 1:=fun k d=>(g30.ex (fun F=>oX F M o_Made.cls na_Made_stuff de aH) (bd3 fun _ _ _ _ _ _ _ _ _=>rfl))
 have R2:jH l.prog w K mg base `zN 2:=fun k d=>(g31.ex (fun F=>pI F M o_Used.cls na_Used_use df aH) (bd3 fun _ _ _ _ _ _ _ _ _=>rfl))
 have R3:jH l.prog w K mg base `zN 3:=fun k d=>(g32.ex (fun F=>ow F M o_Chief.cls na_Chief_stuff cw aH) (bd3 fun _ _ _ _ _ _ _ _ _=>rfl))
 have R4:jH l.prog w K mg base `zN 4:=fun k d=>(g33.ex (fun F=>o8 F M tc_Over fK) (bd3 fun _ _ _ _ _ _ _ _ _=>rfl))
 have R5:m5 l.prog w K mg base `zN 5:=⟨fun k=>(g34.ex (fun F=>pB F) (bd3 fun _ _ _ _ _ _ _ _ _=>rfl)),fun d D=>(g34.ex (fun F=>oY F M tc_Both D) (bd3 fun _ _ _ _ _ _ _ _ _=>rfl))⟩
 have R6:m5 l.prog w K mg base `zN 6:=⟨fun k=>(g35.ex (fun F=>nO F) (bd3 fun _ _ _ _ _ _ _ _ _=>rfl)),fun d D=>(g35.ex (fun F=>ny F M tc_Either D) (bd3 fun _ _ _ _ _ _ _ _ _=>rfl))⟩
 have R7:m5 l.prog w K mg base `zN 7:=⟨fun k=>(g36.ex (fun F=>qQ F) (bd3 fun _ _ _ _ _ _ _ _ _=>rfl)),fun d D=>(g36.ex (fun F=>qM F M tc_But D) (bd3 fun _ _ _ _ _ _ _ _ _=>rfl))⟩
 have D_reason:∀ C sp,iR K `zN 5 C sp→Disp l.prog w K mg base "reason" 8 ["self","kinds","look"] C sp:=xm cl8 R0 R1 R2 R3 R4 R5 R6 R7 5
 obtain⟨a37,l37,c37,k37,t37⟩:=g37
 have F37:=kW (st:=bM) l37 c37 k37
 have b37:=F37.binds (bd3 fun _ _ _ _ _ _ _ _ _=>rfl)
 have okc:FnOk l.prog w K mg base CX0 9 _ _ ["self","kinds","look"] (lP K `zN):=pN F37 M D_reason
 have cm8:∀ j,j<8→DG K (.ref (jn `zN j)) "claims"=some (some (.ref f37)):=Ae cm_Anything cm_Made cm_Used cm_Chief cm_Over cm_Both cm_Either cm_But
 have D_claims:∀ C sp,nS K `zN C sp→Disp l.prog w K mg base "claims" 9 ["self","kinds","look"] C sp:=by rintro C sp ⟨j,hj,rfl,rfl⟩; exact⟨cl8 j hj,_,_,⟨cm8 j hj,t37,k37⟩,okc,b37⟩
 have bg:=cG g38 (fun F=>qO F M) (bd1 fun _ _ _ _ _ _ _=>rfl)
 have gh:=cG g39 (fun F=>yo F M eK bg) (bd1 fun _ _ _ _ _ _ _=>rfl)
 have eL:=cG g40 (fun F=>rL F M) (bd2 fun _ _ _ _ _ _ _ _=>rfl)
 have e9:=cG g41 (fun F=>tR F M gh eL) (bd1 fun _ _ _ _ _ _ _=>rfl)
 have dS:=cG g42 (fun F=>qL (cs:=`zN) F M D_claims) (bd3 fun _ _ _ _ _ _ _ _ _=>rfl)
 have neT:∀ j,j<8→jn `zN j≠c_Tree:=Ae (jS g29.a nr_Tree) (jS g30.a nr_Tree) (jS g31.a nr_Tree) (jS g32.a nr_Tree) (jS g33.a nr_Tree) (jS g34.a nr_Tree) (jS g35.a nr_Tree) (jS g36.a nr_Tree)
 have Z_Tree:MkX l.prog w K mg base "Tree" c_Tree 12 ["self","kinds","rule","rows"] (pS K c_Tree c_NoKinds c_NoTree c_NoNote):=g43.mkX o_Tree A_Tree (fun F=>rC F M tcT neT e8 bg e9 fL eN dS R_NoTree) (bd4 fun _ _ _ _ _ _ _ _ _ _=>rfl)
 have am:=cG g44 (fun F=>pV F M) (bd2 fun _ _ _ _ _ _ _ _=>rfl)
 have cI:=cG g45 (fun F=>rG F M) (bd2 fun _ _ _ _ _ _ _ _=>rfl)
 have eQ:=cG g46 (fun F=>rQ F M am cI) (bd1 fun _ _ _ _ _ _ _=>rfl)
 have W0:X3 K c_NoKinds c_NoKinds c_NoTree c_NoNote true false false c_TariffError:=⟨su0,qv0,q00,q01,q02,K_NoKinds⟩
 have W1:X3 K c_NoTree c_NoKinds c_NoTree c_NoNote false true false c_TariffError:=⟨su1,qv1,q10,q11,q12,K_NoTree⟩
 have W2:X3 K c_NoNote c_NoKinds c_NoTree c_NoNote false false true c_TariffError:=⟨su2,qv2,q20,q21,q22,K_NoNote⟩
 have bo:=cG g47 (fun F=>rO F M) (bd2 fun _ _ _ _ _ _ _ _=>rfl)
 have bH:`zD "_law_note" 5 ["_law_cell","_law_kinds_here","_law_deep_here"] (sM K):=g48.calR X G (fun F b k m=>vW (L:=2) (n:=3) (ni F M bo b k m)) (bd3 fun _ _ _ _ _ _ _ _ _=>rfl)
 have fg:=cG g49 (fun F=>uI F M am bH) (bd2 fun _ _ _ _ _ _ _ _=>rfl)
 have dU:=cG g50 (fun F=>qJ F M) (bd2 fun _ _ _ _ _ _ _ _=>rfl)
 have bq:=cG g51 (fun F=>rK F M Z_Tree X_TariffError A_NoKinds A_NoTree A_NoNote W0 W1 W2) (bd3 fun _ _ _ _ _ _ _ _ _=>rfl)
 have bI:=cG g52 (fun F=>ur F M) (bd2 fun _ _ _ _ _ _ _ _=>rfl)
 have cF:=cG g53 (fun F=>oq F M bI) (bd2 fun _ _ _ _ _ _ _ _=>rfl)
 have bW:=cG g54 (fun F=>nD F M) (bd2 fun _ _ _ _ _ _ _ _=>rfl)
 have dk:=cG g55 (fun F=>pH F M) (bd3 fun _ _ _ _ _ _ _ _ _=>rfl)
 have bp:=cG g56 (fun F=>rT F M) (bd2 fun _ _ _ _ _ _ _ _=>rfl)
 have bJ:=cG g57 (fun F=>uL F M) (bd1 fun _ _ _ _ _ _ _=>rfl)
 have cH:=cG g58 (fun F=>oR F M bJ bp dk) (bd2 fun _ _ _ _ _ _ _ _=>rfl)
 exact CB Fl M eQ fg dU am cF cH bW bp bJ bI bq
def walk {l:IY} {loose:List Str} {XP:(Str→Option Value)→Heap→Prop} {YP:World→Heap→Prop} {d:DefRec} {K:Params→cy} (hn:l.most=some 63) (hdf:d.params.defaults=[])
  (hY:∀ (w:World) (h:Heap),YP w h→(K w.params).In h)
  (F:∀ (w:World) (mg:Str→Option Value) (fa:Addr) (h:Heap),(K w.params).In h→h.Ns DR mg→mg d.name=some (.ref fa) →
   ∃ fd:DU,(∀ (s:Shared) (u:Value),IS s fd ⟨[u],[]⟩ [("_law_script",u)])∧∀ base:Heap,(K w.params).In base→base.Ns DR mg→FnOk l.prog w (K w.params) mg base CX0 16 fa fd ["_law_script"] (rg (K w.params))) :
  PySem.W.WalkO q loose XP YP l.row.toRowW d [] (fun f vs=>PySem.call f vs) :=
 _l.walk_of (n:=63) (k:=16) (x:="_law_script") (CX:=fun _=>CX0) (sp:=fun w=>rg (K w.params)) hn (by decide) hdf ⟨rfl,by decide,by decide⟩ hY F (fun _ _ a ns hl _ hS=>⟨a,ns,rfl,hS,hl,fun _=>rfl⟩) fun _ _ _ _ _ z=>z
end _y
structure PySem.W.Fast:Prop where
 (tw15237007891811098349 tw13690153467637237883 tw9510368545769904755 tw11651186126703559630 tw4935510435482228697 tw16397668616783645535 tw1011174146972345143 tw15388423874996560014 tw11483677566391780229 tw3753341233584725103 tw7857181972224812191 tw6848178724105858782 tw15385186260060484117 tw9149422787117807015 tw3728383004704571003 tw10454382214530500459 tw17721014812330848017 tw6003254242355583119 tw11756035970098643110 tw14357283710654783926 tw9419723586474019531 tw3613045156535450346 tw9529376509661592709 tw16839958461300221218 tw14625883292002423931 tw18340934634055773934 tw13249890580063123443 tw16999185349618508481 tw7932965159108472284 tw4820713981170020684 tw1669110969147102344 tw13983753836230603871 tw16855285622907896322 tw10961404916176631958 tw5135536046731656572 tw11645225623466500899 tw10989967632593178339 tw5804566122838692501 tw10381064689554352115 tw12431173450137136273 tw5827754764338031414 tw9980749140796492776 tw16418438467762996847 tw16711227959764491308 tw2997197785659559984 tw622526157589780449 tw6757586127459312931 tw9247693557587253279 tw6494996234357547153 tw11078511972223312203 tw15236661605165559846 tw3200461499215983320 tw14890181064423096765 tw6561705731548847435 tw18051082036612447948 tw15870109520122416308 tw1669637700316242353 tw226960514785281202 tw929841114312172118 tw9868445342895472717 tw2039371280972892561 tw11988794649140205913 tw2435917122085605657 tw17941294982129557006 tw12312708479885439218 tw12469382654389602313 tw11857342261070275509 tw688172956644104160 tw5081994810524834842 tw13297380275317920091 tw1010105062965318598 tw8855642318292192472 tw4571972115819189221 tw8757716920430277785 tw6099186833882474579 tw14286881141596956791 tw4716252123862268769 tw4244168627677860540 tw12720016073837494595 tw14328893483830069908 tw5399444202554999009 tw14990141412496671325 tw3318096803921407686 tw3144023659771535715 tw3762462727074016042 tw779713669226220368 tw12193403061752812639 tw12047493304854142094 tw12304461106662139448 tw15664276353700251992 tw568477557357212300 tw18240943791226523617 tw2480818983633780754 tw14023732663834968 tw10888124243867998583 tw3785564379796594650 tw3034347952537862339 tw4799869576220246878 tw8678996830911883274 tw2414321283702304582 tw12639977593206017139 tw6261334559594970581 tw5543861636229105226 tw17166448997502403812 tw12506657796012324276 tw12133750410723833658 tw9767601921700719230 tw4082583912156671563 tw3978653799913396343 tw15717671752137605286 tw568296098651138137 tw5373791981598404133 tw4322061513035349192 tw17958753724246905895 tw500269553417662292 tw15853234877394713203 tw12848523276255527858 tw1345033733105014099 tw12278571163031693919 tw1842171264846407710 tw6866816602276583346 tw13719370612134323193 tw4658140014887472699 tw17150416134853053861 tw6822574081262588027 tw13680714304417854601 tw8778779105717186526 tw12687597240358985200 tw13677703313318481125 tw17110364049156245381 tw9107939245696688756 tw11908725595927148173 tw13629440382804873711 tw1805360395732308076 tw1816042229440812272 tw16277166277775012693 tw16655867195078028672 tw7007121319515664732 tw4193532761382175561 tw6301869068215891963 tw8195369127506935969 tw18291922536100826572 tw15104659234940289882 tw15351957167096307310 tw9233018801000700512 tw16958495354291696424 tw1819278932122140797 tw6729621311952837762 tw7154395839691286775 tw11192861731082921023 tw15689922325175781448 tw13396051042639471106 tw9610807110622285525 tw17628733893342594245 tw16555949228597439867 tw1208600782492037499 tw4041366905478002815 tw5660877432604966766 tw7798616250402550769 tw7119567360551046006 tw1887635933731738074 tw8809073895780665736 tw15094313747373308355 tw3022339537226100867 tw4308409513194741557 tw4712122819206403491 tw4604031292556889657 tw10419669978393525004 tw405185474977847057 tw5041174292694910564 tw5356233651035251221 tw15095502920845981409 tw16832011004620553233 tw1425746880999885945 tw17333416657130328231 tw7805071804223081869 tw5659236909855770753 tw7997202979825043143 tw16535742539115933549 tw10421598859230713418 tw16705467224462838180 tw11461332151493426943 tw6094181112537001305 tw5443360780694286324 tw11119740691760378759 tw506309838095763560 tw7406411813098734855 tw6881479627407649738 tw2651810458901105379 tw1484192528536155089 tw11386473759424108889 tw2368611536231743487 tw13392731199255288571 tw13365251283605933710 tw12237910175746975216 tw13081179796229054482 tw15574611802310994007 tw11654168387868442407 tw447277261755160155 tw14350074733711052970 tw11937083452844094148 tw12488830978974811318 tw6638452236780404499 tw5632274229467096072 tw6494463589833367498 tw4824310231454696369 tw13572299055941793304 tw7455292011279856911 tw2404641801860327349 tw68685697369217366 tw8361328657348390169 tw15147121692158916842 tw1082360037653971758 tw4246992558109527165 tw8489855369099145610 tw6540958737384944602 tw1018467974850333152 tw1500168665005346191 tw13311480217617787941 tw11647761894775445996 tw11588176598180060975 tw9949367687081949164 tw9996238623653500276 tw16864620268654501703 tw4480764763998823079 tw309044298766506542 tw365607216851221280 tw3929359243506308639 tw14995259922316213499 tw15480741558463008622 tw2854557621965634778 tw10016303118629439555 tw4891702650839802631 tw535003376026584403 tw5380454206684918900 tw11877242219101723102 tw68420829808866961 tw9485455479103581651 tw570852022208001479 tw3992601084963008960 tw15454895831036195144 tw10380023665711303574 tw11197007368302583907 tw15092842761056349599 tw7626925926297170483 tw1830945101223836072 tw16672810104458051175 tw12611174087746197336 tw12118565903450288286 tw7987010614188106161 tw5807229734145899749 tw15968820962529599254 tw18145154887563046079 tw7636465178432454093 tw17145872053562464799 tw15618160879873922367 tw10755498649681708715 tw10208739433456147779 tw8635475264395766937 tw16835672563910546668 tw15303458895949800435 tw16924891022525917868 tw14732499967078227691 tw8401567554896043887 tw6745868076342856465 tw13209938380897377653 tw16147913332526449994 tw16114622473955526180 tw14068974308553814177 tw2228770196506467470 tw16683970784743854527 tw6434106799016332312 tw16399346308148456083 tw913181026438918773 tw3088258068735863475 tw16881296507336393908 tw15523783175055120161 tw6949025907368513409 tw16699565402678936036 tw12340936138204628813 tw6571912199189316655 tw10473140846538302667 tw8100695688990730972 tw17108102250017940547 tw13195411833769670366 tw5562641237794252195 tw2259372293041254972 tw6241921425813836533 tw18219387475837597347 tw16473067023761057954 tw8698659707056267160 tw15085256147648493064 tw15672732250964614508 tw9035075129616752962 tw5559116435414376956 tw17533335451855497730 tw3207249122233137327 tw18400790710959840545 tw13670745418292381551 tw16369703498360920813 tw5646940883086925383 tw519948633318008894 tw13934968886060949545 tw16312939370805663932 tw15443067185115270006 tw4381367612448450114 tw5794788686003768204 tw2064205447432605711 tw17399953267017304121 tw12418382133750191405 tw12061197017469329684 tw7515595163414655237 tw7206853467898927909 tw7324887317504243135 tw2985981138497897979 tw18342740100383750571 tw5584747729287346851 tw15573834288172526339 tw11740171640839866077 tw17630014229091778428 tw2793694869154705466 tw18407128914026740062 tw17456412424875982913 tw18265531370928536542 tw429755986579468010 tw17959453607846608767 tw2142309830664880187 tw6860019720595792394 tw504693789826554162 tw17724749165722542055 tw13187092947840843659 tw13762857705364019522 tw5707220741948665412 tw4166667625364174704 tw16428738684327781587 tw15014965539434276416 tw4999391743386785580 tw13232081702895555619 tw16021323398096447827 tw7357600557967748466 tw9279938308130353131 tw37022081462453900 tw15412248501967952129 tw4303462298863533785 tw13837731791247523184 tw9291398063447130764 tw11249063877605083744 tw7069690488704945324 tw14010781292061281228 tw15140747615963545548 tw10501113930191525970 tw14798744211295213331 tw6402008374061937045 tw5654957024878132310 tw3933503151142354268 tw1262020454641555974 tw7318631650611291115 tw622073929692386435 tw17898569533909734720 tw16452962870817286968 tw712810521968425137 tw4877149827597581247 tw3236256892657362118 tw11533727484700607538 tw14439712450857993022 tw6784552478895404251 tw4716250607621829055 tw11064350783239516880 tw3270235429052862488 tw62737945232021971 tw11809818303013286354 tw13462856670206722470 tw4500787163522913935 tw6097251254127392313 tw17284152455039256593 tw5289394033153779871 tw17998717782451774161 tw8784219025572426375 tw6776670685309761308 tw5412893785281536415 tw7727817920510075922 tw9551669629477875237 tw909988852475100094 tw16385570483775098491 tw7498470252968145380 tw6995150626014490754 tw8059784559631277583 tw15782772454763135985 tw16521364196847316377 tw12538792414001296455 tw11717341095586677035 tw793797140187349729 tw7731561322508947668 tw4163186986648283902 tw3936456011930235119 tw2044598807945545942 tw15731843908434060666 tw1075531129762676292 tw575043469884584854 tw10057742683422177485 tw730024663172036325 tw13500878762704960724 tw5360281332299467306 tw5379543719714160665 tw5059548360800184608 tw1929580021499345599 tw1792576062690770145 tw17456325844918174479 tw1717105874280178181 tw14914557487514032652 tw14363719226546122350 tw13293685235126652579 tw13058364783795918198 tw9164873627854228951 tw3953053808031138800 tw2002571549055755783 tw15763990374572335280 tw8060180703187305237 tw558397609343136802 tw10370253142619949118 tw8256142863880194373 tw6787311494681969133 tw10049684601862148234 tw759648819559477021 tw6174946294633518160 tw14811971969322088855 tw7474244160200514976 tw17544470692173053241 tw14017576884862107127 tw12372407992392752158 tw3968311299889617202 tw16174654248760288128 tw7770828601744312828 tw11067735648031023219 tw12430083958089394409 tw4569224417869170184 tw8313932773701207771 tw5627592540563880987 tw17685343024009585198 tw13279050528435790240 tw12466701628405357603 tw9498842742401201739 tw687632145161805431 tw884415702496451581 tw8341122745138827781 tw6941797767196487473 tw6622850594779291383 tw6263945025481678241 tw17679874305029712950 tw17249613216286942977 tw1709029149904983030 tw14658090778181955617 tw1444470068681712979 tw11213531787159145879 tw10959730758493970680 tw10942276690283903864 tw13057315001420165254 tw4340298748952291999 tw4494049601867345917 tw9393260998338022149 tw8228347645383175534 tw8130351637954703070 tw6711881173957515195 tw5793200650328421471 tw5161838785211150902 tw17187677783005259568 tw17050181902132080096 tw15252611207304593094 tw146830764609117481 tw1398154619544844912 tw12617647409422390343 tw11958923864113251032 tw10904652010854182707 tw10549892812040635945 tw9547281371833692106 tw9289172117432025882 tw9015051985694721709 tw7563609623408912389 tw6957278461293177507 tw6345999767983397527 tw6115200977360897617 tw5642260333066911823 tw5089128891232575786 tw3515350772778535386 tw2924080759859806942 tw14675680929941985945 tw12788059165454181547 tw12426720679333332345 tw11662538685269141898 tw3117839627598003955 tw9514870639026205174 tw9408460737554993165 tw8466085563724705704 tw5230873430444377264 tw4446941319984030914 tw17413171099048058513 tw1638180895020935368 tw14150799909375674273 tw13157462228602512289 tw12414594885544077872 tw12391892733067836687 tw11201821639447821503 tw983733384769785571 tw7933645868970601840 tw7894968269938168255 tw7326943899464083685 tw6302839415639675053 tw4506729636240714331 tw4380646235532787456 tw2511173772987276522 tw207266240588202332 tw1846279817049563482 tw15118551870756358317 tw14553221774058279119 tw11981239642103718376 tw10890652466462353854 tw10138238342447764723 tw985524684301349855 tw9836562026964863750 tw9829525063596120725 tw9728460718013980349 tw9542141800530831943 tw9401006735862764387 tw9299933126660367650 tw9271421516339951714 tw9163748800682994118 tw9162670537098772208 tw9085548237918155170 tw8660475916763501202 tw8622809738417579343 tw8555595799436176217 tw8386861104669320702 tw8323477843765821743 tw828148162970939003 tw8182178549641120157 tw8077135591174708112 tw8021675522094579840 tw7821771364268440356 tw780003696245423190 tw775571121221134560 tw7574728116655332741 tw7471275120843973997 tw7350036814259315430 tw7328547724834099580 tw7292473948456418702 tw7040004287861527691 tw7033656775645965606 tw6972157769517173094 tw6558636010881097665 tw6544204882979510905 tw6408278526775577794 tw6319455242124522741 tw6213125283405888567 tw6195410710792084160 tw6155805489182274072 tw6005830096131317346 tw59858574690359638 tw5976166038951304356 tw5944333734723256667 tw589589669521253001 tw5762094935669646601 tw5740944993065243109 tw546582634119607294 tw541764833560005762 tw5406472279456998647 tw5401125494827634333 tw5247521629478454660 tw5136584991972884045 tw5115123395709372544 tw4870490912873451639 tw4799623731691369940 tw445976606937961388 tw4310667860042201314 tw4252391703114200554 tw4149656887710006765 tw4088124482269872741 tw4000747902001569096 tw3948275590593553418 tw379682296101990964 tw3709460778209661516 tw3604343439041379741 tw3581332250578922333 tw3513715937280895154 tw3450128584588886137 tw3398427475395299058 tw3395482446916769527 tw3332503296981613994 tw3200478603435536208 tw2990032952529346285 tw2973479120573529349 tw2961823736377350660 tw2900450839058883446 tw2886773989174182988 tw2747768651487756435 tw2738156391408961457 tw2719427015068752794 tw2164307181704066728 tw2144497516822335974 tw2073417183566574509 tw1870070836717876265 tw18374998062343358223 tw18223738810639832407 tw18123159146754372676 tw18055768727491695637 tw18042913232960472273 tw18014875460390295632 tw17932372568939737118 tw17879039140348395693 tw17869738869243695873 tw17802325670222472609 tw17755356311486873875 tw17693415236523223691 tw17680203469236064507 tw17619932736913942947 tw17619083560999154190 tw17522096254866537010 tw17486602027860916233 tw17476096398892189438 tw17406020135310592621 tw17374525319019363358 tw17325564556338572308 tw17244838418151604695 tw17168320855038847505 tw16988484506171897514 tw16490640574508041934 tw16473040808841239313 tw16141501511841872104 tw16033755427295426841 tw16004327087881437026 tw16002709836265886403 tw15690572093451233504 tw15525701764205908574 tw15292004701246670814 tw15281153166301380558 tw15168652511740393907 tw14974417078933564966 tw14914498569205196245 tw14543488176684567191 tw14538663946073332099 tw14352118111067808470 tw14236530590494275817 tw14147801690933284518 tw13993355748086061920 tw13965116883672183864 tw13821328967326979504 tw13740257293114052390 tw13481057308930260734 tw13337904656822064870 tw13066201008360203409 tw12936443801363231679 tw12846873056385116206 tw12816925668862460166 tw12796662860935652272 tw12754532657482844656 tw12749147264088807431 tw12681462288929210972 tw12649832550612303566 tw12641466829067545106 tw12622087069861186515 tw12586381607324396703 tw12347912234878649670 tw12226454831763623078 tw12188811136344379768 tw12155957297685340226 tw12131757708140591254 tw12088389392215277536 tw11899557166043367888 tw11514129030374601121 tw11436888901852159632 tw11427100449454748415 tw11256142637816979714 tw11221741118822531574 tw11042350211267629749 tw11023389530977271215 tw10998036703664427116 tw10976952755466666437 tw10809448268519770953 tw10689300952466822584 tw10603737056462310315 tw10185522047644169109 tw1007000027889401438:True)
open PySem PySem.W PyProof.Rows
set_option maxRecDepth 100000 in
set_option maxHeartbeats 0 in
theorem PySem.Challenge.cw_tariffgate_k42_trees_refused_holds : PySem.Challenge.rw_tariffgate_k42_trees_refused.Holds := by
 w_on; o_law; k_head; (case hw=>w_witness2)
 k_fill
 refine _y.walk (l:=PySem.Challenge.rw_tariffgate_k42_trees_refused) rfl rfl (fun w h Y=>PySem.W.kIn_of Y) ?F
 case F =>
  intro w mg fa h KX G hmg
  apply _y.all_mk KX G hmg
  all_goals first | k_is | k_exc | kit_is | ((first | apply _l.GD.mk | apply _l.MD.mk | apply _l.OC.mk) <;> first | k_is | k_exc | kit_is) | rfl | kernel_rfl | decide
#print axioms PySem.Challenge.cw_tariffgate_k42_trees_refused_holds

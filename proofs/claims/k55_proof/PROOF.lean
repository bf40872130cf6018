import PyProof.Rows.All
import Wide.All
import OpenK.AllK
import Wide.FinOn
import Lean
import PyProof.EqAt
import PyProof.EqKinds
import PyProof.TupleCall
import PyProof.ExcBaseAll.ValueError
import PyProof.ExcAttrAll.ValueError
import PyProof.NsDelKeeps
import PySem.Challenge.RW_dutyproof_k55_whole_fars_keep
open Option renaming some→Za,none→Zd,map_eq_some_iff→Z8,isSome_iff_exists→ZbC,bind_some→ZdI,getD_some→ZeS,map_some→Zfk
open List renaming getElem?_eq_getElem→Zb,getD_eq_getElem?_getD→Zi,mem_cons_of_mem→Zl,mem_append_right→Zq,length_map→Zr,getElem?_eq_some_iff→Zs,size_toArray→Zx,getElem?_map→Zy,mem_cons_self→Z2,length_append→Z7,mem_singleton→Z9,mem_cons→ZB,getElem?_append_right→ZE,getElem_mem→ZF,getElem?_append_left→ZI,mem_append→ZK,length_cons→ZN,getElem?_set_self→ZO,map_cons→ZQ,range→ZU,mem_append_left→ZW,getElem?_set_ne→ZX,replicate→Zab,append_assoc→Zae,not_mem_nil→Zai,mem_map→Zaj,lookup_cons→Zao,all_cons→Zav,toArray→Zay,mem_range→Za0,map_map→Za2,getElem?_eq_none→Za3,mem_iff_getElem→Za5,take_succ_eq_append_getElem→Za7,getElem_map→ZaD,eq_nil_of_length_eq_zero→ZaF,set_append_left→ZaG,append_nil→ZaI,cons_append→ZaK,pairwise_append→ZaU,pairwise_cons→ZaV,pairwise_iff_getElem→Zbe,reverse_cons→Zbj,length_singleton→Zbn,length_set→Zbq,nil_append→Zbr,mem_reverse→Zbw,take_of_length_le→Zb0,replicate_succ→Zb2,drop_eq_getElem_cons→Zb4,set_cons_zero→ZbA,sum_cons→ZbE,ext_getElem?→ZbL,map_append→ZbN,length_replicate→ZbX,length_nil→ZbZ,lookup→Zcc,flatten_cons→Zcd,length_range→Zcg,length_reverse→Zcn,map_congr_left→Zcp,getElem?_replicate→Zcq,all_eq_true→Zcr,getElem?_cons_succ→Zcs,getElem?_cons_zero→Zct,ext_getElem→Zcx,length_eq_zero_iff→Zcy,nodup_cons→Zc7,find?_cons→Zc8,set_append_right→ZcF,mem_of_getElem?→ZcJ,map_nil→ZcV,getElem?_range→Zda,set_cons_succ→Zdt,findIdx?_eq_some_iff_getElem→Zd0,drop_eq_nil_of_le→Zd4,reverse_perm→Zd9,eraseIdxIfInBounds_toArray→ZdB,length_filter_le→ZdE,filter_cons→ZdK,any_cons→ZdM,getElem_reverse→ZdS,filterMap_cons→ZdX,length_eraseIdx_of_lt→Zer,getElem_range→Zeu,findIdx?_eq_none_iff→Zev,length_erase_of_mem→ZeB,getElem_inj→ZeD,length_take→ZeG,take_length→ZeT,pairwise_lt_range→Zfe,set_set→Zfg,mem_filter→Zfh,of_mem_zip→Zfi,foldl_cons→Zfj,mem_iff_getElem?→Zfq,getElem?_toArray→Zfr,pairwise_reverse→Zfw,dropLast_eq_take→Zfx,mem_of_mem_erase→Zfz
open PySem renaming wpAny_bind→Zc,Value→Zg,Shared→Zk,wpAny_pure→Zn,Addr→Zo,wpAny→Zt,mainGlobals→Zu,model→Zz,Program→ZD,starEach→ZG,Around→ZH,wpAny_holding→ZT,World→ZV,wpAny_Call_Name_kw→Zal,mem_of_lookup→Zap,codeAny_builtin→Zaq,wpAny_mono→Zar,Heap→Zaw,rawInt→ZaB,compareOp→ZaC,plainId_quiet→ZaM,wpAny_tryCatch→ZaT,FuncData→Zbc,assignEach→Zbf,sizeLine_eq→Zbi,wpAny_pyIter_list→Zbk,wpAny_setField→Zbp,binaryOp→Zbv,eval→Zby,backTo→Zbz,Builtin→Zb5,NameKind→Zb6,Spec→Zb7,wpAny_rule→Zb9,Scope→ZbF,wpAny_truthy_bool→ZbI,scanBound→ZbJ,bootBuiltins→ZbO,pyNext→ZbP,wpAny_standAt→ZbT,wpAny_call_entry→ZbU,wpAny_seqItems→ZbW,holding→Zce,wpAny_newObj_type→Zcf,wpAny_setState_of→Zch,wpAny_newList→Zcj,intKind→Zcl,wpAny_setEntries_of→Zco,wpAny_askSetting→Zcv,wpAny_callSpecial?_slot→Zcw,wpAny_letGo→Zc1,codeAny_mono→Zc3,wpAny_updateSeq→Zc9,foldedSetIterable→ZcG,wpAny_field→ZcK,codeAny→ZcR,Arguments→ZcT,Stmt→ZcZ,behindInMarks→Zdc,ExceptHandler→Zde,wpAny_attempt→Zdf,letOwnedTupleGo→Zdh,wpAny_loadPart'→Zdj,wpAny_execs_nil→Zdk,sysModules→Zdl,builtinsNs→Zdm,sliceBounds→Zdu,keywordEach→Zdw,seqItems?→Zdy,BindsTo→Zd1,Operator→ZdA,builtinLookup_eq_fast→ZdC,attributeBase→ZdL,strKind→ZdN,richCompare→ZdP,setNext→Zeb,swapsWith→Zeh,pyIter→Zel,call_meets→Zem,closureFor→Zeo,wpAny_runValue→Zeq,wpAny_fieldsOf→Zes,fits_of_scanBound→Zez,assign→Ze4,GenState→ZeC,getMethod→ZeF,codeAmong→ZeI,lastMarks→ZeJ,noteFrame→ZeK,setFlight→ZeL,backToKw→ZeM,wpAny_isInstance→ZeP,wpAny_pyNext_list_item→ZeU,Result→ZeV,getItem→ZeX,wpAny_call→ZeY,argsOk→Zfa,codeAny_of_tree→Zfl,typeLookup_type→Zfn,wpAny_pyNext_list_end→Zfp,weight_type_call_type→Zfs,bindArgs→Zf0,seqIndex_of→Zf2,subscripted→Zf3,wpAny_of_eq→Zf4,wpAny_newTuple→Zf7,hashInt→ZfD,Keyword→ZfH,callerA→ZfI,standAt→ZfJ,pickOrder→ZfL,assignInOrder→ZfN,typeLookup→ZfP,cameBackBy→ZfQ,intKind_is→ZfR,setsByText→ZfS,setEntries→ZfT,Within→ZfV,seqIndex_neg→ZfZ,valueAt→Zga,setField→Zgb,again→Zgc,relayAll→Zgf,IsPart→Zgl,PyData→Zgm,strValues→Zgn,updateSeq→Zgo
open PySem.Heap renaming get?_push_of_some→Ze,get?_push_size→Zv,lt_size→Z0,get?_update_other→Z1,get?_update_self→Zat,SameBut→ZbB,size_push→ZbV,ExtBut→Zdv
open Bool renaming true→Zh,false→Zj,and_eq_true→Zp,false_ne_true→Zw,false_eq_true→Zad,or_eq_true→ZaY,not_eq_true'→Zbl,eq_false_iff→ZcI,not_true→Zdg,eq_iff_iff→Zdi,true_eq_false→Zds,not_false→Zet
open Nat renaming le_refl→Zm,lt_of_lt_of_le→Z4,ne_of_lt→Z5,zero_le→ZA,le_trans→ZC,le_of_lt→Zaa,lt_of_le_of_lt→Zah,le_add_right→Zas,le_sub_one_of_lt→Zaz,lt_succ_self→Za4,lt_of_le_of_ne→ZaA,lt_of_succ_lt→ZaE,ne_of_gt→ZaN,le_succ→ZaR,pos_of_ne_zero→ZaW,not_lt→ZaX,lt_succ_of_lt→Zb1,min_eq_left→Zb3,zero_add→ZbD,le_of_lt_succ→ZbK,lt_trans→ZbQ,le_antisymm→Zca,one_pos→Zc2,lt_irrefl→ZcD,sub_one_lt_of_le→ZcO,sub_lt→ZcP,add_right_cancel→ZcQ,le_of_eq→ZcS,succ_le_succ→ZcU,le_of_not_lt→ZcW,add_lt_add_left→Zdb,eq_zero_or_pos→Zdo,lt_or_eq_of_le→Zdr,add_sub_cancel_left→Zdx,sub_pos_of_lt→Zd8,le_of_sub_eq_zero→ZdD,succ_lt_succ→ZdH,le_add_left→ZdW,add_sub_cancel'→ZdY,add_le_add_left→ZdZ,sub_self→Zec,le_zero→Ze1,sub_le→Zff,le_of_ble_eq_true→Zfy,add_assoc→ZfO,not_le→ZfU,lt_or_ge→Zgh
open PyProof.Rows renaming wpS_bind→Z3,wpS_pure→Z6,arrOf→ZL,seqObj→ZR,pendingOf→ZZ,Keyed→Zak,SortSt→Za9,wpS_forRange→ZaH,callWith_type1→ZaP,IntsAre→Zbs,get?_update_seq→Zbu,callWith_builtin1→Zb8,wpS_mono→ZbH,evalAll_cons→ZbY,listUpdate_at→Zck,spliced_more→ZcX,spliced_none→ZcY,evalAll_nil→Zdd,wpS_modify→Zdq,subscriptTail_builtinR→Zd2,failedOf→Zd7,size_push'→ZdG,mirror_size→ZdR,AllBare→Zea,mirror_perm→Zex,wpS_get→Ze0,subscriptTail→Ze3,wpS_lift→ZeQ,envOfC→Zf1,seqEpoch_at→Zf6,oneType'→Zf8,K_mirror_equal→Zf9,wpS_reverse→ZfA,listItems_at→Zgd
open Int renaming le_refl→ZJ,le_trans→Zan,emod_lt_of_pos→Za1,emod_nonneg→ZaJ,toNat_natCast→ZaO,le_of_lt→Zbb,mul_le_mul_of_nonneg_left→Zbm,le_ediv_iff_mul_le→ZbS,ediv_nonneg→Zcb,not_lt→ZcN,toNat→Zdz,ediv_le_ediv→ZdJ,le_antisymm→ZdU,add_mul→ZfB,mul_nonneg→ZfC,zero_add→Zgj
open Array renaming length_toList→ZM,toList_append→ZS,getElem?_eq_some_iff→ZaS,getElem?_eq_getElem→Zbd,getD_eq_getD_getElem?→Zbx,toList_reverse→ZbG,getElem?_eq_none→Zc4,size_extract→Zc6,getElem?_setIfInBounds→ZcB,getElem?_toList→ZcE,perm_iff_toList_perm→ZcL,getD→Zdp,toList_push→Zey,size_setIfInBounds→Ze8,eraseIdxIfInBounds→Ze9,size_push→Zfm,toList→ZfW
open Ne renaming symm→ZP
open PySem.Obj renaming mapSeq→ZY,data_mapFields→Zag,mapFields→Zau,isFreed_of_fields→Zbo,cls_mapFields→Zd3
open PySem.Value renaming none→Zac,int→ZcC,bool→ZdF,ref→Zeg,type→Zej,str→ZfG
open PySem.Around renaming under_plainId→Zaf,under→ZfX
open Option.some renaming inj→Zam,injEq→ZaQ
open PyProof.Rows.F renaming plain_set_update_loop→Zax,entry_set_update_loop→Zbg
open PySem.SetTable renaming below→Za6,grown→Zcu,has→Zge
open True renaming intro→Za8
open PySem.NameKind renaming free→ZaL,cell→Ze5
open PySem.F renaming plain_max_loop→ZaZ,plain_list_iadd→Zcz,plainAttrs_list→Zc0,entry_max_loop→Zd5,entry_proto_collect→Zee,plain_proto_collect→Zef,sub_list_frozenset→Zep,args_tuple_add_2→Ze2,entry_tuple_add→ZeH,entry_type_call→ZeN,entry_list_iadd→ZeR,slot_tuple_add→ZeW,typeCall_set_1→Zfb,entry_set_init→Zfc,plain_set_new→Zfu,slot_set_iter→Zfv
open PySem.Str renaming ofString→Zba
open PySem.Heap.SameBut renaming update→Zbh
open ForInStep renaming yield→Zbt
open False renaming elim→ZbM
open PySem.Builtin.Builtins renaming bindParams→ZbR
open PySem.Builtin.List renaming listTooLong→Zci,listExtendWith→ZcH,listLengthHint→Zed,listSameRef→ZeA
open PySem.W renaming kas_rev→Zcm,kas_asc→Zc5,kas_sort→ZcA,kas_descPart→Zd6,kas_desc→ZdQ,kas_place→Zei,kas_count→ZeO,kas_tail3→ZfK
open List.Perm renaming refl→ZcM
open PySem.Walks renaming list→Zdn
open PySem.PyData renaming list→ZdO
open PySem.Builtin.Frozenset renaming updateFrom→ZdT
open Array.Perm renaming refl→ZdV
open PySem.Calls renaming Name_function_global→Zek,spliced_cons→Zen,callWith_builtin→ZeZ
open List.Pairwise renaming nil→Zew,sublist→Zft
open Prod.mk renaming injEq→Ze6
open PySem.Shared renaming TypeIs→Ze7
open PySem.Builtin.Range renaming rangeSize→ZeE
open PyProof.Rows.SortSt renaming mk'→Zfd
open List.cons renaming injEq→Zfo
open PyProof.Rows.IntsAre renaming int_at→Zf5
open Sum renaming inl→ZfE,inr→ZfF
open PySem.Paired renaming length→ZfM
open PySem.Code renaming isFrame→ZfY
open PySem.pickOrder renaming go→Zgg
open Eq renaming refl→Zgi
open PySem.Data renaming cell→Zgk
noncomputable section
set_option compiler.extract_closed false
set_option bootstrap.genMatcherCode false
set_option genSizeOf false
set_option Elab.async false
set_option linter.all false
set_option maxRecDepth 100000
abbrev CeT:=PySem.Str->Option PySem.Addr
abbrev QvT:=PySem.Value->PySem.Shared->Prop
abbrev PnT:=List<|PySem.Addr×PySem.Obj
theorem Zf{p:Prop}(h:False):p:=h.elim
local macro_rules|`(#[$a,$b,$c,*])=>`(⟨$a,$b,$c,*⟩)|`(#[$a,$b])=>`(⟨$a,$b⟩)
local macro_rules|`(00)=>`(by omega)|`(01)=>`(by decide)|`(02)=>`(by kernel_rfl)|`(03)=>`(by simp)|`(04)=>`(by rfl)|`(05)=>`(by lia)
namespace L2
open PySem PySem.Spec PyProof.Rows
abbrev _root_.Wa:=Array<|Nat×Nat×Nat
abbrev _root_.Wb:=List<|Nat×Int×Int
abbrev _root_.Wc:=Array<|Option Zg
abbrev _root_.Wg:=Option<|Zg×Nat
abbrev _root_.Wh:=List<|Str×Zb6
abbrev _root_.Wi:=List<|Int×Tok
abbrev _root_.Wj:=Array<|Int×Zg
abbrev _root_.Wk:=List<|Str×Zg
abbrev _root_.Wn:=List<|Str×Zo
abbrev _root_.Wo:=List<|Int×Zg
abbrev _root_.Wt:=Option Expr
abbrev _root_.Wu:=Option Bool
abbrev _root_.Wv:=Option Str
abbrev _root_.Ww:=Option Zb6
abbrev _root_.Wx:=Option Int
abbrev _root_.Wy:=Option Nat
abbrev _root_.Wz:=Option Zg
abbrev _root_.Ta:=Array ZeC
abbrev _root_.Tc:=Option Zo
abbrev _root_.Td:=List Expr
abbrev _root_.Tf:=Array Nat
abbrev _root_.Tg:=Array Zak
abbrev _root_.Tj:=Array Zg
abbrev _root_.Tk:=List Str
abbrev _root_.Tl:=List Env
abbrev _root_.Tn:=List ZcZ
abbrev _root_.To:=List ZfH
abbrev _root_.Tp:=List Int
abbrev _root_.Tq:=List Nat
abbrev _root_.Ts:=List Zde
abbrev _root_.Tt:=List Zak
abbrev _root_.Tv:=List Zg
abbrev _root_.Tw:=List Zo
abbrev Key:=Sum Int Str
def Xq:Key->Zg->Bool|.inl k,v=>Value.isInt k v|.inr x,v=>Value.isStrOf x v
def keyH(w:ZV):Key->Int|.inl k=>ZfD k|.inr x=>hashStr w x
theorem Vj:∀{k:Key}{v:Zg},Xq k v=Zh->(∃i t,k=ZfE i/\v=ZcC i t)∨(∃x t,k=ZfF x/\v=ZfG x t)|.inl i,v,h=>by obtain⟨t,e⟩:=Value.isInt_shape (k:=i) (v:=v) h;exact .inl #[i,t,rfl,e]|.inr x,v,h=>by obtain⟨t,e⟩:=Value.isStrOf_shape (x:=x) (v:=v) h;exact .inr #[x,t,rfl,e]
theorem Jqm(i:Int)(t:Tok):Xq (.inl i) (.int i t)=Zh:=by simp[Xq,Value.isInt]
theorem Jqn(x:Str)(t:Tok):Xq (.inr x) (.str x t)=Zh:=by simp[Xq,Value.isStrOf]
theorem J08(a b:Int):decide ((ZfE a:Key)=ZfE b)=(a==b):=by
 by_cases e:a=b
 ·subst e;simp
 ·have h:¬(ZfE a:Key)=ZfE b:=λq=>e<|Sum.inl.inj q
  rw[decide_eq_false h];exact(beq_eq_false_iff_ne.mpr e).symm
theorem J1b(a b:Str):decide ((ZfF a:Key)=ZfF b)=decide (a=b):=by
 by_cases e:a=b
 ·subst e;simp
 ·have h:¬(ZfF a:Key)=ZfF b:=λq=>e<|Sum.inr.inj q
  rw[decide_eq_false h,decide_eq_false e]
theorem J09(a:Int)(b:Str):decide ((ZfE a:Key)=ZfF b)=Zj:=decide_eq_false λq=>nomatch q
theorem J1a(a:Str)(b:Int):decide ((ZfF a:Key)=ZfE b)=Zj:=decide_eq_false λq=>nomatch q
def Vl(prog:ZD)(w:ZV):PySem.KeyKind prog w Key where
 is:=Xq
 hash:=keyH w
 inj:=λv a b ha hb=>by
  rcases Vj ha with⟨i,t,rfl,rfl⟩|⟨x,t,rfl,rfl⟩
  ·rcases Vj hb with⟨j,u,rfl,e⟩|⟨y,u,rfl,e⟩
   ·injection e with e1 _;rw[e1]
   ·exact nomatch e
  ·rcases Vj hb with⟨j,u,rfl,e⟩|⟨y,u,rfl,e⟩
   ·exact nomatch e
   ·injection e with e1 _;rw[e1]
 byValue:=λk v h=>by rcases Vj h with⟨i,t,rfl,rfl⟩|⟨x,t,rfl,rfl⟩<;>rfl
 pyHash:=λhv h=>by
  rcases Vj hv with⟨i,t,rfl,rfl⟩|⟨x,t,rfl,rfl⟩
  ·exact wpAny_pyHash_int h
  ·exact wpAny_pyHash_str h
 eqBool:=λhu hv h=>by
  rcases Vj hu with⟨i,t,rfl,rfl⟩|⟨x,t,rfl,rfl⟩
  ·rcases Vj hv with⟨j,u,rfl,rfl⟩|⟨y,u,rfl,rfl⟩
   ·rw[J08]at h;exact wpAny_eqBool_int h
   ·rw[J09]at h;exact SeqAt.EqAt.int_str i t y u _ _ _ _ h
  ·rcases Vj hv with⟨j,u,rfl,rfl⟩|⟨y,u,rfl,rfl⟩
   ·rw[J1a]at h;exact SeqAt.EqAt.str_int x t j u _ _ _ _ h
   ·rw[J1b]at h;exact wpAny_eqBool_str h
 «strs» :=λk x t v h=>by
  rcases Vj h with⟨i,u,rfl,e⟩|⟨y,u,rfl,e⟩
  ·exact nomatch e
  ·injection e with e1 _
   subst e1;cases v<;>rfl
theorem Jk2(prog:ZD)(w:ZV)(i:Int)(t:Tok):(Vl prog w).is (.inl i) (.int i t)=Zh:=Jqm i t
theorem Jk3(prog:ZD)(w:ZV)(x:Str)(t:Tok):(Vl prog w).is (.inr x) (.str x t)=Zh:=Jqn x t
inductive V where|non|bl (b:Bool)|int (i:Int)|str (x:Str)|byt (b:Array UInt8)|flt (b:UInt64)|ref (a:Zo)|ty (n:String)
 deriving DecidableEq
abbrev _root_.Wd:=List<|Option V
abbrev _root_.Wq:=List<|Key×V
abbrev _root_.Wr:=List<|Str×V
abbrev _root_.Ti:=Option V
abbrev _root_.Ud:=List V
def RelV:V->Zg->Prop|.non,u=>u=Zac|.bl b,u=>u=ZdF b|.int i,u=>∃t,u=ZcC i t|.str x,u=>∃t,u=ZfG x t|.byt b,u=>∃t,u=Value.bytes b t|.flt b,u=>∃t,u=Value.float b t|.ref a,u=>u=Zeg a|.ty n,u=>u=Zej n
abbrev Vals:Ud->Tv->Prop:=Paired RelV
theorem Vals.length{xs:Ud}{us:Tv}(r:Vals xs us):xs.length=us.length:=ZfM r
theorem Vals.get:∀{xs:Ud}{us:Tv}{i:Nat}{x:V},Vals xs us->xs[i]?=Za x->∃u,us[i]?=Za u/\RelV x u
 |_,_,_,_,.nil,e=>by simp at e
 |_,_,0,_,.cons r _,e=>by simp at e;subst e;exact#[_,rfl,r]
 |_,_,i+1,x,.cons _ t,e=>by
  obtain⟨u,h1,h2⟩:=Vals.get (i:=i) (x:=x) t<|by simpa using e
  exact#[u,by simpa using h1,h2]
theorem Vals.set{x:V}{u:Zg}(r:RelV x u):∀{xs:Ud}{us:Tv}(i:Nat),Vals xs us->Vals (xs.set i x) (us.set i u)
 |_,_,_,.nil=>.nil
 |_,_,0,.cons _ t=>.cons r t
 |_,_,i+1,.cons q t=>.cons q<|Vals.set r i t
theorem Vals.append:∀{xs ys:Ud}{us ws:Tv},Vals xs us->Vals ys ws->Vals (xs++ys) (us++ws)|_,_,_,_,.nil,s=>s|_,_,_,_,.cons r t,s=>.cons r<|Vals.append t s
theorem Vals.take:∀{xs:Ud}{us:Tv}(n:Nat),Vals xs us->Vals (xs.take n) (us.take n)|_,_,0,_=>.nil|_,_,_+1,.nil=>.nil|_,_,n+1,.cons r t=>.cons r<|Vals.take n t
theorem Vals.drop:∀{xs:Ud}{us:Tv}(n:Nat),Vals xs us->Vals (xs.drop n) (us.drop n)|_,_,0,r=>r|_,_,_+1,.nil=>.nil|_,_,n+1,.cons _ t=>Vals.drop n t
def RelO:Ti->Wz->Prop|some v,Za u=>RelV v u|none,Zd=>True|_,_=>False
def KV{κ:Type}:List (κ×V)->List (κ×Zg)->Prop:=Paired λ(p:κ×V)(q:κ×Zg)=>p.1=q.1/\RelV p.2 q.2
noncomputable def kV:Key->V|.inl i=>.int i|.inr x=>.str x
inductive HO where
 /-- a list -/
 |lst (xs:Ud)
 /-- a tuple (never changes) -/
 |tup (xs:Ud)
 /-- a dict whose keys are ints and texts; one whose keys are tuples of ints and texts (the empty one is both) -/
 |dK (kvs:Wq)|dT (kvs:List (List Key×V))
 /-- a set of ints: its members,its size -/
 |set (S:Int->Bool) (n:Nat)
 /-- an instance of the class at C,its dict at dx,its attributes -/
 |ins (C dx:Zo) (fs:Wr)
 /-- the dict of the instance at x -/
 |own (x:Zo)
 /-- the dict of an exception -/
 |xd (fs:Wr)
 /-- a bound method,f of x -/
 |met (f x:Zo)
 /-- a range object lo,lo + 1,.. below hi -/
 |rng (lo hi:Int)
 /-- a thing that is known to the object (the script; a dict while a loop walks it): read,never written while it is so -/
 |frz (o:Obj) (u:HO)
 /-- a code object's table -/
 |tbl (ps:Tj)
 /-- any other thing,by what is Zh of its one object (a def of one's own: SetO a S n:= HO.ext λh=> ..) -/
 |ext (φ:Zaw->Prop)
abbrev Hp:=Zo->Option HO
def upd(H:Hp)(a:Zo)(o:HO):Hp:=λb=>if b=a then Za o else H b
theorem Jz{H:Hp}{a:Zo}{o:HO}:upd H a o a=Za o:=by unfold upd;rw[if_pos rfl]
theorem Jn{H:Hp}{a b:Zo}{o:HO}(h:b≠a):upd H a o b=H b:=by unfold upd;rw[if_neg h]
theorem QX{H:Hp}{a b:Zo}{o:HO}(h:H a=Za o)(h':H b=Zd):a≠b:=by intro e;subst e;rw[h]at h';cases h'
section
variable(P:ZD)(w:ZV)
def JG(H:Hp)(h:Zaw)(a:Zo):HO->Prop|.lst xs=>xs.length<=sizeLine/\∃(its:Tv) (n:Nat),Vals xs its/\h.get? a=Za {cls:=.type "list",data:=.seq its.toArray n}|.tup xs=>xs.length<=sizeLine/\∃its:Tv,Vals xs its/\IsTup h a its.toArray|.dK kvs=>kvs.length<=sizeLine/\(a==Zdl)=Zj/\∃vs,KV kvs vs/\h.DictOf (Vl P w) a vs|.dT kvs=>kvs.length<=sizeLine/\(a==Zdl)=Zj/\∃xs:List<|List Key×Zo×Zg,Paired (λ(p:List Key×V)(q:List Key×Zo×Zg)=>p.1=q.1/\H q.2.1=Za (.tup<|p.1.map kV)/\RelV p.2 q.2.2) kvs xs /\ ∃o es ep,h.get? a=Za o/\o.ExactDict/\o.data=.dict es ep/\es.toList=xs.map (entryOfKey<|tupleKind<|Vl P w)/\(xs.map (·.1)).Nodup|.set S n=>h.SetOf (intKind P w) a S n|.ins C dx fs=>H dx=Za (.own a)/\fs.length<=1000/\dx≠a/\h.get? a=Za (W.instObj C dx) /\ ∃mA,h.Ns1 dx mA/\(∀f,RelO (fs.lookup f)<|mA f)/\ZfV mA (fs.map (·.1))|.own _=>∃o,h.get? a=Za o|.xd fs=>∃mA,h.Ns1 a mA/\∀f,RelO (fs.lookup f)<|mA f|.rng lo hi=>∃t u v,h.get? a=Za {cls:=.type "range",data:=.fields (Zay [.int lo t,.int hi u,.int 1 v])}|.frz o u=>h.get? a=Za o/\JG H h a u|.tbl ps=>h.get? a=Za {cls:=.none,data:=.fields ps}|.met f x=>h.get? a=Za (W.methodObj (.ref f)<|.ref x)|.ext φ=>φ h/\(∃o,h.get? a=Za o)/\∀h1 h2:Zaw,φ h1->(∀o,h1.get? a=Za o->h2.get? a=Za o)->φ h2
def HOk(H:Hp)(h:Zaw):Prop:=∀a o,H a=Za o->JG P w H h a o
end
section
variable{P:ZD}{w:ZV}{H H':Hp}{h h':Zaw}{a:Zo}{o:HO}
theorem JG.lt(x:JG P w H h a o):a<h.objs.size:=by cases o with|lst xs=>obtain⟨_,_,_,_,e⟩:=x;exact Z0 e|tup xs=>obtain⟨_,_,_,p⟩:=x;exact p.lt|dK kvs=>obtain⟨_,_,_,_,o,_,_,e,_⟩:=x;exact Z0 e|dT kvs=>obtain⟨_,_,_,_,o,_,_,e,_⟩:=x;exact Z0 e|set S n=>obtain⟨o,_,_,_,e,_⟩:=x;exact Z0 e|ins C dx fs=>obtain⟨_,_,_,e,_⟩:=x;exact Z0 e|own y=>obtain⟨_,e⟩:=x;exact Z0 e|xd fs=>obtain⟨_,⟨_,_,_,e,_⟩,_⟩:=x;exact Z0 e|rng lo hi=>obtain⟨_,_,_,e⟩:=x;exact Z0 e|frz ob u=>obtain⟨e,_⟩:=x;exact Z0 e|tbl ps=>exact Z0<|show h.get? a=Za _ from x|met f y=>exact Z0<|show h.get? a=Za _ from x|ext φ=>obtain⟨_,⟨_,e⟩,_⟩:=x;exact Z0 e
theorem Paired.mapP{α β:Type}{F G:α->β->Prop}:∀{l₁:List α}{l₂:List β},Paired F l₁ l₂->(∀a b,F a b->G a b)->Paired G l₁ l₂|_,_,.nil,_=>.nil|_,_,.cons r t,f=>.cons (f _ _ r)<|Paired.mapP t f
theorem JG.stay(x:JG P w H h a o)(k:∀b u,(b=a∨H b=Za (.own a))->h.get? b=Za u->h'.get? b=Za u) (ho:∀b,H b=Za (.own a)->H' b=Za (.own a))(ht:∀b xs,H b=Za (.tup xs)->H' b=Za (.tup xs)):JG P w H' h' a o:=by induction o with|lst xs=>obtain⟨z,its,n,r,e⟩:=x;exact#[z,its,n,r,k _ _ (.inl rfl) e]|tup xs=>obtain⟨z,its,r,ob,e,c⟩:=x;exact#[z,its,r,ob,k _ _ (.inl rfl) e,c]|dK kvs=>obtain⟨z,y,vs,r,ob,es,ep,e,c⟩:=x;exact#[z,y,vs,r,ob,es,ep,k _ _ (.inl rfl) e,c]|dT kvs=>obtain⟨z,y,xs,r,ob,es,ep,e,c⟩:=x;exact#[z,y,xs,Paired.mapP r λp q z=>#[z.1,ht _ _ z.2.1,z.2.2],ob,es,ep,k _ _ (.inl rfl) e,c]|set S n=>obtain⟨ob,es,ep,t,e,c⟩:=x;exact#[ob,es,ep,t,k _ _ (.inl rfl) e,c]|ins C dx fs=>obtain⟨d,z,ne,e,mA,⟨od,es,ep,e2,c⟩,r⟩:=x;exact#[ho _ d,z,ne,k _ _ (.inl rfl) e,mA,#[od,es,ep,k _ _ (.inr d) e2,c],r]|own y=>obtain⟨ob,e⟩:=x;exact#[ob,k _ _ (.inl rfl) e]|xd fs=>obtain⟨mA,⟨od,es,ep,e,c⟩,r⟩:=x;exact#[mA,#[od,es,ep,k _ _ (.inl rfl) e,c],r]|rng lo hi=>obtain⟨t,u,v,e⟩:=x;exact#[t,u,v,k _ _ (.inl rfl) e]|frz ob u ih=>obtain⟨e,q⟩:=x;exact#[k _ _ (.inl rfl) e,ih q]|tbl ps=>have e:h.get? a=Za {cls:=.none,data:=.fields ps}:=x;show h'.get? a=Za {cls:=.none,data:=.fields ps};exact k a _ (.inl rfl) e|met f y=>have e:h.get? a=Za (W.methodObj (.ref f)<|.ref y):=x;show h'.get? a=Za (W.methodObj (.ref f)<|.ref y);exact k a _ (.inl rfl) e|ext φ=>obtain⟨p,⟨o,e⟩,st⟩:=x;exact#[st _ _ p λo q=>k _ _ (.inl rfl) q,#[o,k _ _ (.inl rfl) e],st]
theorem HOk.lt(x:HOk P w H h)(e:H a=Za o):a<h.objs.size:=(x a o e).lt
theorem HOk.fresh(x:HOk P w H h)(e:h.objs.size<=a):H a=Zd:=by cases q:H a with|none=>rfl|some u=>exact absurd (Z4 (x.lt q) e)<|ZcD _
theorem HOk.kept(x:HOk P w H h)(k:∀b u,h.get? b=Za u->h'.get? b=Za u):HOk P w H h':=λa o e=>
 (x a o e).stay (λb u _ q=>k b u q) (λ_ q=>q) λ_ _ q=>q
theorem HOk.laid(x:HOk P w H h)(k:∀b u,h.get? b=Za u->h'.get? b=Za u)(hp:h.objs.size<=a)(new:JG P w (upd H a o) h' a o):HOk P w (upd H a o) h':=λb u e=>by
 have hn:=x.fresh hp;by_cases hb:b=a
 ·subst hb;rw[Jz]at e;cases e;exact new
 ·rw[Jn hb]at e;exact(x b u e).stay (λc v _ q=>k c v q) (λc q=>by rw[Jn<|QX q hn];exact q) λc xs q=>by rw[Jn<|QX q hn];exact q
end
def Rd(H:Hp)(a:Zo)(u:HO):Prop:=H a=Za u∨∃o,H a=Za (.frz o u)
theorem Rd.of{H:Hp}{a:Zo}{u:HO}(h:H a=Za u):Rd H a u:=.inl h
theorem Rd.ok{P:ZD}{w:ZV}{H:Hp}{h:Zaw}{a:Zo}{u:HO}(r:Rd H a u)(x:HOk P w H h):JG P w H h a u:=by
 rcases r with r|⟨o,r⟩
 ·exact x a u r
 ·obtain⟨_,q⟩:=x a _ r;exact q
def Mut:Option HO->Prop|some (.lst _)=>True|some (.dK _)=>True|some (.dT _)=>True|some (.set _ _)=>True|some (.ins _ _ _)=>True|some (.ext _)=>True|_=>False
section
variable{P:ZD}{w:ZV}{H:Hp}{h h':Zaw}{x e:Zo}{o':HO}
theorem HOk.write(ok:HOk P w H h)(mu:Mut<|H x)(he:e=x∨H e=Za (.own x))(k:∀b u,b≠e->h.get? b=Za u->h'.get? b=Za u)(heo:∃u,h'.get? e=Za u)
  (new:JG P w (upd H x o') h' x o'):HOk P w (upd H x o') h':=λb u q=>by
 have nown:∀c y,H c=Za (.own y)->c≠x:=λc y r z=>by subst z;rw[r]at mu;exact mu
 have ntup:∀c xs,H c=Za (.tup xs)->c≠x:=λc xs r z=>by subst z;rw[r]at mu;exact mu
 by_cases hb:b=x
 ·subst hb;rw[Jz]at q;cases q;exact new
 ·rw[Jn hb]at q;by_cases hbe:b=e
  ·have q':H b=Za (.own x):=by
    rcases he with z|z
    ·exact absurd (hbe.trans z) hb
    ·rw[hbe];exact z
   rw[q]at q';cases q';obtain⟨v,hv⟩:=heo;exact#[v,by rw[hbe];exact hv]
  ·refine(ok b u q).stay (λc v hc r=>k c v ?_ r) (λc r=>by rw[Jn<|nown c b r];exact r) λc xs r=>by rw[Jn<|ntup c xs r];exact r
   rcases hc with rfl|hc
   ·exact hbe
   ·rintro rfl;rcases he with z|z
    ·exact nown c b hc z
    ·rw[hc]at z;cases z;exact hb rfl
end
structure Un(fs ex:Tw)(H H':Hp)(h h':Zaw):Prop where
 keep:∀b o,h.get? b=Za o->H b=Zd->b∉fs->b∉ex->h'.get? b=Za o
 slot:∀b o,h.get? b=Za o->H b=Zd->b∈fs->b∉ex->∃sl,h'.get? b=Za {o with slots:=sl}
 free:∀b o,h.get? b=Za o->H b=Zd->b∉ex->H' b=Zd
 there:∀b o,h.get? b=Za o->b∉ex->∃o',h'.get? b=Za o'
 tups:∀b xs,H b=Za (.tup xs)->H' b=Za (.tup xs)
 frzs:∀b o u,H b=Za (.frz o u)->H' b=Za (.frz o u)
 tbls:∀b ps,H b=Za (.tbl ps)->∃more,H' b=Za (.tbl<|ps++more)
section
variable{fs fs' ex ex':Tw}{H H1 H2:Hp}{h h1 h2 h':Zaw}{a x e:Zo}{o:HO}
theorem Un.any(u:Un fs ex H H1 h h1){b:Zo}{ob:Obj}(q:h.get? b=Za ob)(n:H b=Zd)(hx:b∉ex):∃sl,h1.get? b=Za {ob with slots:=sl}:=by
 by_cases hb:b∈fs
 ·exact u.slot b ob q n hb hx
 ·exact#[ob.slots,u.keep b ob q n hb hx]
theorem Un.kept(k:∀b u,h.get? b=Za u->h'.get? b=Za u):Un fs ex H H h h':=#[λb ob q _ _ _=>k b ob q,λb ob q _ _ _=>#[ob.slots,k b ob q],λ_ _ _ n _=>n,λb ob q _=>#[ob,k b ob q],λ_ _ q=>q,λ_ _ _ q=>q,λ_ ps q=>#[#[],by rw[q];simp]]
theorem Un.refl:Un fs ex H H h h:=Un.kept λ_ _ q=>q
theorem Un.laid(k:∀b u,h.get? b=Za u->h'.get? b=Za u)(hp:h.objs.size<=a)(hn:H a=Zd):Un fs ex H (upd H a o) h h' where
 keep:=λb u q _ _ _=>k b u q
 slot:=λb u q _ _ _=>#[u.slots,k b u q]
 free:=λb u q n _=>by rw[Jn<|Z5<|Z4 (Z0 q) hp];exact n
 there:=λb u q _=>#[u,k b u q]
 tups:=λb xs q=>by rw[Jn<|QX q hn];exact q
 frzs:=λb u xs q=>by rw[Jn<|QX q hn];exact q
 tbls:=λb ps q=>#[#[],by rw[Jn<|QX q hn,q];simp]
theorem Un.write(mu:Mut<|H x)(he:e=x∨H e=Za (.own x))(k:∀b u,b≠e->h.get? b=Za u->h'.get? b=Za u)(heo:∃u,h'.get? e=Za u):Un fs ex H (upd H x o) h h':=by
 have hx:∀b,H b=Zd->b≠x:=λb n z=>by subst z;rw[n]at mu;exact mu
 have hb:∀b,H b=Zd->b≠e:=λb n z=>by
  subst z;rcases he with r|r
  ·exact hx b n r
  ·rw[n]at r;cases r
 have hm:∀b u,H b=Za u->¬Mut (Za u)->b≠x:=λb u q nm z=>by subst z;rw[q]at mu;exact nm mu
 refine#[λb u q n _ _=>k b u (hb b n) q,λb u q n _ _=>#[u.slots,k b u (hb b n) q],λb u q n _=>by rw[Jn<|hx b n];exact n,λb u q _=>?_,λb xs q=>by rw[Jn<|hm b _ q λz=>z];exact q,λb u xs q=>by rw[Jn<|hm b _ q λz=>z];exact q,λb ps q=>#[#[],by rw[Jn<|hm b _ q λz=>z,q];simp]];by_cases hbe:b=e
 ·subst hbe;exact heo
 ·exact#[u,k b u hbe q]
end
noncomputable def trk (h:Zaw)(H:Hp):Tw:=(ZU h.objs.size).filter λa=>(H a).isSome
def hidT(h:Zaw)(H:Hp):Zaw:=W.hideAll h<|trk h H
theorem Jp7(h:Zaw)(H:Hp):(hidT h H).objs.size=h.objs.size:=W.hideAll_size _ _
theorem Jtd{h:Zaw}{H:Hp}{b:Zo}{o:Obj}(e:h.get? b=Za o)(n:H b=Zd):(hidT h H).get? b=Za o:=W.hideAll_get _ e λhm=>by have q:(H b).isSome=Zh:=(Zfh.mp hm).2;rw[n]at q;simp at q
theorem Jyb{h:Zaw}{H:Hp}{b:Zo}{o:Obj}(e:(hidT h H).get? b=Za o):h.get? b=Za o/\H b=Zd:=by have e':h.get? b=Za o:=W.of_hideAll (trk h H) e;refine#[e',?_];cases q:H b with|none=>rfl|some x=>have hm:b∈trk h H:=Zfh.mpr #[Za0.mpr<|Z0 e',by simp[q]];have z:(hidT h H).get? b=Zd:=W.hideAll_none (trk h H) hm;rw[z]at e;cases e
structure Mod(K:W.Frag)(mg:Str->Wz)(base:Zaw):Prop where
 kin:K.In base
 glob:base.Ns Zu mg
 blt:∃mb,base.Ns Zdm mb/\∀x:Str,x≠"__name__"->mb x=ZbO x
 nolimit:base.NoLimit
set_option genInjectivity false in
structure Cx where
 prog:ZD
 w:ZV
 K:W.Frag
 mg:Str->Wz
 base:Zaw
 A:ZH
 N:Tk
 s₀:Zk
 H₀:Hp
 env:Env
 outer:Tl
 stack:Tl
 ex:Tw
 fn:Str->Bool
 calm:Bool
 pn:PnT
 xe:QvT
noncomputable def frs (l:Tl):Tw:=l.filterMap (·.frame)
abbrev Cx.fs(X:Cx):Tw:=frs X.outer
def Vis(sc:ZbF)(x:Str):Prop:=sc.names.lookup x=Za .local∨sc.names.lookup x=Za .cell∨sc.names.lookup x=Za .free
def Loc(sc:ZbF)(x:Str):Prop:=sc.names.lookup x=Za .local∨sc.names.lookup x=Za .cell
def Look(env:Env)(h:Zaw)(m:Str->Wz)(x:Str)(u:Zg):Prop:=(env.kindOf x=Za .local/\m x=Za u)∨((env.kindOf x=Za .cell∨env.kindOf x=Za .free)/\∃c,env.cells.lookup x=Za c/\h.IsCell c (Za u))
structure Cx.Ok(X:Cx):Prop where
 mod:Mod X.K X.mg X.base
 kind:X.env.scope.kind=.function
 glob:X.env.globals=Zu
 blt:X.env.builtins=Zdm
 above:X.s₀.heap.objs.size<=X.env.locals
 inj:∀x y c,X.env.cells.lookup x=Za c->X.env.cells.lookup y=Za c->x=y
 has:∀x,(X.env.kindOf x=Za .cell∨X.env.kindOf x=Za .free)->∃c,X.env.cells.lookup x=Za c
 cab:∀x c,X.fn x=Zh->X.env.cells.lookup x=Za c->X.s₀.heap.objs.size<=c
 hd:X.calm=Zh->X.A.handled=Zd
 frames:X.A.frames=Za X.stack
 stk:X.stack=X.outer∨(X.stack=X.env::X.outer/\X.env.frame=Za X.env.locals)
 exf:∀b∈X.ex,b≠X.env.locals/\∀x c,X.env.cells.lookup x=Za c->c≠b
 bs:∀b o,X.base.get? b=Za o->X.s₀.heap.get? b=Za o/\X.H₀ b=Zd
 bsz:X.base.objs.size<=X.s₀.heap.objs.size
 noex:∀b o,X.base.get? b=Za o->b∉X.ex
 exfs:∀b∈X.ex,b∉X.fs
 funs:X.s₀.heap.FunFrames X.base X.outer
 frf:∀b∈X.fs,X.H₀ b=Zd
structure Inv(X:Cx)(pj:PnT)(σ:Wd)(H:Hp)(s:Zk):Prop where
 ok:X.Ok
 os:s.os=X.s₀.os
 bare:Zea s.gens
 base:Un X.fs X.ex X.H₀ H X.s₀.heap s.heap
 loc:∃m,s.heap.Ns X.env.locals m/\∀(i:Nat)(x:Str)(v:V),X.N[i]?=Za x->σ[i]?=Za (Za v)->Vis X.env.scope x->∃u,RelV v u/\Look X.env s.heap m x u
 cell:∀x c,X.env.cells.lookup x=Za c->∃v,s.heap.IsCell c v
 free:H X.env.locals=Zd
 freeC:∀x c,X.env.cells.lookup x=Za c->H c=Zd
 pin:∀p∈X.pn++pj,s.heap.get? p.1=Za p.2/\H p.1=Zd/\p.1≠X.env.locals/\p.1∉X.fs/\∀v,p.2.data≠.cell v
 hok:HOk X.prog X.w H s.heap
 len:σ.length=X.N.length
section
variable{X:Cx}{pj:PnT}{σ:Wd}{H H':Hp}{s:Zk}{h':Zaw}
theorem Cx.Ok.nofr(ok:X.Ok){b:Zo}{o:Obj}(e:X.base.get? b=Za o):b∉X.fs:=λhb=>by have:=(ok.funs.mem hb).1;rw[e]at this;cases this
theorem Inv.bs(I:Inv X pj σ H s):∀b o,X.base.get? b=Za o->s.heap.get? b=Za o/\H b=Zd:=λb o e=>
 #[I.base.keep b o (I.ok.bs b o e).1 (I.ok.bs b o e).2 (I.ok.nofr e) (I.ok.noex b o e),I.base.free b o (I.ok.bs b o e).1 (I.ok.bs b o e).2 (I.ok.noex b o e)]
theorem Inv.bk(I:Inv X pj σ H s):∀b o,X.base.get? b=Za o->s.heap.get? b=Za o:=λb o e=>(I.bs b o e).1
theorem Inv.mod(I:Inv X pj σ H s):Mod X.K X.mg X.base:=I.ok.mod
theorem Inv.kIn(I:Inv X pj σ H s):X.K.In s.heap:=I.ok.mod.kin.keeps I.bk
theorem Inv.lt(I:Inv X pj σ H s):X.env.locals<s.heap.objs.size:=let ⟨_,hn,_⟩:=I.loc;hn.lt
theorem Inv.sz(I:Inv X pj σ H s):X.s₀.heap.objs.size<=s.heap.objs.size:=ZC I.ok.above<|Zaa I.lt
theorem Inv.nofs(I:Inv X pj σ H s){a:Zo}(h:s.heap.objs.size<=a):a∉X.fs:=λhb=>by obtain⟨_,o,ho,_⟩:=I.ok.funs.mem hb;exact absurd (Z4 (Z0 ho)<|ZC I.sz h)<|ZcD _
theorem Inv.cne(I:Inv X pj σ H s):∀x c,X.env.cells.lookup x=Za c->c≠X.env.locals:=λx c e z=>by obtain⟨v,o,ho,hd⟩:=I.cell x c e;obtain⟨m,⟨o',es,ep,ho',hd',_⟩,_⟩:=I.loc;rw[z,ho']at ho;cases ho;rw[hd']at hd;cases hd
theorem Inv.funs(I:Inv X pj σ H s):s.heap.FunFrames X.base X.outer:=by
 have all:∀(l:Tl),(∀b∈frs l,b∈X.fs)->X.s₀.heap.FunFrames X.base l->s.heap.FunFrames X.base l:=by
  intro l;induction l with|nil=>intro _ _;trivial|cons env r ih=>
   intro hs hl;obtain⟨hk,⟨L,o,hf,hn,ho,hd⟩,hr⟩:=hl;have hL:L∈X.fs:=hs L<|by unfold frs;rw[ZdX,hf];exact Z2
   obtain⟨sl,e⟩:=I.base.slot L o ho (I.ok.frf L hL) hL λz=>I.ok.exfs L z hL
   exact#[hk,#[L,_,hf,hn,e,hd],ih (λb hb=>hs b<|by unfold frs;rw[ZdX,hf];exact Zl _ hb) hr]
 exact all X.outer (λ_ hb=>hb) I.ok.funs
theorem Inv.stack(I:Inv X pj σ H s):s.heap.FunFrames X.base X.stack:=by
 rcases I.ok.stk with e|⟨e,hf⟩
 ·rw[e];exact I.funs
 ·rw[e];obtain⟨m,hn,_⟩:=I.loc;refine .cons (by rw[I.ok.kind];decide) hf hn ?_ I.funs;exact Heap.get?_none_of_le<|ZC I.ok.bsz I.ok.above
theorem Inv.stkSub(I:Inv X pj σ H s):∀b∈frs X.stack,b∈X.env.locals::X.fs:=λb hb=>by
 rcases I.ok.stk with e|⟨e,hf⟩
 ·rw[e]at hb;exact Zl _ hb
 ·rw[e]at hb;unfold frs at hb;rw[ZdX,hf]at hb;exact hb
theorem Inv.stkFree(I:Inv X pj σ H s):∀b∈frs X.stack,H b=Zd:=λb hb=>by
 rcases ZB.mp (I.stkSub b hb)with e|hb
 ·rw[e];exact I.free
 ·obtain⟨_,o,ho,_⟩:=I.ok.funs.mem hb;exact I.base.free b o ho (I.ok.frf b hb) λz=>I.ok.exfs b z hb
theorem Inv.step{g':Ta}{t':Nat}{d':Drawn}{ch:Tw}(I:Inv X pj σ H s)
  (hch:∀b∈ch,(b∈X.ex∨X.s₀.heap.objs.size<=b)/\b≠X.env.locals/\(∀x c,X.env.cells.lookup x=Za c->c≠b)/\∀p∈X.pn++pj,p.1≠b)
  (keep:∀b o,b≠X.env.locals->b∉X.fs->b∉ch->s.heap.get? b=Za o->H b=Zd->h'.get? b=Za o)
  (slot:∀b o,b≠X.env.locals->b∈X.fs->b∉ch->s.heap.get? b=Za o->H b=Zd->∃sl,h'.get? b=Za {o with slots:=sl})(free:∀b o,b∉ch->s.heap.get? b=Za o->H b=Zd->H' b=Zd)
  (there:∀b o,b∉ch->s.heap.get? b=Za o->∃o',h'.get? b=Za o')
  (tups:∀b xs,H b=Za (.tup xs)->H' b=Za (.tup xs))(frzs:∀b o u,H b=Za (.frz o u)->H' b=Za (.frz o u))(tbls:∀b ps,H b=Za (.tbl ps)->∃more,H' b=Za (.tbl<|ps++more))
  (ns:∀m,s.heap.Ns X.env.locals m->h'.Ns X.env.locals m)(hok:HOk X.prog X.w H' h')(hg:Zea g'):
  Inv X pj σ H' {s with heap:=h',gens:=g',drawn:=d',toks:=t'}:=by
 have neL:∀b o,X.s₀.heap.get? b=Za o->b≠X.env.locals:=λb o e=>Z5<|Z4 (Z0 e) I.ok.above
 have neC:∀b o,X.s₀.heap.get? b=Za o->b∉X.ex->b∉ch:=λb o e hx hb=>by
  rcases(hch b hb).1 with z|z
  ·exact hx z
  ·exact absurd (Z4 (Z0 e) z)<|ZcD _
 have cellK:∀x c,X.env.cells.lookup x=Za c->∀v,s.heap.IsCell c v->h'.IsCell c v:=λx c e v ⟨o,ho,hd⟩=>by
  have nch:c∉ch:=λz=>(hch c z).2.2.1 x c e rfl
  by_cases hc:c∈X.fs
  ·obtain⟨sl,q⟩:=slot c o (I.cne x c e) hc nch ho<|I.freeC x c e;exact#[_,q,hd]
  ·exact#[o,keep c o (I.cne x c e) hc nch ho<|I.freeC x c e,hd]
 refine#[I.ok,I.os,hg,#[λb o e n hb hx=>?_,λb o e n hb hx=>?_,λb o e n hx=>?_,λb o e hx=>?_,λb xs e=>tups b xs<|I.base.tups b xs e,λb o xs e=>frzs b o xs<|I.base.frzs b o xs e,λb ps e=>?_],?_,λx c e=>?_,?_,λx c e=>?_,λp hp=>?_,hok,I.len]
 ·exact keep b o (neL b o e) hb (neC b o e hx) (I.base.keep b o e n hb hx)<|I.base.free b o e n hx
 ·obtain⟨sl,e1⟩:=I.base.slot b o e n hb hx;obtain⟨sl',e2⟩:=slot b _ (neL b o e) hb (neC b o e hx) e1<|I.base.free b o e n hx;exact#[sl',e2]
 ·obtain⟨o',e1⟩:=I.base.there b o e hx;exact free b o' (neC b o e hx) e1<|I.base.free b o e n hx
 ·obtain⟨o',e1⟩:=I.base.there b o e hx;exact there b o' (neC b o e hx) e1
 ·obtain⟨m1,e1⟩:=I.base.tbls b ps e;obtain⟨m2,e2⟩:=tbls b _ e1;exact#[m1++m2,by rw[e2,Array.append_assoc]]
 ·obtain⟨m,hn,hl⟩:=I.loc;refine#[m,ns m hn,λi x v e1 e2 e3=>?_];obtain⟨u,r,l⟩:=hl i x v e1 e2 e3;refine#[u,r,?_];rcases l with l|⟨k,c,e,z⟩
  ·exact .inl l
  ·exact .inr #[k,c,e,cellK x c e _ z]
 ·obtain⟨v,z⟩:=I.cell x c e;exact#[v,cellK x c e v z]
 ·obtain⟨m,⟨o,_,_,ho,_⟩,_⟩:=I.loc;exact free _ o (λz=>(hch _ z).2.1 rfl) ho I.free
 ·obtain⟨v,o,ho,hd⟩:=I.cell x c e;exact free c o (λz=>(hch c z).2.2.1 x c e rfl) ho<|I.freeC x c e
 ·obtain⟨e,n,ne,nf,d⟩:=I.pin p hp;have nch:p.1∉ch:=λz=>(hch p.1 z).2.2.2 p hp rfl
  exact#[keep p.1 p.2 ne nf nch e n,free p.1 p.2 nch e n,ne,nf,d]
theorem Inv.un{t':Nat}(I:Inv X pj σ H s)(u:Un X.fs [] H H' s.heap h')(hok:HOk X.prog X.w H' h'):Inv X pj σ H' {s with heap:=h',toks:=t'}:=by obtain⟨m,⟨o,es,ep,ho,r⟩,_⟩:=id I.loc;obtain⟨sl,hL⟩:=u.any ho I.free 03;exact I.step (g':=s.gens) (d':=s.drawn) (ch:=[]) (λ_ z=>nomatch z) (λb o _ hb _ e n=>u.keep b o e n hb 03) (λb o _ hb _ e n=>u.slot b o e n hb 03) (λb o _ e n=>u.free b o e n 03) (λb o _ e=>u.there b o e 03) u.tups u.frzs u.tbls (λm' hm=>by obtain⟨o',es',ep',ho',r'⟩:=hm;rw[ho]at ho';cases ho';exact#[_,es',ep',hL,r']) hok I.bare
theorem Inv.call{g':Ta}{t':Nat}{d':Drawn}{ch:Tw}(I:Inv X pj σ H s)(u:Un (frs X.stack) ch H H' s.heap h')(hok:HOk X.prog X.w H' h')(hg:Zea g') (hch:∀b∈ch,(b∈X.ex∨X.s₀.heap.objs.size<=b)/\b≠X.env.locals/\(∀x c,X.env.cells.lookup x=Za c->c≠b)/\∀p∈X.pn++pj,p.1≠b):Inv X pj σ H' {s with heap:=h',gens:=g',drawn:=d',toks:=t'}:=by
 obtain⟨m,⟨o,es,ep,ho,r⟩,_⟩:=id I.loc;obtain⟨sl,hL⟩:=u.any ho I.free λz=>(hch _ z).2.1 rfl
 exact I.step (ch:=ch) hch (λb o hL hb hc e n=>u.keep b o e n (λz=>(ZB.mp<|I.stkSub b z).elim hL hb) hc) (λb o _ _ hc e n=>u.any e n hc) (λb o hc e n=>u.free b o e n hc) (λb o hc e=>u.there b o e hc) u.tups u.frzs u.tbls (λm' hm=>by obtain⟨o',es',ep',ho',r'⟩:=hm;rw[ho]at ho';cases ho';exact#[_,es',ep',hL,r']) hok hg
theorem Inv.turned{t':Nat}{it:Zo}(I:Inv X pj σ H s)(k:∀b o,b≠it->s.heap.get? b=Za o->h'.get? b=Za o)(hn:H it=Zd)(hL:it≠X.env.locals)
  (h1:it∈X.ex∨X.s₀.heap.objs.size<=it)(h2:∀x c,X.env.cells.lookup x=Za c->c≠it)(h3:∀p∈X.pn++pj,p.1≠it):Inv X pj σ H {s with heap:=h',toks:=t'}:=by
 have nit:∀b u,H b=Za u->b≠it:=λb u e z=>by rw[z,hn]at e;cases e
 refine I.step (g':=s.gens) (d':=s.drawn) (ch:=[it]) (λb hb=>?_) (λb o _ _ hc e _=>k b o (λz=>hc<|by simp[z]) e) (λb o _ _ hc e _=>#[o.slots,k b o (λz=>hc<|by simp[z]) e]) (λ_ _ _ _ n=>n)
  (λb o hc e=>#[o,k b o (λz=>hc<|by simp[z]) e]) (λ_ _ e=>e) (λ_ _ _ e=>e) (λb ps e=>#[#[],by rw[e];simp]) (λm hm=>?_) (λb u e=>?_) I.bare
 ·have e:b=it:=by simpa using hb
  subst e;exact#[h1,hL,h2,h3]
 ·obtain⟨o,es,ep,ho,r⟩:=hm;exact#[o,es,ep,k _ o (ZP hL) ho,r]
 ·refine(I.hok b u e).stay (λc v hc q=>k c v ?_ q) (λ_ q=>q) λ_ _ q=>q
  rcases hc with z|z
  ·rw[z];exact nit b u e
  ·exact nit c _ z
theorem Inv.tok(I:Inv X pj σ H s)(t:Nat):Inv X pj σ H {s with toks:=t}:=I.un (h':=s.heap) (t':=t) Un.refl I.hok
theorem Inv.kept{t':Nat}(I:Inv X pj σ H s)(k:∀b u,s.heap.get? b=Za u->h'.get? b=Za u):Inv X pj σ H {s with heap:=h',toks:=t'}:=I.un (Un.kept k)<|I.hok.kept k
theorem Inv.laid{a:Zo}{o:HO}{t':Nat}(I:Inv X pj σ H s)(k:∀b u,s.heap.get? b=Za u->h'.get? b=Za u)(hp:s.heap.objs.size<=a)(new:JG X.prog X.w (upd H a o) h' a o):Inv X pj σ (upd H a o) {s with heap:=h',toks:=t'}:=I.un (Un.laid k hp<|I.hok.fresh hp)<|I.hok.laid k hp new
theorem Inv.write{x e:Zo}{o:HO}{t':Nat}(I:Inv X pj σ H s)(mu:Mut<|H x)(he:e=x∨H e=Za (.own x))(k:∀b u,b≠e->s.heap.get? b=Za u->h'.get? b=Za u)(heo:∃u,h'.get? e=Za u) (new:JG X.prog X.w (upd H x o) h' x o):Inv X pj σ (upd H x o) {s with heap:=h',toks:=t'}:=I.un (Un.write mu he k heo)<|I.hok.write mu he k heo new
theorem Inv.pins_of{pj':PnT}(I:Inv X pj σ H s)(h:∀p∈pj',s.heap.get? p.1=Za p.2/\H p.1=Zd/\p.1≠X.env.locals/\p.1∉X.fs/\∀v,p.2.data≠.cell v):Inv X pj' σ H s:=#[I.ok,I.os,I.bare,I.base,I.loc,I.cell,I.free,I.freeC,λp hp=>(ZK.mp hp).elim (λz=>I.pin p<|ZW _ z)<|h p,I.hok,I.len]
theorem Jia{N:Tk}(hN:N.Nodup){i j:Nat}{x:Str}(a:N[i]?=Za x)(b:N[j]?=Za x):i=j:=by obtain⟨h1,e1⟩:=Zs.mp a;obtain⟨h2,e2⟩:=Zs.mp b;exact(ZeD hN).mp<|e1.trans e2.symm
theorem Jrs{M:Model}{A:ZH}{E:QvT}{i:Nat}{x:Str}{v:V}{u:Zg}{Q:Unit->Zk->Prop}(I:Inv X pj σ H s)(hN:X.N.Nodup)(hi:X.N[i]?=Za x)(hx:Loc X.env.scope x)(r:RelV v u)
  (h:∀s',Inv X pj (σ.set i<|Za v) H s'->(∃a,ZbB a s.heap s'.heap/\(a=X.env.locals∨X.env.cells.lookup x=Za a))->Q () s')(hf:X.fn x=Zh∨X.env.scope.names.lookup x=Za .local:=by assumption):Zt M A (storeName X.env x u) Q E s:=by
 obtain⟨m,hn,hl⟩:=id I.loc;have hcls:(X.env.scope.kind==.class||(X.env.scope.kind==.module&&X.env.locals != X.env.globals))=Zj:=by rw[I.ok.kind];rfl
 have hiσ:i<σ.length:=by rw[I.len];exact(Zs.mp hi).1
 have cne:=I.cne;have tracked:∀{a:Zo}{h':Zaw},(∃o,s.heap.get? a=Za o/\H a=Zd)->ZbB a s.heap h'->HOk X.prog X.w H h':=λ{a h'} ha hs b ob e=>by
  obtain⟨_,_,hfree⟩:=ha;refine(I.hok b ob e).stay (λc w' hc q=>(hs.2 c ?_).trans q) (λ_ q=>q) λ_ _ q=>q
  rintro rfl;rcases hc with rfl|hc
  ·rw[hfree]at e;cases e
  ·rw[hfree]at hc;cases hc
 rcases hx with hk|hk
 ·refine wpAny_storeName_local hk hn (λh' hn' hs=>?_) hcls;obtain⟨oL,_,_,hoL,_⟩:=id hn;refine h _ #[I.ok,I.os,I.bare,#[λb o e n hb hx=>?_,λb o e n hb hx=>?_,I.base.free,λb o e hx=>?_,I.base.tups,I.base.frzs,I.base.tbls],#[_,hn',λj y v' e1 e2 e3=>?_],λy c e=>?_,I.free,I.freeC,λp hp=>?_,tracked #[oL,hoL,I.free] hs,by simpa using I.len] #[_,hs,.inl rfl]
  ·exact(hs.2 b<|Z5<|Z4 (Z0 e) I.ok.above).trans<|I.base.keep b o e n hb hx
  ·obtain⟨sl,e1⟩:=I.base.slot b o e n hb hx;exact#[sl,(hs.2 b<|Z5<|Z4 (Z0 e) I.ok.above).trans e1]
  ·obtain⟨o',e1⟩:=I.base.there b o e hx;exact#[o',(hs.2 b<|Z5<|Z4 (Z0 e) I.ok.above).trans e1]
  ·by_cases hj:j=i
   ·subst hj;rw[hi]at e1;cases e1;rw[ZO hiσ]at e2;cases e2;exact#[u,r,.inl #[hk,03]]
   ·rw[ZX<|ZP hj]at e2;obtain⟨u',r',q⟩:=hl j y v' e1 e2 e3;refine#[u',r',?_];rcases q with⟨k,e⟩|⟨k,c,e,z⟩
    ·refine .inl #[k,?_];have:y≠x:=λe=>hj<|Jia hN e1<|e▸hi
     simp[this,e]
    ·exact .inr #[k,c,e,z.sameBut hs<|cne y c e]
  ·obtain⟨w',z⟩:=I.cell y c e;exact#[w',z.sameBut hs<|cne y c e]
  ·obtain⟨e,n,ne,nf,d⟩:=I.pin p hp;exact#[(hs.2 p.1 ne).trans e,n,ne,nf,d]
 ·have hfn:X.fn x=Zh:=by
   rcases hf with z|z
   ·exact z
   ·rw[z]at hk;cases hk
  obtain⟨c,hc⟩:=I.ok.has x<|.inl hk;obtain⟨w',z⟩:=I.cell x c hc;refine wpAny_storeName_cell I.ok.kind hk hc z λh' hc' hs=>?_
  obtain⟨oc,hoc,hocd⟩:=id z;refine h {s with heap:=h'} #[I.ok,I.os,I.bare,#[λb o e n hb hx=>?_,λb o e n hb hx=>?_,I.base.free,λb o e hx=>?_,I.base.tups,I.base.frzs,I.base.tbls],#[m,hn.sameBut hs<|ZP<|cne x c hc,λj y v' e1 e2 e3=>?_],λy c' e=>?_,I.free,I.freeC,λp hp=>?_,tracked #[oc,hoc,I.freeC x c hc] hs,by simpa using I.len] #[c,hs,.inr hc]
  ·exact(hs.2 b<|Z5<|Z4 (Z0 e)<|I.ok.cab x c hfn hc).trans<|I.base.keep b o e n hb hx
  ·obtain⟨sl,e1⟩:=I.base.slot b o e n hb hx;exact#[sl,(hs.2 b<|Z5<|Z4 (Z0 e)<|I.ok.cab x c hfn hc).trans e1]
  ·obtain⟨o',e1⟩:=I.base.there b o e hx;exact#[o',(hs.2 b<|Z5<|Z4 (Z0 e)<|I.ok.cab x c hfn hc).trans e1]
  ·by_cases hj:j=i
   ·subst hj;rw[hi]at e1;cases e1;rw[ZO hiσ]at e2;cases e2;exact#[u,r,.inr #[.inl hk,c,hc,hc']]
   ·rw[ZX<|ZP hj]at e2;obtain⟨u',r',q⟩:=hl j y v' e1 e2 e3;refine#[u',r',?_];rcases q with q|⟨k,c',e,z'⟩
    ·exact .inl q
    ·refine .inr #[k,c',e,z'.sameBut hs ?_];rintro rfl;exact hj<|Jia hN e1<|I.ok.inj _ _ _ e hc▸hi
  ·by_cases hcc:c'=c
   ·subst hcc;exact#[_,hc']
   ·obtain⟨w2,z2⟩:=I.cell y c' e;exact#[w2,z2.sameBut hs hcc]
  ·obtain⟨e,n,ne,nf,d⟩:=I.pin p hp;refine#[(hs.2 p.1 ?_).trans e,n,ne,nf,d];intro q;rw[q,hoc]at e;have q':oc=p.2:=Zam e;exact d w'<|by rw[<-q'];exact hocd
theorem Yu{M:Model}{A:ZH}{E:QvT}{i:Nat}{x:Str}{v:V}{u:Zg}{Q:Unit->Zk->Prop}(I:Inv X pj σ H s)(hN:X.N.Nodup)(hi:X.N[i]?=Za x)(hx:Loc X.env.scope x)(r:RelV v u) (h:∀s',Inv X pj (σ.set i<|Za v) H s'->Q () s')(hf:X.fn x=Zh∨X.env.scope.names.lookup x=Za .local:=by assumption):Zt M A (storeName X.env x u) Q E s:=Jrs I hN hi hx r (λs' I' _=>h s' I') hf
theorem Inv.call'{s':Zk}{ch:Tw}(I:Inv X pj σ H s)(ho:s'.os=s.os)(u:Un (frs X.stack) ch H H' s.heap s'.heap)(hok:HOk X.prog X.w H' s'.heap)(hg:Zea s'.gens) (hch:∀b∈ch,(b∈X.ex∨X.s₀.heap.objs.size<=b)/\b≠X.env.locals/\(∀x c,X.env.cells.lookup x=Za c->c≠b)/\∀p∈X.pn++pj,p.1≠b):Inv X pj σ H' s':=by obtain⟨h',g',d',t',o'⟩:=s';have e:o'=s.os:=ho;subst e;exact I.call (g':=g') (t':=t') (d':=d') u hok hg hch
end
abbrev XK:=Zg->Tc->Hp->Prop
abbrev St:=Wd
abbrev VK:=V->Hp->Prop
abbrev TE:=St->Hp->VK->Prop
abbrev TT:=St->Hp->(Bool->Hp->Prop)->Prop
abbrev TA:=St->Hp->(Ud->Hp->Prop)->Prop
structure Ends where
 nx:St->Hp->Prop
 rt:VK
 bk:St->Hp->Prop:=λ_ _=>False
 ct:St->Hp->Prop:=λ_ _=>False
abbrev TS:=Ends->St->Hp->Prop
def EP(X:Cx)(pj:PnT)(σ:St)(Q:VK)(u:Zg)(s':Zk):Prop:=∃v H',Inv X pj σ H' s'/\RelV v u/\Q v H'
def TP(X:Cx)(pj:PnT)(σ:St)(Q:Bool->Hp->Prop)(b:Bool)(s':Zk):Prop:=∃H',Inv X pj σ H' s'/\Q b H'
def SP(X:Cx)(pj:PnT)(D:Ends)(f:Flow)(s':Zk):Prop:=match f with|.next=>∃σ' H',Inv X pj σ' H' s'/\D.nx σ' H'|.brk=>∃σ' H',Inv X pj σ' H' s'/\D.bk σ' H'|.cont=>∃σ' H',Inv X pj σ' H' s'/\D.ct σ' H'|.ret u=>∃v σ' H',Inv X pj σ' H' s'/\RelV v u/\D.rt v H'
def PE(X:Cx)(e:Expr)(t:TE):Prop:=∀(pj:PnT)(s:Zk)(σ:St)(H:Hp)(Q:VK),Inv X pj σ H s->t σ H Q->Zt (Zz X.prog X.w) X.A (Zby e X.env) (EP X pj σ Q) X.xe s
def PSs(X:Cx)(st:Tn)(t:TS):Prop:=∀(pj:PnT)(s:Zk)(σ:St)(H:Hp)(D:Ends),Inv X pj σ H s->t D σ H->Zt (Zz X.prog X.w) X.A (execs st X.env) (SP X pj D) X.xe s
theorem thn{α:Type}{t:Sem α}{Q Q':α->Zk->Prop}{M:Model}{A:ZH}{E:QvT}{s:Zk}(h:Zt M A t Q E s)(hQ:∀a s,Q a s->Q' a s):Zt M A t Q' E s:=Zar h hQ λ_ _ x=>x
section
variable{X:Cx}
def tVar(i:Nat):TE:=λσ H Q=>∃v,σ[i]?=Za (Za v)/\Q v H
def tC(v:V):TE:=λ_ H Q=>Q v H
theorem J18{i:Nat}{x:Str}{pos:Pos}(hN:X.N[i]?=Za x)(hv:Vis X.env.scope x)(hd:(x==("__debug__":Str))=Zj:=by decide)(hcd:(x==("__classdict__":Str))=Zj:=by decide):PE X (.Name x pos) (tVar i):=by
 intro pj s σ H Q I h;obtain⟨v,e,h⟩:=h;obtain⟨m,hn,hl⟩:=I.loc;obtain⟨u,r,l⟩:=hl i x v hN e hv;have fin:EP X pj σ Q u s:=#[v,H,I,r,h];rcases l with⟨hk,hm⟩|⟨hk,c,hc,hcell⟩
 ·exact wpAny_Name (wpAny_loadName_local I.ok.kind hk hn hm fin) hd
 ·rcases hk with hk|hk
  ·exact wpAny_Name (wpAny_loadName_cell I.ok.kind hk hc hcell fin) hd
  ·exact wpAny_Name (wpAny_loadName_free I.ok.kind hk hc hcell fin hcd) hd
theorem J15{i j pos}:PE X (.Constant (.int i) j pos) (tC<|.int i):=λ_ _ _ H _ I h=>wpAny_Constant_int #[.int i,H,I.tok _,#[_,rfl],h]
theorem J4x{b j pos}:PE X (.Constant (.bool b) j pos) (tC<|.bl b):=λ_ _ _ H _ I h=>Constant_bool #[.bl b,H,I,rfl,h]
theorem J16{j pos}:PE X (.Constant .none j pos) (tC .non):=λ_ _ _ H _ I h=>Constant_none #[.non,H,I,rfl,h]
theorem J17{x j pos}:PE X (.Constant (.str x) j pos) (tC<|.str x):=λ_ _ _ H _ I h=>Calls.Constant_str #[.str x,H,I.tok _,#[_,rfl],h]
def Gl(X:Cx)(x:Str):Prop:=X.env.kindOf x=Za .globalImplicit
theorem V4{E:QvT}{pj:PnT}{s:Zk}{σ:St}{H:Hp}{x:Str}{u:Zg}{pos:Pos}{Q:QvT}(I:Inv X pj σ H s)(hg:Gl X x)(hm:X.mg x=Za u)(h:Q u s) (hd:(x==("__debug__":Str))=Zj:=by decide):Zt (Zz X.prog X.w) X.A (Zby (.Name x pos) X.env) Q E s:=Zek I.ok.kind hg (Calls.loadGlobal_global (by rw[I.ok.glob];exact I.mod.glob.keeps I.bk) hm h) hd
theorem Qp{E:QvT}{pj:PnT}{s:Zk}{σ:St}{H:Hp}{x:Str}{u:Zg}{pos:Pos}{Q:QvT}(I:Inv X pj σ H s)(hg:Gl X x)(hm:X.mg x=Zd)(hv:ZbO x=Za u)(h:Q u s) (hn:x≠"__name__":=by decide)(hd:(x==("__debug__":Str))=Zj:=by decide):Zt (Zz X.prog X.w) X.A (Zby (.Name x pos) X.env) Q E s:=by obtain⟨mb,h1,h2⟩:=I.mod.blt;exact Zek I.ok.kind hg (Calls.loadGlobal_builtin (by rw[I.ok.glob];exact I.mod.glob.keeps I.bk) hm (by rw[I.ok.blt];exact h1.keeps I.bk) ((h2 x hn).trans hv) h) hd
theorem Jyg{x:Str}{v:V}{u:Zg}{pos:Pos}(hg:Gl X x)(hm:X.mg x=Za u)(r:RelV v u)(hd:(x==("__debug__":Str))=Zj:=by decide):PE X (.Name x pos) (tC v):=λ_ _ _ H _ I h=>V4 I hg hm #[v,H,I,r,h] hd
variable{a b:Expr}{ta tb:TE}{pos:Pos}
variable{tA tB':TT}{rest:Td}
end
def SqL(K:W.Frag)(H:Hp)(a:Zo)(xs:Ud):Prop:=Rd H a (.lst xs) ∨ ∃(o:Obj) (its:Tj) (n:Nat),K.lookup a=Za o/\o.cls=.type "list"/\o.dict=Zd/\o.data=.seq its n/\its.size<=sizeLine/\Vals xs its.toList
def SqT(K:W.Frag)(H:Hp)(a:Zo)(xs:Ud):Prop:=Rd H a (.tup xs) ∨ ∃(o:Obj) (its:Tj) (n:Nat),K.lookup a=Za o/\o.cls=.type "tuple"/\o.data=.seq its n/\its.size<=sizeLine/\Vals xs its.toList
noncomputable def absV:Zg->Ti|.none=>Za .non|.bool b=>Za<|.bl b|.int i _=>Za<|.int i|.str x _=>Za<|.str x|.bytes b _=>Za<|.byt b|.float b _=>Za<|.flt b|.ref a=>Za<|.ref a|.type n=>Za<|.ty n|_=>Zd
theorem RelV.abs{x:V}{u:Zg}(r:RelV x u):absV u=Za x:=by cases x with|non=>cases r;rfl|bl _=>cases r;rfl|int _=>obtain⟨t,rfl⟩:=r;rfl|str _=>obtain⟨t,rfl⟩:=r;rfl|byt _=>obtain⟨t,rfl⟩:=r;rfl|flt _=>obtain⟨t,rfl⟩:=r;rfl|ref _=>cases r;rfl|ty _=>cases r;rfl
theorem RelV.inj{x y:V}{u:Zg}(r:RelV x u)(q:RelV y u):x=y:=Zam<|r.abs.symm.trans q.abs
theorem Vals.inj:∀{xs ys:Ud}{us:Tv},Vals xs us->Vals ys us->xs=ys|_,_,_,.nil,.nil=>rfl|_,_,_,.cons r t,.cons r' t'=>by rw[r.inj r',Vals.inj t t']
section
variable{X:Cx}{pj:PnT}{σ:St}{H:Hp}{s:Zk}{a:Zo}{xs ys:Ud}
theorem SqL.of{K:W.Frag}(h:H a=Za (.lst xs)):SqL K H a xs:=.inl<|.inl h
theorem SqT.of{K:W.Frag}(h:H a=Za (.tup xs)):SqT K H a xs:=.inl<|.inl h
theorem Inv.list(I:Inv X pj σ H s)(h:SqL X.K H a xs):∃its:Tv,Vals xs its/\PlainL s.heap a its.toArray/\xs.length<=sizeLine:=by
 rcases h with h|⟨o,its,n,hk,hc,hd,hs,hz,r⟩
 ·obtain⟨z,its,n,r,e⟩:=h.ok I.hok;exact#[its,r,#[_,n,e,rfl,rfl,rfl],z]
 ·refine#[its.toList,r,#[o,n,I.kIn a o hk,hc,hd,by simpa using hs],?_];have e:=r.length;simp only[ZM]at e;lia
theorem Inv.tuple(I:Inv X pj σ H s)(h:SqT X.K H a xs):∃its:Tv,Vals xs its/\IsTup s.heap a its.toArray/\xs.length<=sizeLine:=by
 rcases h with h|⟨o,its,n,hk,hc,hs,hz,r⟩
 ·obtain⟨z,its,r,p⟩:=h.ok I.hok;exact#[its,r,p,z]
 ·refine#[its.toList,r,#[o,I.kIn a o hk,hc,n,by simpa using hs],?_];have e:=r.length;simp only[ZM]at e;lia
theorem Inv.list_inj(I:Inv X pj σ H s)(h:SqL X.K H a xs)(h':SqL X.K H a ys):xs=ys:=by
 obtain⟨its,r,⟨o,n,e,_,_,d⟩,_⟩:=I.list h;obtain⟨its',r',⟨o',n',e',_,_,d'⟩,_⟩:=I.list h';rw[e]at e';cases e';rw[d]at d';injection d' with d1 _
 have:its=its':=by simpa using congrArg ZfW d1
 subst this;exact r.inj r'
theorem Inv.tuple_inj(I:Inv X pj σ H s)(h:SqT X.K H a xs)(h':SqT X.K H a ys):xs=ys:=by
 obtain⟨its,r,⟨o,e,_,n,d⟩,_⟩:=I.tuple h;obtain⟨its',r',⟨o',e',_,n',d'⟩,_⟩:=I.tuple h';rw[e]at e';cases e';rw[d]at d';injection d' with d1 _
 have:its=its':=by simpa using congrArg ZfW d1
 subst this;exact r.inj r'
end
noncomputable abbrev Cx.wish (X:Cx)(E:QvT):Cx:={X with xe:=E}
abbrev Cx.nox(X:Cx):Cx:=X.wish λ_ _=>False
theorem Cx.Ok.wish{X:Cx}(ok:X.Ok)(E:QvT):(X.wish E).Ok:=#[ok.mod,ok.kind,ok.glob,ok.blt,ok.above,ok.inj,ok.has,ok.cab,ok.hd,ok.frames,ok.stk,ok.exf,ok.bs,ok.bsz,ok.noex,ok.exfs,ok.funs,ok.frf]
theorem Cx.Ok.unwish{X:Cx}{E:QvT}(ok:(X.wish E).Ok):X.Ok:=#[ok.mod,ok.kind,ok.glob,ok.blt,ok.above,ok.inj,ok.has,ok.cab,ok.hd,ok.frames,ok.stk,ok.exf,ok.bs,ok.bsz,ok.noex,ok.exfs,ok.funs,ok.frf]
section
variable{X:Cx}{pj:PnT}{σ:St}{H:Hp}{s:Zk}{E:QvT}
theorem Inv.wish(I:Inv X pj σ H s)(E:QvT):Inv (X.wish E) pj σ H s:=#[I.ok.wish E,I.os,I.bare,I.base,I.loc,I.cell,I.free,I.freeC,I.pin,I.hok,I.len]
theorem Inv.unwish(I:Inv (X.wish E) pj σ H s):Inv X pj σ H s:=#[I.ok.unwish,I.os,I.bare,I.base,I.loc,I.cell,I.free,I.freeC,I.pin,I.hok,I.len]
end
section
variable{X:Cx}{st:ZcZ}{rest:Tn}{t u:TS}{e:Expr}{te:TE}{pos:Pos}
theorem Inv.quiet{pj:PnT}{σ:St}{H:Hp}{s:Zk}(I:Inv X pj σ H s):interactive X.env=Zj:=by simp[interactive,I.ok.kind]
end
abbrev TSet:=V->V->V->Hp->(Hp->Prop)->Prop
def PSet(X:Cx)(t:TSet):Prop:=∀(pj:PnT)(s:Zk)(σ:St)(H:Hp)(o i v:V)(ov iv u:Zg)(Q:Hp->Prop),Inv X pj σ H s->RelV o ov->RelV i iv->RelV v u->t o i v H Q ->Zt (Zz X.prog X.w) X.A (setItem ov iv u) (λ_ s'=>∃H',Inv X pj σ H' s'/\Q H') X.xe s
structure It where
 go:Nat->Hp->Prop
 yld:Nat->Hp->V->Hp->Prop
 stop:Nat->Hp->Prop
def FpOk(X:Cx)(pj:PnT)(H:Hp)(b:Zo):Prop:=H b=Zd/\b≠X.env.locals/\b∉X.fs/\(b∈X.ex∨X.s₀.heap.objs.size<=b)/\(∀x c,X.env.cells.lookup x=Za c->c≠b)/\∀p∈X.pn++pj,p.1≠b
theorem Inv.fpOk{X:Cx}{pj:PnT}{σ:St}{H H':Hp}{s:Zk}{b:Zo}(I:Inv X pj σ H s)(hb:s.heap.objs.size<=b)(hn:H' b=Zd):FpOk X pj H' b:=by
 refine#[hn,ZaN<|Z4 I.lt hb,I.nofs hb,.inr<|ZC I.sz hb,λx c e z=>?_,λp hp z=>?_]
 ·obtain⟨v,q⟩:=I.cell x c e;exact absurd (Z4 q.lt<|by rw[z];exact hb)<|ZcD _
 ·exact absurd (Z4 (Z0 (I.pin p hp).1)<|by rw[z];exact hb)<|ZcD _
structure Turn(P:ZD)(w:ZV)(K:W.Frag)(tg:Expr)(J:It)(fp:Tw)(it:Zo)(tn:Nat->Zaw->Prop):Prop where
 mem:it∈fp
 obj:∀i h,tn i h->∀b∈fp,∃o,h.get? b=Za o/\∀v,o.data≠.cell v
 keep:∀i h h',tn i h->(∀b∈fp,∀o,h.get? b=Za o->h'.get? b=Za o)->tn i h'
 item:∀(X:Cx),X.prog=P->X.w=w->X.K=K->X.calm=Zh->∀(i:Nat)(pj:PnT)(s:Zk)(σ:St)(H:Hp)(E:QvT),Inv X pj σ H s->(∀b∈fp,FpOk X pj H b)->tn i s.heap->J.go i H ->Zt (Zz P w) X.A (ZbP<|.ref it) (λr s1=>∃u,r=Za u /\ Zt (Zz P w) X.A (Zdh tg (.ref it) u) (λ_ s2=>∃x H',Inv X pj σ H' s2/\RelV x u/\J.yld i H x H'/\tn (i+1) s2.heap/\∀b∈fp,H' b=Zd) E s1) E s
 done:∀(X:Cx),X.prog=P->X.w=w->X.K=K->X.calm=Zh->∀(i:Nat)(pj:PnT)(s:Zk)(σ:St)(H:Hp)(E:QvT),Inv X pj σ H s->(∀b∈fp,FpOk X pj H b)->tn i s.heap->J.stop i H ->Zt (Zz P w) X.A (ZbP<|.ref it) (λr s1=>r=Zd/\Inv X pj σ H s1) E s
 self:∀(A:ZH)(i:Nat)(s:Zk)(Q:QvT)(E:QvT),tn i s.heap->Q (.ref it) s->Zt (Zz P w) A (Zel<|.ref it) Q E s
def PIE(X:Cx)(pj:PnT)(σ:St)(tg:Expr)(R:It->Hp->Prop)(itv:Zg)(s2:Zk):Prop:=∃(it:Zo)(fp:Tw)(tn:Nat->Zaw->Prop)(J:It)(H':Hp),itv=.ref it/\Inv X pj σ H' s2/\Turn X.prog X.w X.K tg J fp it tn/\tn 0 s2.heap/\(∀b∈fp,FpOk X pj H' b)/\R J H'
theorem Js9{M:Model}{A:ZH}{E:QvT}{s:Zk}{tg:Expr}{it:Zo}{u:Zg}{o:Obj}{n:String}{vs:Tj}{Q:Unit->Zk->Prop}(ho:s.heap.get? it=Za o)(hc:o.cls=.type n)(hd:o.data=.fields vs)
  (hn:["enumerate","zip","dict_itemiterator","dict_reverseitemiterator","odict_iterator","itertools.zip_longest","itertools.pairwise"].contains n=Zj)(hQ:Q () s):Zt M A (Zdh tg (.ref it) u) Q E s:=by
 unfold Zdh;cases tg<;>first
  |exact Zn hQ
  | (cases u<;>first
    |exact Zn hQ
    | (refine Zc (wpAny_load ho ?_)
       rw[hc,hd];show Zt M A (if (["enumerate","zip","dict_itemiterator","dict_reverseitemiterator","odict_iterator","itertools.zip_longest","itertools.pairwise"].contains n&&vs[0]?==Za (ZaB _))=Zh then _ else _) Q E s;rw[if_neg (by intro h;rw[hn,Bool.false_and]at h;cases h)];exact Zn hQ))
def Itl(K:W.Frag)(a:Zo):It:=#[λi H=>∃xs x,SqL K H a xs/\xs[i]?=Za x,λi H x H'=>H'=H/\∀xs,SqL K H a xs->xs[i]?=Za x,λi H=>∃xs,SqL K H a xs/\xs.length<=i]
def Itt(K:W.Frag)(a:Zo):It:=#[λi H=>∃xs x,SqT K H a xs/\xs[i]?=Za x,λi H x H'=>H'=H/\∀xs,SqT K H a xs->xs[i]?=Za x,λi H=>∃xs,SqT K H a xs/\xs.length<=i]
def Itr(lo:Int)(n:Nat):It:=#[λi _=>i<n,λi H x H'=>H'=H/\x=.int (lo+i),λi _=>n<=i]
theorem Jke{P:ZD}{w:ZV}{K:W.Frag}{tg:Expr}(a it:Zo):Turn P w K tg (Itl K a) [it] it (λi h=>h.IsListIter it a i) where
 mem:=03
 obj:=λi h st b hb=>by
  have e:b=it:=by simpa using hb
  subst e;obtain⟨o,e,c,d⟩:=st;exact#[o,e,λv z=>by rw[d]at z;cases z]
 keep:=λi h h' st k=>st.at λo e=>k it 03 o e
 item:=by
  intro X hP hw hK hc i pj s σ H E I hf st hg;subst hP hw hK;obtain⟨xs,x,hq,hx⟩:=hg;obtain⟨its,rv,p,hz⟩:=I.list hq;obtain⟨u,hu,ru⟩:=rv.get hx;obtain⟨f0,f1,f2,f3,f4,f5⟩:=hf it 03;refine ZeU st p.isList (x:=u) (by simpa using hu) λh' st' sb=>?_
  have I1:Inv X pj σ H {s with heap:=h'}:=I.turned (t':=s.toks) (λb o hb e=>(sb.2 b hb).trans e) f0 f1 f3 f4 f5;obtain⟨o,e,c,d⟩:=id st';exact#[u,rfl,Js9 (s:={s with heap:=h'}) e c d 01 #[x,H,I1,ru,#[rfl,λys hy=>by rw[I.list_inj hy hq];exact hx],st',λb hb=>(hf b hb).1]]
 done:=by intro X hP hw hK hc i pj s σ H E I hf st hg;subst hP hw hK;obtain⟨xs,hq,hx⟩:=hg;obtain⟨its,rv,p,hz⟩:=I.list hq;obtain⟨f0,f1,f2,f3,f4,f5⟩:=hf it 03;have hl:=rv.length;exact Zfp (I.ok.hd hc) st p.isList (by simp;lia) λh' eb=>#[rfl,I.turned (t':=s.toks) (λb o hb e=>eb b o hb e) f0 f1 f3 f4 f5]
 self:=λ_ _ _ _ _ st h=>wpAny_pyIter_listiter st h
theorem Joi{P:ZD}{w:ZV}{K:W.Frag}{tg:Expr}(a it:Zo):Turn P w K tg (Itt K a) [it] it (λi h=>h.IsTupleIter it a i) where
 mem:=03
 obj:=λi h st b hb=>by
  have e:b=it:=by simpa using hb
  subst e;obtain⟨o,e,c,d⟩:=st;exact#[o,e,λv z=>by rw[d]at z;cases z]
 keep:=λi h h' st k=>st.at λo e=>k it 03 o e
 item:=by
  intro X hP hw hK hc i pj s σ H E I hf st hg;subst hP hw hK;obtain⟨xs,x,hq,hx⟩:=hg;obtain⟨its,rv,p,hz⟩:=I.tuple hq;obtain⟨u,hu,ru⟩:=rv.get hx;obtain⟨f0,f1,f2,f3,f4,f5⟩:=hf it 03;refine wpAny_pyNext_tuple_item st (show s.heap.IsTuple a its.toArray from p) (x:=u) (by simpa using hu) λh' st' sb=>?_
  have I1:Inv X pj σ H {s with heap:=h'}:=I.turned (t':=s.toks) (λb o hb e=>(sb.2 b hb).trans e) f0 f1 f3 f4 f5;obtain⟨o,e,c,d⟩:=id st';exact#[u,rfl,Js9 (s:={s with heap:=h'}) e c d 01 #[x,H,I1,ru,#[rfl,λys hy=>by rw[I.tuple_inj hy hq];exact hx],st',λb hb=>(hf b hb).1]]
 done:=by intro X hP hw hK hc i pj s σ H E I hf st hg;subst hP hw hK;obtain⟨xs,hq,hx⟩:=hg;obtain⟨its,rv,p,hz⟩:=I.tuple hq;obtain⟨f0,f1,f2,f3,f4,f5⟩:=hf it 03;have hl:=rv.length;exact wpAny_pyNext_tuple_end (I.ok.hd hc) st (show s.heap.IsTuple a its.toArray from p) (by simp;lia) λh' eb=>#[rfl,I.turned (t':=s.toks) (λb o hb e=>eb b o hb e) f0 f1 f3 f4 f5]
 self:=λ_ _ _ _ _ st h=>wpAny_pyIter_tupleiter st h
theorem Joh{P:ZD}{w:ZV}{K:W.Frag}{tg:Expr}(it:Zo)(lo:Int)(n:Nat):Turn P w K tg (Itr lo n) [it] it (λi h=>IsRangeIter h it (lo+(i:Nat)*1) ((n:Int)-(i:Nat)) 1) where
 mem:=03
 obj:=λi h st b hb=>by
  have e:b=it:=by simpa using hb
  subst e;exact#[_,st,λv z=>by have z':Data.fields _=Zgk v:=z;cases z']
 keep:=λi h h' st k=>k it 03 _ st
 item:=by
  intro X hP hw hK hc i pj s σ H E I hf st hg;subst hP hw hK;obtain⟨f0,f1,f2,f3,f4,f5⟩:=hf it 03;have W:=Walks.range (prog:=X.prog) (w:=X.w) (I.ok.hd hc) it lo 1 n;refine W.item i s _ _ hg st λv h' tk hv st' kk=>?_
  obtain⟨t,rfl⟩:=hv;have I1:Inv X pj σ H {s with heap:=h',toks:=tk}:=I.turned (λb o hb e=>kk b o (by simpa using hb) e) f0 f1 f3 f4 f5;refine#[_,rfl,Js9 (s:={s with heap:=h',toks:=tk}) (n:="range_iterator") st' rfl rfl 01 #[.int<|lo+i,H,I1,#[t,?_],#[rfl,rfl],st',λb hb=>(hf b hb).1]];rw[Int.mul_one]
 done:=by intro X hP hw hK hc i pj s σ H E I hf st hg;subst hP hw hK;obtain⟨f0,f1,f2,f3,f4,f5⟩:=hf it 03;exact wpAny_pyNext_range_end (I.ok.hd hc) st (by have:n<=i:=hg;lia) λh' eb=>#[rfl,I.turned (t':=s.toks) (λb o hb e=>eb b o hb e) f0 f1 f3 f4 f5]
 self:=λ_ _ _ _ _ st h=>wpAny_pyIter_rangeiter st h
section
variable{X:Cx}{tg:Expr}
theorem Jue{pj:PnT}{σ:St}{H:Hp}{s:Zk}{R:It->Hp->Prop}{E:QvT}{lo hi:Int}{t u v:Tok}{tk:Nat}(I:Inv X pj σ H s)(h1: -(2^62)<=lo)(h2:lo<2^62)(h3: -(2^62)<=hi)(h4:hi<2^62)
  (q:R (Itr lo (hi-lo).toNat) H):Zt (Zz X.prog X.w) X.A (Zel<|.ref s.heap.objs.size) (PIE X pj σ tg R) E {s with heap:=s.heap.push {cls:=.type "range",data:=.fields (Zay [.int lo t,.int hi u,.int 1 v])},toks:=tk}:=by
 refine wpAny_pyIter_range (IsRange.new ..) (small_one h1 h2 h3 h4) ?_;have I1:Inv X pj σ H {s with heap:=s.heap.push {cls:=.type "range",data:=.fields (Zay [.int lo t,.int hi u,.int 1 v])},toks:=tk}:=I.kept λb o e=>Ze _ e
 refine#[(s.heap.push {cls:=.type "range",data:=.fields (Zay [.int lo t,.int hi u,.int 1 v])}).objs.size,[(s.heap.push {cls:=.type "range",data:=.fields (Zay [.int lo t,.int hi u,.int 1 v])}).objs.size],_,_,H,rfl,
  I1.kept (t':=tk) λb o e=>Ze _ e,Joh _ lo (hi-lo).toNat,?_,λb hb=>?_,q]
 ·have e1:lo+((0:Nat):Int)*1=lo:=03;have e2:(((hi-lo).toNat:Nat):Int)-((0:Nat):Int)=ZeE lo hi 1:=by rw[rangeSize_one];split<;>lia
  show IsRangeIter _ _ (lo+((0:Nat):Int)*1) ((((hi-lo).toNat:Nat):Int)-((0:Nat):Int)) 1;rw[e1,e2];exact Zv _ rfl
 ·have e:b=(s.heap.push {cls:=.type "range",data:=.fields (Zay [.int lo t,.int hi u,.int 1 v])}).objs.size:=by simpa using hb
  subst e;exact I1.fpOk (Zm _)<|I1.hok.fresh<|Zm _
def Q9(fp:Tw)(h:Zaw):PnT:=fp.filterMap λb=>(h.get? b).map λo=>(b,o)
theorem Yj{fp:Tw}{h:Zaw}{b:Zo}{o:Obj}(hb:b∈fp)(e:h.get? b=Za o):(b,o)∈Q9 fp h:=List.mem_filterMap.mpr #[b,hb,by rw[e];rfl]
theorem Jq5{fp:Tw}{h:Zaw}{p:Zo×Obj}(hp:p∈Q9 fp h):p.1∈fp/\h.get? p.1=Za p.2:=by obtain⟨b,hb,e⟩:=List.mem_filterMap.mp hp;cases q:h.get? b with|none=>rw[q]at e;cases e|some o=>rw[q]at e;have e':(b,o)=p:=Zam e;subst e';exact#[hb,q]
theorem Inv.pinned{pj:PnT}{σ:St}{H:Hp}{s:Zk}{fp:Tw}(I:Inv X pj σ H s)(hf:∀b∈fp,FpOk X pj H b)(ho:∀b∈fp,∃o,s.heap.get? b=Za o/\∀v,o.data≠.cell v):Inv X (pj++Q9 fp s.heap) σ H s:=I.pins_of λp hp=>(ZK.mp hp).elim (λz=>I.pin p<|Zq _ z) λz=>by obtain⟨hb,e⟩:=Jq5 z;obtain⟨f0,f1,f2,_⟩:=hf p.1 hb;obtain⟨o,e',d⟩:=ho p.1 hb;rw[e]at e';cases e';exact#[e,f0,f1,f2,d]
theorem Inv.unpinned{pj pl:PnT}{σ:St}{H:Hp}{s:Zk}(I:Inv X (pj++pl) σ H s):Inv X pj σ H s:=I.pins_of λp hp=>I.pin p<|Zq _<|ZW _ hp
end
abbrev R2:=V->V->Hp->VK->Prop
def OpR(X:Cx)(f:Zg->Zg->Sem Zg)(r:R2):Prop:=∀(pj:PnT)(s:Zk)(σ:St)(H:Hp)(x y:V)(v u:Zg)(Q:VK),Inv X pj σ H s->RelV x v->RelV y u->r x y H Q ->Zt (Zz X.prog X.w) X.A (f v u) (EP X pj σ Q) X.xe s
def UnR(X:Cx)(f:Zg->Sem Zg)(r:V->Hp->VK->Prop):Prop:=∀(pj:PnT)(s:Zk)(σ:St)(H:Hp)(x:V)(v:Zg)(Q:VK),Inv X pj σ H s->RelV x v->r x H Q ->Zt (Zz X.prog X.w) X.A (f v) (EP X pj σ Q) X.xe s
def Xa(X:Cx)(f:Zg)(r:Ud->Hp->VK->Prop):Prop:=∀(pj:PnT)(s:Zk)(σ:St)(H:Hp)(xs:Ud)(us:Tv)(Q:VK),Inv X pj σ H s->Vals xs us->r xs H Q ->Zt (Zz X.prog X.w) X.A (call f us) (EP X pj σ Q) X.xe s
def TruR(X:Cx)(r:V->Hp->(Bool->Hp->Prop)->Prop):Prop:=∀(pj:PnT)(s:Zk)(σ:St)(H:Hp)(x:V)(v:Zg)(Q:Bool->Hp->Prop),Inv X pj σ H s->RelV x v->r x H Q ->Zt (Zz X.prog X.w) X.A (truthy v) (TP X pj σ Q) X.xe s
def rI(C:Int->Int->Prop)(g:Int->Int->V):R2:=λx y H Q=>∃i j,x=.int i/\y=.int j/\C i j/\Q (g i j) H
def rI0(g:Int->Int->V):R2:=λx y H Q=>∃i j,x=.int i/\y=.int j/\Q (g i j) H
def rU(g:Int->V):V->Hp->VK->Prop:=λx H Q=>∃i,x=.int i/\Q (g i) H
section
variable{X:Cx}{a b c:Expr}{ta tb tc:TE}{pos:Pos}
theorem opI{f:Zg->Zg->Sem Zg}{C:Int->Int->Prop}{g:Int->Int->Int} (rule:∀(i j:Int)(t u:Tok)(s:Zk)(Q E:QvT),C i j->Q (.int (g i j) s.toks) {s with toks:=s.toks+1}->Zt (Zz X.prog X.w) X.A (f (.int i t)<|.int j u) Q E s):OpR X f (rI C λi j=>.int<|g i j):=by intro pj s σ H x y v u Q I rx ry h;obtain⟨i,j,rfl,rfl,hc,q⟩:=h;obtain⟨t,rfl⟩:=rx;obtain⟨t',rfl⟩:=ry;exact rule i j t t' s _ _ hc #[.int<|g i j,H,I.tok _,#[_,rfl],q]
theorem opI0{f:Zg->Zg->Sem Zg}{g:Int->Int->Int} (rule:∀(i j:Int)(t u:Tok)(s:Zk)(Q E:QvT),Q (.int (g i j) s.toks) {s with toks:=s.toks+1}->Zt (Zz X.prog X.w) X.A (f (.int i t)<|.int j u) Q E s):OpR X f (rI0 λi j=>.int<|g i j):=by intro pj s σ H x y v u Q I rx ry h;obtain⟨i,j,rfl,rfl,q⟩:=h;obtain⟨t,rfl⟩:=rx;obtain⟨t',rfl⟩:=ry;exact rule i j t t' s _ _ #[.int<|g i j,H,I.tok _,#[_,rfl],q]
theorem opB0{f:Zg->Zg->Sem Zg}{g:Int->Int->Bool} (rule:∀(i j:Int)(t u:Tok)(s:Zk)(Q E:QvT),Q (.bool<|g i j) s->Zt (Zz X.prog X.w) X.A (f (.int i t)<|.int j u) Q E s):OpR X f (rI0 λi j=>.bl<|g i j):=by intro pj s σ H x y v u Q I rx ry h;obtain⟨i,j,rfl,rfl,q⟩:=h;obtain⟨t,rfl⟩:=rx;obtain⟨t',rfl⟩:=ry;exact rule i j t t' s _ _ #[.bl<|g i j,H,I,rfl,q]
def CPow(i j:Int):Prop:=0<=j/\j<=1000000/\i.natAbs<2^64
theorem J1w:OpR X (Zbv .Add) (rI0 λi j=>.int<|i+j):=opI0 λ_ _ _ _ _ _ _ q=>add_int q
theorem J11:OpR X (Zbv .Sub) (rI0 λi j=>.int<|i-j):=opI0 λ_ _ _ _ _ _ _ q=>sub_int q
theorem J1y:OpR X (Zbv .Mod) (rI (λ_ j=>0<j) λi j=>.int<|i%j):=opI λi j _ _ _ _ _ hc q=>by have h1:(0:Int)<j:=hc;exact mod_int' 05<|by rw[Int.fmod_eq_emod_of_nonneg i 05];exact q
theorem J1z:OpR X (Zbv .Pow) (rI CPow λi j=>.int<|i^j.toNat):=opI λ_ _ _ _ _ _ _ hc q=>pow_int_small hc.1 hc.2.1 hc.2.2 q
theorem unI{f:Zg->Sem Zg}{g:Int->Int} (rule:∀(i:Int)(t:Tok)(s:Zk)(Q E:QvT),Q (.int (g i) s.toks) {s with toks:=s.toks+1}->Zt (Zz X.prog X.w) X.A (f<|.int i t) Q E s):UnR X f (rU λi=>.int<|g i):=by intro pj s σ H x v Q I rx h;obtain⟨i,rfl,q⟩:=h;obtain⟨t,rfl⟩:=rx;exact rule i t s _ _ #[.int<|g i,H,I.tok _,#[_,rfl],q]
theorem J21:UnR X (unaryOp .USub) (rU λi=>.int (-i)):=unI λ_ _ _ _ _ q=>neg_int q
end
noncomputable def scal:V->V->Bool|.non,.non=>Zh|.non,.int _=>Zh|.int _,.non=>Zh|.non,.bl _=>Zh|.bl _,.non=>Zh|.non,.str _=>Zh|.str _,.non=>Zh|.int _,.int _=>Zh|.bl _,.bl _=>Zh|.str _,.str _=>Zh|.byt _,.byt _=>Zh|.int _,.str _=>Zh|.str _,.int _=>Zh|.bl _,.str _=>Zh|.str _,.bl _=>Zh|_,_=>Zj
def rEq:R2:=λx y H Q=>scal x y=Zh/\Q (.bl<|decide (x=y)) H
def rNe:R2:=λx y H Q=>scal x y=Zh/\Q (.bl (!decide (x=y))) H
theorem Jpf{i j:Int}:decide (V.int i=V.int j)=(i==j):=by rw[Zdi];simp
theorem Jvi{i j:Bool}:decide (V.bl i=V.bl j)=(i==j):=by rw[Zdi];simp
theorem Jpg{i j:Str}:decide (V.str i=V.str j)=(i==j):=by rw[Zdi];simp
theorem Jpe{i j:Array UInt8}:decide (V.byt i=V.byt j)=(i.toList==j.toList):=by rw[Zdi];cases i;cases j;simp
section
variable{X:Cx}{a b c:Expr}{ta tb tc:TE}{pos:Pos}
theorem J7{pj:PnT}{σ:St}{H:Hp}{s:Zk}{Q:VK}{k k':Bool}(I:Inv X pj σ H s)(q:Q (.bl k) H)(e:k=k'):EP X pj σ Q (.bool k') s:=by subst e;exact#[.bl k,H,I,rfl,q]
theorem J4r:OpR X (ZaC .Eq) rEq:=by
 intro pj s σ H x y v u Q I rx ry h;obtain⟨hs,q⟩:=h;cases x with
 |non=>cases rx;cases y with|non=>cases ry;exact PySem.EqNone.eq_none_none<|J7 I q 03|bl j=>cases ry;exact PySem.EqNone.eq_none_bool<|J7 I q 03|int j=>obtain⟨t',rfl⟩:=ry;exact PySem.EqNone.eq_none_int<|J7 I q 03|str j=>obtain⟨t',rfl⟩:=ry;exact PySem.EqNone.eq_none_str<|J7 I q 03|_=>exact absurd (show Zj=Zh from hs) Zw
 |bl i=>cases rx;cases y with|non=>cases ry;exact PySem.EqNone.eq_bool_none<|J7 I q 03|bl j=>cases ry;exact eq_bool<|J7 I q Jvi|str j=>obtain⟨t',rfl⟩:=ry;exact PySem.EqMixed.eq_bool_str<|J7 I q 03|_=>exact absurd (show Zj=Zh from hs) Zw
 |int i=>obtain⟨t,rfl⟩:=rx;cases y with|non=>cases ry;exact PySem.EqNone.eq_int_none<|J7 I q 03|int j=>obtain⟨t',rfl⟩:=ry;exact eq_int<|J7 I q Jpf|str j=>obtain⟨t',rfl⟩:=ry;exact PySem.EqMixed.eq_int_str<|J7 I q 03|_=>exact absurd (show Zj=Zh from hs) Zw
 |str i=>obtain⟨t,rfl⟩:=rx;cases y with|non=>cases ry;exact PySem.EqNone.eq_str_none<|J7 I q 03|bl j=>cases ry;exact PySem.EqMixed.eq_str_bool<|J7 I q 03|int j=>obtain⟨t',rfl⟩:=ry;exact PySem.EqMixed.eq_str_int<|J7 I q 03|str j=>obtain⟨t',rfl⟩:=ry;exact eq_str<|J7 I q Jpg|_=>exact absurd (show Zj=Zh from hs) Zw
 |byt i=>obtain⟨t,rfl⟩:=rx;cases y with|byt j=>obtain⟨t',rfl⟩:=ry;exact W.eq_bytes<|J7 I q Jpe|_=>exact absurd (show Zj=Zh from hs) Zw
 |_=>cases y<;>exact absurd (show Zj=Zh from hs) Zw
theorem J4w:OpR X (ZaC .NotEq) rNe:=by
 intro pj s σ H x y v u Q I rx ry h;obtain⟨hs,q⟩:=h;cases x with
 |non=>cases rx;cases y with|non=>cases ry;exact PySem.EqNone.ne_none_none<|J7 I q 03|bl j=>cases ry;exact PySem.EqNone.ne_none_bool<|J7 I q 03|int j=>obtain⟨t',rfl⟩:=ry;exact PySem.EqNone.ne_none_int<|J7 I q 03|str j=>obtain⟨t',rfl⟩:=ry;exact PySem.EqNone.ne_none_str<|J7 I q 03|_=>exact absurd (show Zj=Zh from hs) Zw
 |bl i=>cases rx;cases y with|non=>cases ry;exact PySem.EqNone.ne_bool_none<|J7 I q 03|bl j=>cases ry;exact ne_bool<|J7 I q<|congrArg not Jvi|str j=>obtain⟨t',rfl⟩:=ry;exact PySem.EqMixed.ne_bool_str<|J7 I q 03|_=>exact absurd (show Zj=Zh from hs) Zw
 |int i=>obtain⟨t,rfl⟩:=rx;cases y with|non=>cases ry;exact PySem.EqNone.ne_int_none<|J7 I q 03|int j=>obtain⟨t',rfl⟩:=ry;exact ne_int<|J7 I q<|congrArg not Jpf|str j=>obtain⟨t',rfl⟩:=ry;exact PySem.EqMixed.ne_int_str<|J7 I q 03|_=>exact absurd (show Zj=Zh from hs) Zw
 |str i=>obtain⟨t,rfl⟩:=rx;cases y with|non=>cases ry;exact PySem.EqNone.ne_str_none<|J7 I q 03|bl j=>cases ry;exact PySem.EqMixed.ne_str_bool<|J7 I q 03|int j=>obtain⟨t',rfl⟩:=ry;exact PySem.EqMixed.ne_str_int<|J7 I q 03|str j=>obtain⟨t',rfl⟩:=ry;exact ne_str<|J7 I q<|congrArg not Jpg|_=>exact absurd (show Zj=Zh from hs) Zw
 |byt i=>obtain⟨t,rfl⟩:=rx;cases y with|byt j=>obtain⟨t',rfl⟩:=ry;exact W.ne_bytes<|J7 I q<|congrArg not Jpe|_=>exact absurd (show Zj=Zh from hs) Zw
 |_=>cases y<;>exact absurd (show Zj=Zh from hs) Zw
theorem J4v:OpR X (ZaC .Lt) (rI0 λi j=>.bl<|decide (i<j)):=opB0 λ_ _ _ _ _ _ _ q=>lt_int q
theorem J4u:OpR X (ZaC .LtE) (rI0 λi j=>.bl<|decide (i<=j)):=opB0 λ_ _ _ _ _ _ _ q=>le_int q
theorem J4t:OpR X (ZaC .Gt) (rI0 λi j=>.bl<|decide (j<i)):=opB0 λ_ _ _ _ _ _ _ q=>gt_int q
theorem J4s:OpR X (ZaC .GtE) (rI0 λi j=>.bl<|decide (j<=i)):=opB0 λ_ _ _ _ _ _ _ q=>ge_int q
theorem Jq6:OpR X (ZaC .Lt) (λx y H Q=>∃i j,x=.str i/\y=.str j/\Q (.bl<|decide (i.cps.toList<j.cps.toList)) H):=by intro pj s σ H x y v u Q I rx ry h;obtain⟨i,j,rfl,rfl,q⟩:=h;obtain⟨t,rfl⟩:=rx;obtain⟨t',rfl⟩:=ry;exact lt_str<|J7 I q rfl
def TruV(K:W.Frag)(x:V)(H:Hp)(k:Bool):Prop:=match x with|.non=>k=Zj|.bl b=>k=b|.int i=>k=(i != 0)|.str y=>y.length<=sizeLine/\k=((y.length:Int) != 0)|.byt y=>y.size<=sizeLine/\k=((y.size:Int) != 0)|.ref p=>(∃xs,SqL K H p xs/\k=!xs.isEmpty)∨(∃xs,SqT K H p xs/\k=!xs.isEmpty)∨∃kvs,H p=Za (.dK kvs)/\k=!kvs.isEmpty|_=>False
theorem Jnu{κ:Type}{kvs:List (κ×V)}{vs:List (κ×Zg)}(r:KV kvs vs):(!vs.isEmpty)=!kvs.isEmpty:=by cases r<;>rfl
theorem Jg0{xs:Ud}{its:Tv}(r:Vals xs its):(!its.toArray.isEmpty)=!xs.isEmpty:=by cases r<;>simp
theorem VR:(sizeLine:Nat)<2^63:=by rw[Zbi];decide
theorem VD:TruR X (λx H Q=>∃k,TruV X.K x H k/\Q k H):=by
 intro pj s σ H x v Q I rx h;obtain⟨k,e,q⟩:=h;have hl:=VR;have hs:sizeLine=16777216:=Zbi;cases x with
 |non=>cases rx;have e':k=Zj:=e;subst e';exact truthy_none #[H,I,q]
 |bl b=>cases rx;have e':k=b:=e;subst e';exact ZbI #[H,I,q]
 |int i=>obtain⟨t,rfl⟩:=rx;have e':k=(i != 0):=e;subst e';exact PySem.P.truthy_int #[H,I,q]
 |str y=>obtain⟨t,rfl⟩:=rx;obtain⟨hy,e'⟩:y.length<=sizeLine/\k=((y.length:Int) != 0):=e;subst e';exact PySem.P.truthy_str 05 #[H,I.tok _,q]
 |byt y=>obtain⟨t,rfl⟩:=rx;obtain⟨hy,e'⟩:y.size<=sizeLine/\k=((y.size:Int) != 0):=e;subst e';exact W.truthy_bytes 05 #[H,I.tok _,q]
 |ref p=>
  cases rx;have e':(∃xs,SqL X.K H p xs/\k=!xs.isEmpty)∨(∃xs,SqT X.K H p xs/\k=!xs.isEmpty)∨∃kvs,H p=Za (.dK kvs)/\k=!kvs.isEmpty:=e;rcases e' with⟨xs,hx,e'⟩|⟨xs,hx,e'⟩|⟨kvs,hx,e'⟩
  ·subst e';obtain⟨its,r,pl,hz⟩:=I.list hx;have hlen:=r.length;exact wpAny_truthy_list pl.isList (by simp only[Zx];lia) #[H,I.tok _,by rw[Jg0 r];exact q]
  ·subst e';obtain⟨its,r,pl,hz⟩:=I.tuple hx;have hlen:=r.length;exact truthy_tuple pl (by simp only[Zx];lia) #[H,I.tok _,by rw[Jg0 r];exact q]
  ·subst e';obtain⟨hz,hS,vs,r,m⟩:kvs.length<=sizeLine/\(p==Zdl)=Zj/\∃vs,KV kvs vs/\s.heap.DictOf (Vl X.prog X.w) p vs:=I.hok p _ hx;have hlen:kvs.length=vs.length:=ZfM r;exact wpAny_truthy_dict hS m 05 #[H,I.tok _,by rw[Jnu r];exact q]
 |_=>exact Zf e
theorem Jn2:OpR X (Zbv .Add) (λx y H Q=>∃i j,x=.str i/\y=.str j/\i.length+j.length<=sizeLine/\Q (.str<|i++j) H):=by intro pj s σ H x y v u Q I rx ry h;obtain⟨i,j,rfl,rfl,hz,q⟩:=h;obtain⟨t,rfl⟩:=rx;obtain⟨t',rfl⟩:=ry;exact add_str (λt' tk=>#[.str<|i++j,H,I.tok _,#[_,rfl],q]) hz
theorem QP{x:V}{us:Tv}(r:Vals [x] us):∃u,us=[u]/\RelV x u:=by cases r with|cons r1 r2=>cases r2;exact#[_,rfl,r1]
theorem J23{x y:V}{us:Tv}(r:Vals [x,y] us):∃u w',us=[u,w']/\RelV x u/\RelV y w':=by
 cases r with|cons r1 r2=>cases r2 with|cons r3 r4=>cases r4;exact#[_,_,rfl,r1,r3]
theorem Jo7(hc:X.calm=Zh):Xa X (.builtin "max") (λxs H Q=>∃i j,xs=[.int i,.int j]/\Q (.int (if j>i then j else i)) H):=by
 intro pj s σ H xs us Q I r h;obtain⟨i,j,rfl,q⟩:=h;obtain⟨u,w',rfl,⟨t,rfl⟩,⟨t',rfl⟩⟩:=J23 r;refine max_two_ints (I.ok.hd hc) λh' tk k=>#[_,H,I.kept k,?_,q]
 by_cases hj:j>i
 ·rw[if_pos hj,if_pos hj];exact#[_,rfl]
 ·rw[if_neg hj,if_neg hj];exact#[_,rfl]
theorem Jo8(hc:X.calm=Zh):Xa X (.builtin "min") (λxs H Q=>∃i j,xs=[.int i,.int j]/\Q (.int (if j<i then j else i)) H):=by
 intro pj s σ H xs us Q I r h;obtain⟨i,j,rfl,q⟩:=h;obtain⟨u,w',rfl,⟨t,rfl⟩,⟨t',rfl⟩⟩:=J23 r;refine min_two_ints (I.ok.hd hc) λh' tk k=>#[_,H,I.kept k,?_,q]
 by_cases hj:j<i
 ·rw[if_pos hj,if_pos hj];exact#[_,rfl]
 ·rw[if_neg hj,if_neg hj];exact#[_,rfl]
def LenV(K:W.Frag)(x:V)(H:Hp)(n:Nat):Prop:=match x with|.str y=>y.length<=sizeLine/\n=y.length|.byt y=>y.size<=sizeLine/\n=y.size|.ref p=>(∃xs,SqL K H p xs/\n=xs.length)∨∃xs,SqT K H p xs/\n=xs.length|_=>False
theorem Je1:Xa X (.builtin "len") (λxs H Q=>∃x n,xs=[x]/\LenV X.K x H n/\Q (.int n) H):=by
 intro pj s σ H xs us Q I r h;obtain⟨x,n,rfl,e,q⟩:=h;obtain⟨u,rfl,rx⟩:=QP r;have hl:=VR;have hs:sizeLine=16777216:=Zbi;cases x with
 |str y=>obtain⟨t,rfl⟩:=rx;obtain⟨hy,e'⟩:y.length<=sizeLine/\n=y.length:=e;subst e';exact len_str 05 #[.int _,H,I.tok _,#[_,rfl],q]
 |byt y=>obtain⟨t,rfl⟩:=rx;obtain⟨hy,e'⟩:y.size<=sizeLine/\n=y.size:=e;subst e';exact W.len_bytes 05 #[.int _,H,I.tok _,#[_,rfl],q]
 |ref p=>
  cases rx;have e':(∃xs,SqL X.K H p xs/\n=xs.length)∨∃xs,SqT X.K H p xs/\n=xs.length:=e;rcases e' with⟨xs,hx,e'⟩|⟨xs,hx,e'⟩
  ·subst e';obtain⟨its,r',pl,hz⟩:=I.list hx;have hlen:=r'.length;exact Calls.call_len_list pl.isList (by simp only[Zx];lia) #[.int xs.length,H,I.tok _,#[_,by simp only[Zx];rw[hlen]],q]
  ·subst e';obtain⟨its,r',pl,hz⟩:=I.tuple hx;have hlen:=r'.length;exact len_tuple pl (by simp only[Zx];lia) #[.int xs.length,H,I.tok _,#[_,by simp only[Zx];rw[hlen]],q]
 |_=>exact Zf e
end
structure ObjM(h:Zaw)(x dx C:Zo)(mA:Str->Wz):Prop where
 obj:h.get? x=Za (W.instObj C dx)
 ns:h.Ns1 dx mA
 ne:dx≠x
theorem Jqw{h:Zaw}{dx:Zo}{mA:Str->Wz}(n:h.Ns1 dx mA):∃od,h.get? dx=Za od/\∀name,W.lookIn name od=Za (mA name):=by
 obtain⟨o,es,ep,ho,hd,hk,_,hm⟩:=n;refine#[o,ho,λname=>?_];have e:=hm name;unfold nsFind findBy at e;rw[<-Array.find?_toList]at e;unfold W.lookIn;rw[hd];dsimp only;split
 ·rename_i y q;rw[q]at e;exact congrArg Za e
 ·rename_i q;rw[q]at e;have a:es.toList.any (·.refKey)=Zj:=by rw[List.any_eq_false];intro y hy;obtain⟨z,t,hkey⟩:=hk y<|Array.mem_toList_iff.mp hy;simp[DictEntry.refKey,hkey]
  have a':¬es.toList.any (·.refKey)=Zh:=by rw[a];exact Zw
  rw[if_neg a'];exact congrArg Za e
theorem ObjM.look{h:Zaw}{x dx C:Zo}{mA:Str->Wz}(I:ObjM h x dx C mA):∃od,W.InstAt h x (W.instObj C dx) C (Za od)/\∀name,W.lookIn name od=Za (mA name):=
 let ⟨od,ho,hl⟩:=Jqw I.ns
 #[od,#[I.obj,rfl,rfl,ho],hl]
section
variable{prog:ZD}{w:ZV}{A:ZH}{E:QvT}{s:Zk}{K:W.Frag}{x dx C f:Zo}{mA:Str->Wz}{name:Str}{v:Zg}
theorem Jxg{expr:Bool}{Q:QvT}(X:K.In s.heap)(I:ObjM s.heap x dx C mA)(hg:W.plainGet K C name=Zh)(hh:W.hasDictIn K C=Zh) (ha:W.findIn K (.ref C) name=Za Zd)(hv:mA name=Za v)(hv':W.handedIn v=Zh)(h:Q v {s with toks:=s.toks+1}):Zt (Zz prog w) A (getAttr (.ref x) name expr) Q E s:=by obtain⟨od,J,hl⟩:=I.look;exact W.get_value X J (W.plainGet_of hg).1 (W.findObj_own hh ha rfl (by rw[hl,hv])) hv' h
theorem Js6{pl:Sem Bool}{Q:Zg×Tv->Zk->Prop}(X:K.In s.heap)(I:ObjM s.heap x dx C mA)(hg:W.plainGet K C name=Zh) (hf:W.findIn K (.ref C) name=Za (Za<|.ref f))(ht:W.isFn K (.ref f)=Zh)(hv:mA name=Zd)(h:Q (.ref f,[.ref x]) s):Zt (Zz prog w) A (ZeF (.ref x) name pl) Q E s:=by obtain⟨od,J,hl⟩:=I.look;exact W.method_fn X J (W.plainGet_of hg).1 (W.plainGet_of hg).2 hf (beq_iff_eq.mp ht) (by show(W.lookIn name od).map (·.isSome)=Za Zj;rw[hl,hv];rfl) h
theorem Jyu{ns:Tk}{Q:Unit->Zk->Prop}(X:K.In s.heap)(I:ObjM s.heap x dx C mA) (hs:W.findIn K (.ref C) "__setattr__"=Za (Za<|.builtin "object.__setattr__"))(hp:W.plainOver K C=Zh)(ht:W.takerIn K C name=Za Zd)(hh:W.hasDictIn K C=Zh) (hw:ZfV mA ns)(hsz:ns.length<=sizeLine) (h:∀h',ObjM h' x dx C (λy=>if y=name then Za v else mA y)->ZbB dx s.heap h'->Q () {s with heap:=h',toks:=s.toks+2}):Zt (Zz prog w) A (setAttr (.ref x) name v) Q E s:=by
 obtain⟨od,J,hl⟩:=I.look;refine W.set_plain X J hs (W.osa_open (s:={s with toks:=s.toks+1}) (r:=Zd) X J hp ht λb=>?_);obtain⟨cd,hc,hd'⟩:=W.any_some hh;have hx:s.heap.get? x=Za #[.ref C,Za dx,.plain,#[]]:=I.obj;refine Zc (Zn<|Zc<|Zc<|wpAny_loadPart hx<|Zc<|W.Looks.here (s:={s with toks:=s.toks+1}) (W.looks_clsIn X hc) ?_);rw[hd'];refine Zn (a:=Za dx)<|Zc<|Zn<|Zc ?_;refine wpAny_nsSet1 (s:={s with toks:=s.toks+1}) I.ns λh' hn2 hs2=>?_
 obtain⟨oD,esD,epD,hoD,hdD,hcD⟩:=hn2.count<|PySem.Within.cons name v hw;refine Zc (wpAny_lookBehind hoD (by rw[hdD];exact pastItsLine_dict<|ZC hcD<|by rw[ZN];lia) ?_);exact Zn<|h _ #[(hs2.2 _<|ZP I.ne).trans I.obj,hn2,I.ne] hs2
theorem Jt3{R:ZeV->Zk->Prop}{vs:Tv}{kw:Wk}(X:K.In s.heap)(hm:W.makesIn K C=Zh) (hi:W.findIn K (.ref C) "__init__"=Za (Za<|.ref f))(hf:W.typeIn K (.ref f)=Za (.type "function")) (h:ZcR (Zz prog w) (A.under<|.builtin "type.__call__" #[.ref C::vs,kw]) (.call (.ref f) #[.ref (s.heap.objs.size+1)::vs,kw]) (W.InitBack (s.heap.objs.size+1) R) {s with heap:=(s.heap.push W.emptyDict).push (W.instObj C s.heap.objs.size)}):ZcR (Zz prog w) A (.call (.ref C) #[vs,kw]) R s:=by obtain⟨hh,g,d,t,os⟩:=s;exact W.make_core (W.makes_of X hm) (W.looks_findIn X hi) (λself=>W.bind_fn X self hf) (.inl rfl) h
end
noncomputable def putF (f:Str)(v:V):Wr->Wr|[]=>[(f,v)]|(g,x)::r=>if g=f then(g,v)::r else(g,x)::putF f v r
theorem Jfz(f g:Str)(v:V):∀fs:Wr,(putF f v fs).lookup g=if g=f then Za v else fs.lookup g
 |[]=>by
  show Zcc g [(f,v)]=_;by_cases h:g=f
  ·have hb:(g==f)=Zh:=beq_iff_eq.mpr h;simp only[Zcc,hb,if_pos h]
  ·have hb:(g==f)=Zj:=beq_eq_false_iff_ne.mpr h;simp only[Zcc,hb,if_neg h]
 |(k,x)::r=>by
  have ih:=Jfz f g v r;rw[show putF f v ((k,x)::r)=(if k=f then(k,v)::r else(k,x)::putF f v r)from rfl];by_cases hk:k=f
  ·rw[if_pos hk];by_cases h:g=k
   ·have hb:(g==k)=Zh:=beq_iff_eq.mpr h;simp only[Zcc,hb,if_pos<|h.trans hk]
   ·have hb:(g==k)=Zj:=beq_eq_false_iff_ne.mpr h;simp only[Zcc,hb,if_neg λe:g=f=>h<|e.trans hk.symm]
  ·rw[if_neg hk];by_cases h:g=k
   ·have hb:(g==k)=Zh:=beq_iff_eq.mpr h;simp only[Zcc,hb,if_neg λe:g=f=>hk<|h.symm.trans e]
   ·have hb:(g==k)=Zj:=beq_eq_false_iff_ne.mpr h;simp only[Zcc,hb];exact ih
theorem Jfx(f:Str)(v:V):∀fs:Wr,f∈(putF f v fs).map (·.1)/\∀g,g∈fs.map (·.1)->g∈(putF f v fs).map (·.1)
 |[]=>#[by simp[putF],λg h=>by simp at h]
 |(k,x)::r=>by
  obtain⟨i1,i2⟩:=Jfx f v r;rw[show putF f v ((k,x)::r)=(if k=f then(k,v)::r else(k,x)::putF f v r)from rfl];by_cases hk:k=f
  ·rw[if_pos hk];subst hk;exact#[03,λg h=>by simpa using h]
  ·rw[if_neg hk];refine#[?_,λg h=>?_]
   ·rw[ZQ];exact Zl _ i1
   ·rw[ZQ]at h ⊢;rcases ZB.mp h with e|e
    ·exact ZB.mpr<|.inl e
    ·exact Zl _<|i2 g e
theorem Jfy(f:Str)(v:V):∀fs:Wr,(putF f v fs).length<=fs.length+1
 |[]=>by simp[putF]
 |(k,x)::r=>by
  have ih:=Jfy f v r;rw[show putF f v ((k,x)::r)=(if k=f then(k,v)::r else(k,x)::putF f v r)from rfl];by_cases hk:k=f
  ·rw[if_pos hk,ZN,ZN];lia
  ·rw[if_neg hk,ZN,ZN];lia
theorem RelO.some_of{v:V}{o:Wz}(r:RelO (Za v) o):∃u,o=Za u/\RelV v u:=by
 cases o with
 |none=>exact Zf r
 |some u=>exact#[u,rfl,r]
theorem RelO.none_of{o:Wz}(r:RelO Zd o):o=Zd:=by cases o with|none=>rfl|some u=>exact Zf r
theorem Jp4{v:V}{u:Zg}(r:RelV v u):W.handedIn u=Zh:=by cases v with|non=>cases (show u=Zac from r);rfl|bl b=>cases (show u=ZdF b from r);rfl|int i=>obtain⟨t,e⟩:=(show ∃t,u=ZcC i t from r);cases e;rfl|str x=>obtain⟨t,e⟩:=(show ∃t,u=ZfG x t from r);cases e;rfl|byt b=>obtain⟨t,e⟩:=(show ∃t,u=Value.bytes b t from r);cases e;rfl|flt b=>obtain⟨t,e⟩:=(show ∃t,u=Value.float b t from r);cases e;rfl|ref a=>cases (show u=Zeg a from r);rfl|ty n=>cases (show u=Zej n from r);rfl
section
variable{P:ZD}{w:ZV}{H H':Hp}{h h':Zaw}{a C dx:Zo}{fs fs':Wr}
theorem Jh6(hok:HOk P w H h)(e:H a=Za (.ins C dx fs)):∃mA,ObjM h a dx C mA/\(∀f,RelO (fs.lookup f)<|mA f)/\ZfV mA (fs.map (·.1))/\fs.length<=1000/\H dx=Za (.own a):=by obtain⟨d,z,ne,ob,mA,n,r,q⟩:=(show JG P w H h a (.ins C dx fs)from hok a _ e);exact#[mA,#[ob,n,ne],r,q,z,d]
end
structure Cls(K:W.Frag)(C:Zo):Prop where
 pg:W.plainGet K C Str.empty=Zh
 hd:W.hasDictIn K C=Zh
 po:W.plainOver K C=Zh
 sa:W.findIn K (.ref C) "__setattr__"=Za (Za<|.builtin "object.__setattr__")
theorem Cls.get{K:W.Frag}{C:Zo}(c:Cls K C)(f:Str):W.plainGet K C f=Zh:=c.pg
def Qz(K:W.Frag)(C:Zo)(f:Str):Prop:=W.findIn K (.ref C) f=Za Zd
theorem Qz.taker{K:W.Frag}{C:Zo}{f:Str}(n:Qz K C f):W.takerIn K C f=Za Zd:=by unfold W.takerIn;rw[show W.findIn K (.ref C) f=Za Zd from n];rfl
structure Meth(K:W.Frag)(C:Zo)(m:Str)(f:Zo):Prop where
 at_:W.findIn K (.ref C) m=Za (Za<|.ref f)
 fn:W.isFn K (.ref f)=Zh
 kp:W.keepIn K (.ref f)=Zh
section
variable{X:Cx}{pj:PnT}{σ:St}{H:Hp}{s:Zk}{a C dx:Zo}{fs:Wr}{f:Str}{v:V}{A:ZH}{E:QvT}
theorem Jgy{b:Bool}{Q:QvT}(I:Inv X pj σ H s)(e:H a=Za (.ins C dx fs))(c:Cls X.K C)(n:Qz X.K C f)(l:fs.lookup f=Za v) (h:∀u s',Inv X pj σ H s'->RelV v u->Q u s'):Zt (Zz X.prog X.w) A (getAttr (.ref a) f b) Q E s:=by
 obtain⟨mA,O,r,_,_,_⟩:=Jh6 I.hok e;obtain⟨u,hu,ru⟩:=RelO.some_of (v:=v) (o:=mA f)<|by rw[<-l];exact r f
 exact Jxg I.kIn O (c.get f) c.hd n hu (Jp4 ru)<|h u _ (I.tok _) ru
theorem Jgz{m:Str}{g:Zo}{pl:Sem Bool}{Q:Zg×Tv->Zk->Prop}(I:Inv X pj σ H s)(e:H a=Za (.ins C dx fs))(c:Cls X.K C)(k:Meth X.K C m g)(l:fs.lookup m=Zd) (h:Q (.ref g,[.ref a]) s):Zt (Zz X.prog X.w) A (ZeF (.ref a) m pl) Q E s:=by
 obtain⟨mA,O,r,_,_,_⟩:=Jh6 I.hok e;have hn:mA m=Zd:=RelO.none_of<|by rw[<-l];exact r m
 exact Js6 I.kIn O (c.get m) k.at_ k.fn hn h
theorem Jg4{y:V}{u:Zg}{Q:Unit->Zk->Prop}(I:Inv X pj σ H s)(e:H a=Za (.ins C dx fs))(c:Cls X.K C)(n:Qz X.K C f)(hl:fs.length<1000)(ry:RelV y u) (h:∀s',Inv X pj σ (upd H a<|.ins C dx<|putF f y fs) s'->Q () s'):Zt (Zz X.prog X.w) A (setAttr (.ref a) f u) Q E s:=by
 obtain⟨mA,O,r,wi,_,ho⟩:=Jh6 I.hok e;have hz:(fs.map (·.1)).length<=sizeLine:=by rw[Zr,Zbi];lia
 refine Jyu I.kIn O c.sa c.po n.taker c.hd wi hz λh' O' sb=>h _ ?_
 have hd:∃o,h'.get? dx=Za o:=let ⟨o,_,_,e',_⟩:=O'.ns;#[o,e'];refine I.write (x:=a) (e:=dx) (by rw[e];exact Za8) (.inr ho) (λb q hb z=>(sb.2 b hb).trans z) hd ?_;refine#[by rw[Jn O.ne];exact ho,?_,O.ne,O'.obj,_,O'.ns,λg=>?_,λg hg=>?_]
 ·have:=Jfy f y fs;lia
 ·show RelO ((putF f y fs).lookup g) (if g=f then Za u else mA g);rw[Jfz];by_cases q:g=f
  ·rw[if_pos q,if_pos q];exact ry
  ·rw[if_neg q,if_neg q];exact r g
 ·by_cases q:g=f
  ·rw[q];exact(Jfx f y fs).1
  ·refine(Jfx f y fs).2 g (wi g λz=>hg ?_);show(if g=f then Za u else mA g)=Zd;rw[if_neg q];exact z
theorem Inv.made(I:Inv X pj σ H s):Inv X pj σ (upd (upd H s.heap.objs.size<|.own<|s.heap.objs.size+1) (s.heap.objs.size+1)<|.ins C s.heap.objs.size []) {s with heap:=(s.heap.push W.emptyDict).push (W.instObj C s.heap.objs.size)}:=by
 have e1:(s.heap.push W.emptyDict).get? s.heap.objs.size=Za W.emptyDict:=Zv s.heap rfl;have e2:((s.heap.push W.emptyDict).push<|W.instObj C s.heap.objs.size).get? (s.heap.objs.size+1)=Za (W.instObj C s.heap.objs.size):=by have:=Zv (s.heap.push W.emptyDict) (o:=W.instObj C s.heap.objs.size) rfl;rwa [ZbV]at this
 have e3:(s.heap.push W.emptyDict).Ns s.heap.objs.size (λ_=>Zd):=#[W.emptyDict,#[],_,e1,rfl,(λe he=>absurd he 03),λ_=>rfl];have I1:=I.laid (a:=s.heap.objs.size) (o:=.own<|s.heap.objs.size+1) (h':=s.heap.push W.emptyDict) (t':=s.toks) (λb u q=>Ze _ q) (Zm _) #[_,e1];refine I1.laid (a:=s.heap.objs.size+1) (o:=.ins C s.heap.objs.size []) (t':=s.toks) (λb u q=>Ze _ q) (ZcS<|ZbV _ _) ?_;have ne:s.heap.objs.size≠s.heap.objs.size+1:=Z5<|Za4 _;refine#[by rw[Jn ne,Jz],ZA _,ne,e2,λ_=>Zd,(Heap.Ns1.of_empty e3).at λo q=>Ze _ q,λ_=>Za8,λy hy=>absurd rfl hy]
theorem Jwu{prog:ZD}{w:ZV}{env:Env}{e:Expr}{f:Str}{pos:Pos}{s:Zk}{Q:QvT}(hb:ZdL e f env (Zby e env)=Zby e env) (h:Zt (Zz prog w) A (Zby e env) (λo s₁=>Zt (Zz prog w) A (getAttr o f Zh) Q E s₁) E s):Zt (Zz prog w) A (Zby (.Attribute e f pos) env) Q E s:=Attribute_any_ h (by rw[arm_eval_Attribute,hb])
end
structure Room(k:Nat)(A:ZH):Prop where
 hd:A.handled=Zd
 dp:A.depth+3*k+5<recursionLimit
 un:A.units+16*k+200<cLine
theorem Room.mono{j k:Nat}{A:ZH}(r:Room k A)(h:j<=k):Room j A:=#[r.hd,by have:=r.dp;lia,by have:=r.un;lia]
theorem Room.deeper{k:Nat}{A:ZH}(r:Room (k+1) A)(env:Env):Room k (A.deeper env):=#[r.hd,by have:=r.dp;show A.depth+1+3*k+5<_;lia,by have:=r.un;show A.units+3+16*k+200<_;lia]
theorem Room.in1{k:Nat}{A:ZH}(r:Room (k+1) A):Room k A.in1:=#[r.hd,by have:=r.dp;show A.depth+3*k+5<_;lia,by have:=r.un;show A.units+1+16*k+200<_;lia]
theorem Jnz{A:ZH}{C:Zo}{us:Tv}{kw:Wk}:(A.under<|.builtin "type.__call__" #[.ref C::us,kw]).depth=A.depth+1:=by first|rfl|simp[ZfX,Code.weight,Code.isCreation,Code.isGuard,Code.isCaller,Code.frames,ZfY,guardIds]
theorem Jn0{A:ZH}{C:Zo}{us:Tv}{kw:Wk}:(A.under<|.builtin "type.__call__" #[.ref C::us,kw]).units=A.units+1:=by first|rfl|simp[ZfX,Code.cUnits,Code.frames,ZfY]
theorem Room.make{k:Nat}{A:ZH}(r:Room (k+1) A)(C:Zo)(us:Tv)(kw:Wk):Room k (A.under<|.builtin "type.__call__" #[.ref C::us,kw]):=#[r.hd,by have:=r.dp;rw[Jnz];lia,by have:=r.un;rw[Jn0];lia]
theorem Room.depth{k:Nat}{A:ZH}(r:Room k A):A.depth<recursionLimit:=by have:=r.dp;lia
theorem Room.units{k:Nat}{A:ZH}(r:Room k A):A.units+64<cLine:=by have:=r.un;lia
abbrev Sp:=Ud->Hp->VK->XK->Prop
abbrev CXT:=Tl->Hp->Zk->XK->QvT
structure Env0(P:ZD)(w:ZV)(K:W.Frag)(mg:Str->Wz)(base:Zaw)(A:ZH)(outer:Tl)(s:Zk)(H:Hp):Prop where
 frames:A.frames=Za outer
 mod:Mod K mg base
 bs:∀b o,base.get? b=Za o->s.heap.get? b=Za o/\H b=Zd
 bsz:base.objs.size<=s.heap.objs.size
 funs:s.heap.FunFrames base outer
 frf:∀b∈frs outer,H b=Zd
 hok:HOk P w H s.heap
 bare:Zea s.gens
def CE(outer:Tl)(P:ZD)(w:ZV)(H:Hp)(s:Zk)(Q:VK)(u:Zg)(s':Zk):Prop:=∃v H',s'.os=s.os/\Zea s'.gens/\Un (frs outer) [] H H' s.heap s'.heap/\HOk P w H' s'.heap/\RelV v u/\Q v H'
def CR(CX:CXT)(outer:Tl)(P:ZD)(w:ZV)(H:Hp)(s:Zk)(Q:VK)(E:XK)(r:ZeV)(s':Zk):Prop:=match r with|.ok (.ret u)=>CE outer P w H s Q u s'|.ok _=>False|.error e=>CX outer H s E e s'
structure FnOk(P:ZD)(w:ZV)(K:W.Frag)(mg:Str->Wz)(base:Zaw)(CX:CXT)(k:Nat)(f:Zo)(fd:Zbc)(ps:Tk)(sp:Sp):Prop where
 len:∀vs H Q E,sp vs H Q E->vs.length=ps.length
 run:∀(A:ZH)(outer:Tl)(s:Zk)(H:Hp)(args:Args)(us:Tv)(vs:Ud)(Q:VK)(E:XK),Room k A->Env0 P w K mg base A outer s H->Zd1 s fd args (ps.zip us)->Vals vs us->sp vs H Q E ->ZcR (Zz P w) A (.call (.ref f) args) (CR CX outer P w H s Q E) s
theorem FnOk.imp{P:ZD}{w:ZV}{K:W.Frag}{mg:Str->Wz}{base:Zaw}{CX:CXT}{k:Nat}{f:Zo}{fd:Zbc}{ps:Tk}{sp sp':Sp}(F:FnOk P w K mg base CX k f fd ps sp) (h:∀vs H Q E,sp' vs H Q E->sp vs H Q E):FnOk P w K mg base CX k f fd ps sp':=#[λvs H Q E q=>F.len vs H Q E<|h _ _ _ _ q,λA outer s H args us vs Q E hr he hb hv hs=>F.run A outer s H args us vs Q E hr he hb hv<|h _ _ _ _ hs]
theorem Env0.make{P:ZD}{w:ZV}{K:W.Frag}{mg:Str->Wz}{base:Zaw}{A:ZH}{outer:Tl}{s:Zk}{H:Hp}(e:Env0 P w K mg base A outer s H)(C:Zo)(us:Tv)(kw:Wk):Env0 P w K mg base (A.under<|.builtin "type.__call__" #[.ref C::us,kw]) outer s H:=#[by first|exact e.frames|(simpa[ZfX,Code.envs,ZfY,pushEnvs]using e.frames),e.mod,e.bs,e.bsz,e.funs,e.frf,e.hok,e.bare]
section
variable{X:Cx}{pj:PnT}{σ:St}{H:Hp}{s s':Zk}
theorem Inv.env0(I:Inv X pj σ H s):Env0 X.prog X.w X.K X.mg X.base X.A X.stack s H:=#[I.ok.frames,I.ok.mod,I.bs,ZC I.ok.bsz I.sz,I.stack,I.stkFree,I.hok,I.bare]
theorem Inv.after{Q:VK}{u:Zg}(I:Inv X pj σ H s)(h:CE X.stack X.prog X.w H s Q u s'):EP X pj σ Q u s':=by obtain⟨v,H',os,bare,un,hok,r,q⟩:=h;obtain⟨hh,g,d,t,os'⟩:=s';obtain rfl:os'=s.os:=os;exact#[v,H',I.call (h':=hh) (g':=g) (d':=d) (t':=t) (ch:=[]) un hok bare λb z=>absurd z 03,r,q]
end
def Qh(K:W.Frag)(fd:Zbc)(ps:Tk)(ds:Tv):Prop:=∀(s:Zk)(us:Tv),K.In s.heap->(us++ds).length=ps.length->Zd1 s fd #[us,[]] (ps.zip<|us++ds)
theorem Qh.all{K:W.Frag}{fd:Zbc}{ps:Tk}(h:∀us:Tv,us.length=ps.length->Zf0 fd #[us,[]]=pure (ps.zip us)):Qh K fd ps []:=λs us _ hl=>by rw[ZaI]at hl ⊢;exact .of_eq<|h us hl
section
variable{X:Cx}{CX:CXT}{k:Nat}{f C:Zo}{fd:Zbc}{ps:Tk}{sp:Sp}{dvs:Ud}{ds:Tv}{E:XK}{x m:Str}{p pos apos:Pos}{e o:Expr}{es:Td}{ta:TE}{t:TA}
structure Mk(K:W.Frag)(C f:Zo):Prop where
 makes:W.makesIn K C=Zh
 init:W.findIn K (.ref C) "__init__"=Za (Za<|.ref f)
 fn:W.isFn K (.ref f)=Zh
 kp:W.keepIn K (.ref C)=Zh
end
structure FnScope(N P:Tk)(sc:ZbF):Prop where
 kind:sc.kind=.function
 co:sc.isCoroutine=Zj
 gen:sc.isGenerator=Zj
 nd:N.Nodup
 pre:N.take P.length=P
 par:∀x∈P,sc.names.lookup x=Za .local∨sc.names.lookup x=Za .cell
 nofree:∀y∈sc.names,y.2≠.free
theorem Ji0{kindOf:Str->Ww}{x:Str}:∀{binds:Wk}{m:Str->Wz},(∀v,(x,v)∉binds)->bindL kindOf binds m x=m x
 |[],_,_=>rfl
 |(n,v)::r,m,h=>by
  unfold bindL;rw[Ji0 λw hw=>h w<|Zl _ hw];split
  ·have:x≠n:=by rintro rfl;exact h v Z2
   simp[this]
  ·rfl
theorem Jiy{kindOf:Str->Ww}{x:Str}:∀{binds:Wk}{m:Str->Wz},(∀v,(x,v)∉binds)->bindC kindOf binds m x=m x
 |[],_,_=>rfl
 |(n,v)::r,m,h=>by
  unfold bindC;rw[Jiy λw hw=>h w<|Zl _ hw];split
  ·rfl
  ·have:x≠n:=by rintro rfl;exact h v Z2
   simp[this]
theorem Jiz{kindOf:Str->Ww}{x:Str}{v:Zg}:∀{P:Tk}{vs:Tv}{i:Nat}{m:Str->Wz},P.Nodup->P[i]?=Za x->vs[i]?=Za v->kindOf x=Za .local ->bindL kindOf (P.zip vs) m x=Za v
 |[],_,_,_,_,h,_,_=>by simp at h
 |_::_,[],_,_,_,_,h,_=>by simp at h
 |p::P,w::vs,0,m,nd,h1,h2,hk=>by simp at h1 h2;subst h1;subst h2;show bindL kindOf ((p,w)::P.zip vs) m p=_;unfold bindL;rw[Ji0 λv hv=>(Zc7.mp nd).1 (Zfi hv).1,if_pos hk];simp
 |p::P,w::vs,i+1,m,nd,h1,h2,hk=>by show bindL kindOf ((p,w)::P.zip vs) m x=_;unfold bindL;exact Jiz (i:=i) (Zc7.mp nd).2 (by simpa using h1) (by simpa using h2) hk
theorem Jix{kindOf:Str->Ww}{x:Str}{v:Zg}:∀{P:Tk}{vs:Tv}{i:Nat}{m:Str->Wz},P.Nodup->P[i]?=Za x->vs[i]?=Za v->kindOf x≠Za .local ->bindC kindOf (P.zip vs) m x=Za v|[],_,_,_,_,h,_,_=>by simp at h|_::_,[],_,_,_,_,h,_=>by simp at h|p::P,w::vs,0,m,nd,h1,h2,hk=>by simp at h1 h2;subst h1;subst h2;show bindC kindOf ((p,w)::P.zip vs) m p=_;unfold bindC;rw[Jiy λv hv=>(Zc7.mp nd).1 (Zfi hv).1,if_neg hk];simp|p::P,w::vs,i+1,m,nd,h1,h2,hk=>by show bindC kindOf ((p,w)::P.zip vs) m x=_;unfold bindC;exact Jix (i:=i) (Zc7.mp nd).2 (by simpa using h1) (by simpa using h2) hk
noncomputable def start (N:Tk)(vs:Ud):St:=vs.map Za++Zab (N.length-vs.length) Zd
noncomputable def cxOf (CX:CXT)(P:ZD)(w:ZV)(K:W.Frag)(mg:Str->Wz)(base:Zaw)(N:Tk)(qual:Str)(scope:ZbF)(f:Zo)(cd:Zg)(A:ZH)(outer:Tl)(s:Zk)(H:Hp)(E:XK):Cx where
 prog:=P
 w:=w
 K:=K
 mg:=mg
 base:=base
 A:=A.deeper<|Zf1 qual scope s.heap.objs.size f cd
 N:=N
 s₀:=s
 H₀:=H
 env:=Zf1 qual scope s.heap.objs.size f cd
 outer:=outer
 stack:=Zf1 qual scope s.heap.objs.size f cd::outer
 ex:=[]
 calm:=Zh
 fn:=λ_=>Zh
 pn:=[]
 xe:=λe s'=>Zt (Zz P w) (A.deeper<|Zf1 qual scope s.heap.objs.size f cd) (leaving (Zf1 qual scope s.heap.objs.size f cd) e) (λ_ s''=>CX outer H s E e s'') (λe' s''=>CX outer H s E e' s'') s'
theorem Jlw{sc:ZbF}{n:Nat}{x:Str}(h:sc.names.lookup x=Za .cell):∃c,(cellsFrom n sc.names []).lookup x=Za c:=by have q:=W.cellsFrom_some sc.names n []<|.inl h;exact ZbC.mp q
theorem Jqf{CX:CXT}{P:ZD}{w:ZV}{K:W.Frag}{mg:Str->Wz}{base:Zaw}{N ps:Tk}{qual:Str}{scope:ZbF}{f:Zo}{cd:Zg}{A:ZH}{outer:Tl}{s s1:Zk}{H:Hp}{E:XK}{us:Tv}{vs:Ud} (S:FnScope N ps scope)(hd:A.handled=Zd)(e0:Env0 P w K mg base A outer s H)(hl:vs.length=ps.length)(r:Vals vs us) (x:InCallC s s.heap.objs.size (bindL (Zf1 qual scope s.heap.objs.size f cd).kindOf (ps.zip us) λ_=>Zd) (cellsFrom (s.heap.objs.size+1) scope.names []) (bindC (Zf1 qual scope s.heap.objs.size f cd).kindOf (ps.zip us) λ_=>Zd) s1):Inv (cxOf CX P w K mg base N qual scope f cd A outer s H E) [] (start N vs) H s1:=by
 have hpl:ps.length<=N.length:=by have:=congrArg List.length S.pre;rw[ZeG]at this;lia
 obtain⟨h1,tk,rfl,hk⟩:=x.done;have noA:∀b:Zo,b∉(cxOf CX P w K mg base N qual scope f cd A outer s H E).ex:=λb z=>absurd (show b∈([]:Tw)from z) 03
 refine#[#[e0.mod,S.kind,rfl,rfl,Zm _,λy z c h1 h2=>?_,λy hy=>?_,λy c _ h=>?_,λ_=>hd,Around.frames_deeper e0.frames,.inr #[rfl,rfl],λb z=>absurd z<|noA b,e0.bs,e0.bsz,λb _ _=>noA b,λb z=>absurd z<|noA b,e0.funs,e0.frf],rfl,e0.bare,Un.kept hk,#[_,x.toInCall.ns,λi y v h1 h2 h3=>?_],λy c h=>#[_,x.cell y c h],e0.hok.fresh<|Zm _,λy c h=>?_,λp hp=>absurd (show p∈([]:PnT)from hp) 03,e0.hok.kept hk,?_]
 ·exact name_of_addr x.apart (Zap h1)<|Zap h2
 ·have hy:scope.names.lookup y=Za .cell∨scope.names.lookup y=Za .free:=hy;rcases hy with hy|hy
  ·exact Jlw hy
  ·exact absurd rfl (S.nofree _<|Zap hy)
 ·exact Zaa<|x.above y c<|Zap h
 ·have hi:i<vs.length:=by
   unfold start at h2;by_cases hi:i<vs.length
   ·exact hi
   ·rw[ZE<|by simpa using hi]at h2;rw[Zcq]at h2;split at h2<;>cases h2
  have ha:vs[i]?=Za v:=by unfold start at h2;rw[ZI (by simpa using hi),Zy]at h2;cases e:vs[i]? with|none=>rw[e]at h2;cases h2|some a=>rw[e]at h2;cases h2;rfl
  obtain⟨u,hu,rv⟩:=r.get ha;have hp:ps[i]?=Za y:=by rw[<-S.pre,List.getElem?_take_of_lt 05];exact h1
  have ndP:ps.Nodup:=by rw[<-S.pre];exact S.nd.sublist<|List.take_sublist _ _
  refine#[u,rv,?_];rcases S.par y (ZcJ hp)with k|k
  ·exact .inl #[k,Jiz ndP hp hu k]
  ·obtain⟨c,e⟩:=Jlw (n:=s.heap.objs.size+1) k;refine .inr #[.inl k,c,e,?_];have q:=x.cell y c e;rw[Jix ndP hp hu (by show scope.names.lookup y≠_;rw[k];decide)]at q;exact q
 ·exact e0.hok.fresh<|Zaa<|x.above y c<|Zap h
 ·unfold start;show _=N.length;rw[Z7,Zr,ZbX];lia
theorem J3y{CX:CXT}{P:ZD}{w:ZV}{K:W.Frag}{mg:Str->Wz}{base:Zaw}{k:Nat}{f:Zo}{name qual:Str}{params:ZcT}{body:Tn}{scope:ZbF}{dV kV doc pm cdv ct oc:Zg}{an od:Tc} {osl:Wc}{N ps:Tk}{sp:Sp}(lk:K.lookup f=Za #[oc,od,.func<|W.fnOf name qual params body scope dV kV doc pm an cdv ct,osl])(hcd:W.codeIn K cdv qual=Zh)(S:FnScope N ps scope) (len:∀vs H Q E,sp vs H Q E->vs.length=ps.length) (hbody:∀(A:ZH)(outer:Tl)(s:Zk)(H:Hp)(vs:Ud)(Q:VK)(E:XK),Room k (A.deeper<|Zf1 qual scope s.heap.objs.size f cdv)->sp vs H Q E ->∃t,PSs (cxOf CX P w K mg base N qual scope f cdv A outer s H E) body t/\t {nx:=λ_ H'=>Q .non H',rt:=Q} (start N vs) H):FnOk P w K mg base CX (k+1) f (W.fnOf name qual params body scope dV kV doc pm an cdv ct) ps sp:=by
 refine#[len,λA outer s H args us vs Q E hr e0 hb r hsp=>?_];have hl:=len _ _ _ _ hsp;have KX:K.In s.heap:=e0.mod.kin.keeps λb o e=>(e0.bs b o e).1
 have lim:s.heap.NoLimit:=e0.mod.nolimit.keeps λb o e=>(e0.bs b o e).1
 have hkind:∀y∈ps.zip us,scope.names.lookup y.1=Za .local∨(scope.names.lookup y.1=Za .cell/\((cellsFrom (s.heap.objs.size+1) scope.names []).lookup y.1).isSome=Zh):=λ⟨n,v⟩ hy=>by
  rcases S.par n (Zfi hy).1 with q|q
  ·exact .inl q
  ·exact .inr #[q,W.cellsFrom_some _ _ _<|.inl q]
 refine codeAny_call_function hr.depth (KX _ _ lk) rfl S.co S.gen rfl (W.codeRec_of KX hcd) (hb _ _ _ _ ?_);refine wpAny_newFunctionEnv_cells S.kind hkind λenv he s1 x=>?_
 subst he;refine#[lim.keeps x.toInCall.keep,codeAny_func ?_];obtain⟨t,ht,hq⟩:=hbody A outer s H vs Q E (hr.deeper _) hsp;have I:Inv (cxOf CX P w K mg base N qual scope f cdv A outer s H E) [] (start N vs) H s1:=Jqf S hr.hd e0 hl r x;refine Zar (ht [] s1 (start N vs) H _ I hq) (λfl s' hs=>?_) λe s' hs=>hs
 have fin:∀{σ':St}{H':Hp}{v:V}{u:Zg},Inv (cxOf CX P w K mg base N qual scope f cdv A outer s H E) [] σ' H' s'->RelV v u->Q v H'->CE outer P w H s Q u s':=λ{σ' H' v u} J rv q=>#[v,H',J.os,J.bare,J.base,J.hok,rv,q];cases fl with|ret u=>obtain⟨v,σ',H',J,rv,q⟩:=hs;exact fin J rv q|next=>obtain⟨σ',H',J,q⟩:=hs;exact fin (v:=V.non) (u:=Zac) J rfl q|brk=>obtain⟨_,_,_,q⟩:=hs;exact ZbM q|cont=>obtain⟨_,_,_,q⟩:=hs;exact ZbM q
end L2
namespace HT
open PySem PyProof.Rows
section
variable{prog:ZD}{w:ZV}{A:ZH}{E:QvT}{s:Zk}
theorem cat_tup{t b:Zo}{vs ws:Tv}{Q:QvT}(ht:IsTup s.heap t vs.toArray)(hb:IsTup s.heap b ws.toArray)(hv:vs≠[])
  (h1:ws=[]->Q (.ref t) s)(h2:ws≠[]->Q (.ref s.heap.objs.size) {s with heap:=s.heap.push {cls:=.type "tuple",data:=.seq (vs++ws).toArray} })
  (hsz:vs.length+ws.length<=sizeLine):Zt (Zz prog w) A (Zbv .Add (.ref t)<|.ref b) Q E s:=by
 obtain⟨⟨cls,dd,data,sl⟩,ho,hc,n,hd⟩:=id ht;obtain⟨⟨cls2,dd2,data2,sl2⟩,ho2,hc2,n2,hd2⟩:=id hb;simp only at hc hd hc2 hd2;subst hc hd hc2 hd2;have e:vs.toArray++ws.toArray=(vs++ws).toArray:=03;by_cases hw:ws=[]
 ·exact concat_meets #[_,ho,rfl] #[_,ho2,rfl] noFill_tuple_add seq_tuple_add ZeW ZeH (Ze2 _ _)
   (tuple_addW1 t b vs.toArray ws.toArray n n2 dd dd2 sl sl2 (by simpa using hv)<|by simp[hw]) #[ho,ho2,h1 hw]
 ·refine concat_meets #[_,ho,rfl] #[_,ho2,rfl] noFill_tuple_add seq_tuple_add ZeW ZeH (Ze2 _ _)
   (tuple_addW2 t b vs.toArray ws.toArray n n2 dd dd2 sl sl2 (by simpa using hv) (by simpa using hw)<|by rw[Zx,Zx];exact hsz) #[ho,ho2,?_]
  rw[e];exact h2 hw
noncomputable def sIx (n d:Nat):Wx->Nat|none=>d|some v=>if v<0 then(v+(n:Int)).toNat else min v.toNat n
theorem sIx_none(n d:Nat):sIx n d Zd=d:=rfl
theorem sIx_nat(n d k:Nat):sIx n d (Za (k:Int))=min k n:=by show(if (k:Int)<0 then((k:Int)+(n:Int)).toNat else min (k:Int).toNat n)=min k n;rw[if_neg 05,ZaO]
end
end HT
namespace L2
open PySem PySem.Spec PyProof.Rows
abbrev TO:=St->Hp->(Wx->Hp->Prop)->Prop
section
variable{X:Cx}{e:Expr}{te:TE}{lo hi:Wt}{tl th:TO}{pos p2:Pos}
def SlR(X:Cx)(r:V->Wx->Wx->Hp->VK->Prop):Prop:=∀(pj:PnT)(s:Zk)(σ:St)(H:Hp)(x:V)(v vl vu:Zg)(lo hi:Wx)(sl:Zo)(Q:VK),Inv X pj σ H s->RelV x v->s.heap.IsSliceOf sl vl vu .none->Zgl vl lo->Zgl vu hi->r x lo hi H Q ->∃T id,ZfP (.type T) "__getitem__"=pure (Za<|.builtin id)/\s.TypeIs v T/\Zt (Zz X.prog X.w) X.A (ZeX v<|.ref sl) (EP X pj σ Q) X.xe s
def cutV(xs:Ud)(lo hi:Wx):Ud:=(xs.drop<|HT.sIx xs.length 0 lo).take<|HT.sIx xs.length xs.length hi-HT.sIx xs.length 0 lo
theorem Jku(xs:Ud)(lo hi:Wx):(cutV xs lo hi).length<=xs.length:=by unfold cutV;rw[ZeG,List.length_drop];lia
def J40(K:W.Frag):R2:=λx y H Q=>∃a b xs ys,x=.ref a/\y=.ref b/\SqT K H a xs/\SqT K H b ys/\xs≠[]/\xs.length+ys.length<=sizeLine /\ (ys=[]->Q (.ref a) H)/\(ys≠[]->∀p,H p=Zd->Q (.ref p) (upd H p<|.tup<|xs++ys))
theorem Vals.nil_iff{xs:Ud}{us:Tv}(r:Vals xs us):us=[]↔xs=[]:=by cases r with|nil=>simp|cons _ _=>simp
theorem Jyc:OpR X (Zbv .Add) (J40 X.K):=by
 intro pj s σ H x y v u Q I rx ry h;obtain⟨a,b,xs,ys,rfl,rfl,ha,hb,hx,hz,q1,q2⟩:=h;cases rx;cases ry;obtain⟨its,r1,p1,_⟩:=I.tuple ha;obtain⟨its2,r2,p2,_⟩:=I.tuple hb;refine HT.cat_tup p1 p2 (λz=>hx<|r1.nil_iff.mp z) (λz=>#[.ref a,H,I,rfl,q1<|r2.nil_iff.mp z]) (λz=>?_)<|by rw[<-r1.length,<-r2.length];exact hz
 refine#[.ref s.heap.objs.size,_,I.laid (t':=s.toks) (o:=.tup<|xs++ys) (λb ob q=>Ze _ q) (Zm _) ?_,rfl,q2 (λw=>z<|r2.nil_iff.mpr w) _<|I.hok.fresh<|Zm _];exact#[by rw[Z7];exact hz,_,r1.append r2,IsTup.new _ _]
end
noncomputable def ixN (n:Nat)(i:Int):Wy:=if 0<=i then(if i<n then Za i.toNat else Zd)else if -(n:Int)<=i then Za (i+n).toNat else Zd
noncomputable def atI {α:Type}(xs:List α)(i:Int):Option α:=(ixN xs.length i).bind λj=>xs[j]?
theorem Jqj{n:Nat}{i:Int}{j:Nat}(h:ixN n i=Za j):seqIndex? i n=Za j/\j<n/\ -(n:Int)<=i/\i<n:=by
 unfold ixN at h;by_cases h0:0<=i
 ·rw[if_pos h0]at h;by_cases h1:i<n
  ·rw[if_pos h1]at h;have e:i.toNat=j:=Zam h;exact#[by rw[Zf2 h0 h1,e],05,05,h1]
  ·rw[if_neg h1]at h;cases h
 ·rw[if_neg h0]at h;by_cases h1: -(n:Int)<=i
  ·rw[if_pos h1]at h;have e:(i+n).toNat=j:=Zam h;exact#[by rw[ZfZ 05 h1,e],05,h1,05]
  ·rw[if_neg h1]at h;cases h
theorem Jhg{α:Type}{xs:List α}{i:Int}{v:α}(h:atI xs i=Za v):∃j,seqIndex? i xs.length=Za j/\xs[j]?=Za v/\j<xs.length/\ -(xs.length:Int)<=i/\i<xs.length:=by unfold atI at h;cases e:ixN xs.length i with|none=>rw[e]at h;cases h|some j=>rw[e]at h;obtain⟨h1,h2,h3,h4⟩:=Jqj e;exact#[j,h1,h,h2,h3,h4]
def Jom(b:Expr):Prop:=∀o i,Zf3 b Zj o i=operate [o,i] (ZeX o i)
def IxR(X:Cx)(r:R2):Prop:=∀(value slice:Expr)(pj:PnT)(s:Zk)(σ:St)(H:Hp)(x y:V)(v u:Zg)(Q:VK),Inv X pj σ H s->RelV x v->RelV y u->r x y H Q ->Zf3 slice Zj v u=operate [v,u] (ZeX v u)->Zt (Zz X.prog X.w) X.A (Ze3 value slice v u) (EP X pj σ Q) X.xe s
section
variable{X:Cx}{a b:Expr}{ta tb:TE}{pos:Pos}
def rIxL(K:W.Frag):R2:=λx y H Q=>∃p xs i v,x=.ref p/\y=.int i/\SqL K H p xs/\atI xs i=Za v/\Q v H
def rIxT(K:W.Frag):R2:=λx y H Q=>∃p xs i v,x=.ref p/\y=.int i/\SqT K H p xs/\atI xs i=Za v/\Q v H
def rIxS:R2:=λx y H Q=>∃z i c,x=.str z/\y=.int i/\z.length<=sizeLine/\atI z.cps.toList i=Za c/\Q (.str ⟨#[c]⟩) H
theorem Jqk:IxR X (rIxL X.K):=by
 intro value slice pj s σ H x y v u Q I rx ry h hs;obtain⟨p,xs,i,z,rfl,rfl,hq,he,q⟩:=h;cases rx;obtain⟨t,rfl⟩:=ry;obtain⟨its,r,pl,hz⟩:=I.list hq;obtain⟨j,h1,h2,h3,h4,h5⟩:=Jhg he;obtain⟨w,ew,rw'⟩:=r.get h2;have hl:=r.length;have hn:=VR;have fin:EP X pj σ Q w s:=#[z,H,I,rw',q];by_cases h0:0<=i
 ·have hj:i.toNat=j:=by rw[Zf2 h0 h5]at h1;exact Zam h1
  exact item_listR pl.isList h0 05 (by rw[hj];simpa using ew) fin hs
 ·have hj:(i+(its.toArray.size:Int)).toNat=j:=by rw[ZfZ 05 h4]at h1;rw[Zx,<-hl];exact Zam h1
  exact Zd2 (x:=w) pl.isList.typeIs slot_list_getitem.lookup
   (wpAny_getItem_list_neg (Q:=λr s'=>r=w/\EP X pj σ Q r s') pl.isList 05 (by rw[Zx]<;>lia) 05 (by rw[hj];simpa using ew) #[rfl,fin]) hs
theorem J07:IxR X (rIxT X.K):=by intro value slice pj s σ H x y v u Q I rx ry h hs;obtain⟨p,xs,i,z,rfl,rfl,hq,he,q⟩:=h;cases rx;obtain⟨t,rfl⟩:=ry;obtain⟨its,r,pl,hz⟩:=I.tuple hq;obtain⟨j,h1,h2,h3,h4,h5⟩:=Jhg he;obtain⟨w,ew,rw'⟩:=r.get h2;have hl:=r.length;have hn:=VR;have fin:EP X pj σ Q w s:=#[z,H,I,rw',q];exact Zd2 (x:=w) pl.typeIs slot_tuple_getitem.lookup (getItem_tuple (j:=j) (Q:=λr s'=>r=w/\EP X pj σ Q r s') pl 05 05 (by rw[Zx,<-hl];exact h1) (by simpa using ew) #[rfl,fin]) hs
theorem J06:IxR X rIxS:=by
 intro value slice pj s σ H x y v u Q I rx ry h hs;obtain⟨z,i,c,rfl,rfl,hz,he,q⟩:=h;obtain⟨t,rfl⟩:=rx;obtain⟨t',rfl⟩:=ry;obtain⟨j,h1,h2,h3,h4,h5⟩:=Jhg he;have hl:z.cps.toList.length=z.length:=by simp[Str.length]
 rw[hl]at h1 h4 h5;have hn:=VR;exact tail_any (typeIs_str s z t) slot_str_getitem.lookup (getItem_str (c:=c) (by have e1:decide (i< -(2^63:Int))=Zj:=decide_eq_false 05;have e2:decide (i ≥ 2^63)=Zj:=decide_eq_false 05;rw[e1,e2,Bool.or_false]) (by rw[h1];simpa using h2) #[.str ⟨#[c]⟩,H,I.tok _,#[_,rfl],q]) hs
theorem Jn1(its:Tv)(n j:Nat)(u:Zg):ZY (·.setIfInBounds j u) {cls:=.type "list",data:=.seq its.toArray n}={cls:=.type "list",data:=.seq (its.set j u).toArray n}:=by simp[ZY]
theorem Inv.lst{pj:PnT}{σ:St}{H:Hp}{s:Zk}{p:Zo}{xs:Ud}(I:Inv X pj σ H s)(h:H p=Za (.lst xs)):∃(its:Tv) (n:Nat),Vals xs its/\s.heap.get? p=Za {cls:=.type "list",data:=.seq its.toArray n}/\xs.length<=sizeLine:=by obtain⟨z,its,n,r,e⟩:=I.hok p _ h;exact#[its,n,r,e,z]
theorem Inv.lstUpd{pj:PnT}{σ:St}{H:Hp}{s:Zk}{p:Zo}{xs ys:Ud}{its its':Tv}{n n':Nat}{f:Obj->Obj}(I:Inv X pj σ H s)(h:H p=Za (.lst xs)) (ho:s.heap.get? p=Za {cls:=.type "list",data:=.seq its.toArray n})(hf:f {cls:=.type "list",data:=.seq its.toArray n}={cls:=.type "list",data:=.seq its'.toArray n'})(r:Vals ys its')(hz:ys.length<=sizeLine)(t:Nat):Inv X pj σ (upd H p<|.lst ys) {s with heap:=s.heap.update p f,toks:=t}:=by
 have e:(s.heap.update p f).get? p=Za {cls:=.type "list",data:=.seq its'.toArray n'}:=by rw[Zat f ho (by rw[hf]<;>rfl),hf]
 refine I.write (x:=p) (e:=p) (by rw[h];trivial) (.inl rfl) (λb u hb q=>(Z1 _ _<|ZP hb).trans q) #[_,e] ?_;exact#[hz,its',n',r,e]
def J41:V->V->V->Hp->(Hp->Prop)->Prop:=λo i v H Q=>∃p xs k j,o=.ref p/\i=.int k/\H p=Za (.lst xs)/\ixN xs.length k=Za j/\Q (upd H p<|.lst<|xs.set j v)
theorem Jmi:PSet X J41:=by
 intro pj s σ H o i v ov iv u Q I ro ri rv h;obtain⟨p,xs,k,j,rfl,rfl,hp,hj,q⟩:=h;cases ro;obtain⟨t,rfl⟩:=ri;obtain⟨its,n,r,ho,hz⟩:=I.lst hp;obtain⟨h1,h2,h3,h4⟩:=Jqj hj;have hl:=r.length;have hn:=VR;have I':Inv X pj σ (upd H p<|.lst<|xs.set j v) {s with heap:=s.heap.update p (ZY (·.setIfInBounds j u))}:=
  I.lstUpd hp ho (Jn1 its n j u) (r.set rv j) (by rw[Zbq];exact hz) s.toks
 by_cases h0:0<=k
 ·have hk:k.toNat=j:=by rw[Zf2 h0 h4]at h1;exact Zam h1
  exact W.ki_setAt ho h0 05 (by rw[Zx,<-hl];exact h4)<|by rw[hk];exact#[_,I',q]
 ·have hk:(k+(its.toArray.size:Int)).toNat=j:=by rw[ZfZ 05 h3]at h1;rw[Zx,<-hl];exact Zam h1
  exact W.ki_setBack ho 05 (by rw[Zx,<-hl];exact h3) 05<|by rw[hk];exact#[_,I',q]
theorem Jkb(lo hi:Wx)(n:Nat):(Zdu lo hi Zd n).1=((HT.sIx n 0 lo:Nat):Int)/\(Zdu lo hi Zd n).2.1=((HT.sIx n n hi:Nat):Int)/\(Zdu lo hi Zd n).2.2=1:=by
 refine#[?_,?_,rfl]
 ·cases lo with|none=>simp[Zdu,HT.sIx]|some i=>
   simp only[Zdu,HT.sIx,Option.getD_none,show(1:Int)>0 by decide,if_true];by_cases h:i<0
   ·simp only[h,if_true]<;>lia
   ·simp only[h,if_false]<;>lia
 ·cases hi with|none=>simp[Zdu,HT.sIx]|some i=>
   simp only[Zdu,HT.sIx,Option.getD_none,show(1:Int)>0 by decide,if_true];by_cases h:i<0
   ·simp only[h,if_true]<;>lia
   ·simp only[h,if_false]<;>lia
theorem Jim(its:Tv)(lo hi:Wx):slicePick its.toArray lo hi Zd=((its.drop<|HT.sIx its.length 0 lo).take<|HT.sIx its.length its.length hi-HT.sIx its.length 0 lo).toArray:=by obtain⟨h1,h2,h3⟩:=Jkb lo hi its.toArray.size;unfold slicePick;rw[h1,h2,h3];simp only[sliceRange_one,pick_run,Zx]<;>rfl
def rSlL(K:W.Frag):V->Wx->Wx->Hp->VK->Prop:=λx lo hi H Q=>∃a xs,x=.ref a/\SqL K H a xs/\∀p,H p=Zd->Q (.ref p) (upd H p<|.lst<|cutV xs lo hi)
theorem Jrp:SlR X (rSlL X.K):=by
 intro pj s σ H x v vl vu lo hi sl Q I rx hs pl pu h;obtain⟨a,xs,rfl,hx,q⟩:=h;cases rx;obtain⟨its,r,ht,hz⟩:=I.list hx;have hlen:=r.length;refine#["list",_,slot_list_getitem.lookup,ht.isList.typeIs,?_];refine wpAny_getItem_list_slice ht.isList hs pl pu .none 03 ?_<|by rw[Zx]<;>lia
 rw[Jim,<-hlen];refine#[.ref s.heap.objs.size,_,I.laid (t':=s.toks) (o:=.lst<|cutV xs lo hi) (λb ob q=>Ze _ q) (Zm _) ?_,rfl,q _<|I.hok.fresh<|Zm _];exact#[ZC (Jku xs lo hi) hz,_,0,(r.drop<|HT.sIx xs.length 0 lo).take<|HT.sIx xs.length xs.length hi-HT.sIx xs.length 0 lo,Zv _ rfl]
theorem Jb9:Xa X (.type "list") (λxs H Q=>∃p ys,xs=[.ref p]/\(SqL X.K H p ys∨SqT X.K H p ys)/\∀l,H l=Zd->Q (.ref l) (upd H l<|.lst ys)):=by
 intro pj s σ H xs us Q I r h;obtain⟨p,ys,rfl,hq,q⟩:=h;obtain⟨u,rfl,rx⟩:=QP r;cases rx;have fin:∀(its:Tv),Vals ys its->ys.length<=sizeLine->∀(h':Zaw)(c':Nat),(∀b o',s.heap.get? b=Za o'->h'.get? b=Za o') ->h'.get? s.heap.objs.size=Za {cls:=.type "list",dict:=Zd,data:=.seq its.toArray c',slots:=#[]}->EP X pj σ Q (.ref s.heap.objs.size) {s with heap:=h'}:=λits r' hz h' c' kp e=>
  #[.ref s.heap.objs.size,_,I.laid (t':=s.toks) kp (Zm _) (show JG X.prog X.w _ h' _ (.lst ys)from#[hz,its,c',r',e]),rfl,q _<|I.hok.fresh<|Zm _]
 rcases hq with hq|hq
 ·obtain⟨its,r',pl,hz⟩:=I.list hq;have hlen:=r'.length;obtain⟨o,ho,hc,n,hd⟩:=pl.isList;exact call_list_seq p (.inl rfl) ho hc hd (λh' c' kp e=>fin its r' hz h' c' kp e)<|by simp only[Zx]<;>lia
 ·obtain⟨its,r',pl,hz⟩:=I.tuple hq;have hlen:=r'.length;obtain⟨o,ho,hc,n,hd⟩:=pl;exact call_list_seq p (.inr rfl) ho hc hd (λh' c' kp e=>fin its r' hz h' c' kp e)<|by simp only[Zx]<;>lia
theorem Jdm:Xa X (.type "tuple") (λxs H Q=>∃p ys,xs=[.ref p]/\((SqL X.K H p ys/\∀l,H l=Zd->Q (.ref l) (upd H l<|.tup ys))∨(SqT X.K H p ys/\Q (.ref p) H))):=by
 intro pj s σ H xs us Q I r h;obtain⟨p,ys,rfl,h⟩:=h;obtain⟨u,rfl,rx⟩:=QP r;cases rx;rcases h with⟨hq,q⟩|⟨hq,q⟩
 ·obtain⟨its,r',pl,hz⟩:=I.list hq;have hlen:=r'.length;refine call_tuple_list pl.isList (λh' kp=>?_)<|by simp only[Zx]<;>lia
  have I1:Inv X pj σ H {s with heap:=h'}:=I.kept (t':=s.toks) kp;have I2:Inv X pj σ (upd H h'.objs.size<|.tup ys) {s with heap:=h'.push {cls:=.type "tuple",data:=.seq its.toArray} }:=
   I1.laid (t':=s.toks) (λb o e=>Ze _ e) (Zm _) (show JG X.prog X.w _ _ _ (.tup ys)from#[hz,its,r',IsTup.new _ _])
  exact#[.ref h'.objs.size,_,I2,rfl,q _<|I1.hok.fresh<|Zm _]
 ·obtain⟨its,r',pl,hz⟩:=I.tuple hq;exact call_tuple_same pl #[.ref p,H,I,rfl,q]
def tyV(K:W.Frag)(T:String)(x:V)(H:Hp):Prop:=match x with
 |.str _=>T="str"
 |.int _=>T="int"
 |.ref p=>(T="list"/\∃xs,SqL K H p xs)∨(T="tuple"/\∃o,K.lookup p=Za o/\o.cls=.type "tuple"/\o.dict=Zd) ∨
   (T="dict"/\((∃kvs,H p=Za (.dK kvs))∨∃kvs,H p=Za (.dT kvs)))∨(T="set"/\∃S n,H p=Za (.set S n))
 |_=>False
theorem Jwh{pj:PnT}{σ:St}{H:Hp}{s:Zk}{T:String}{x:V}{v:Zg}(I:Inv X pj σ H s)(r:RelV x v)(ty:tyV X.K T x H):s.TypeIs v T/\∀a,v=.ref a->∃ob,s.heap.get? a=Za ob/\ob.dict=Zd:=by
 cases x with
 |str z=>obtain⟨t,rfl⟩:=r;cases (show T="str" from ty);exact#[typeIs_str s z t,λ_ e=>nomatch e]
 |int i=>obtain⟨t,rfl⟩:=r;cases (show T="int" from ty);exact#[typeIs_int s i t,λ_ e=>nomatch e]
 |ref p=>
  cases r;rcases ty with⟨rfl,xs,hq⟩|⟨rfl,o,hk,hc,hd⟩|⟨rfl,hk⟩|⟨rfl,S,n,hk⟩
  ·obtain⟨its,_,pl,_⟩:=I.list hq;refine#[pl.isList.typeIs,λa e=>?_];cases e;obtain⟨o,n,e,c,hd,_⟩:=pl;exact#[o,e,hd]
  ·refine#[#[o,I.kIn p o hk,hc],λa e=>?_];cases e;exact#[o,I.kIn _ o hk,hd]
  ·have z:∃o,s.heap.get? p=Za o/\o.ExactDict:=by
    rcases hk with⟨kvs,hk⟩|⟨kvs,hk⟩
    ·obtain⟨_,_,_,_,o,_,_,e,ex,_⟩:=I.hok p _ hk;exact#[o,e,ex]
    ·obtain⟨_,_,_,_,o,_,_,e,ex,_⟩:=I.hok p _ hk;exact#[o,e,ex]
   obtain⟨o,e,ex⟩:=z;refine#[#[o,e,ex.1],λa e2=>?_];cases e2;exact#[o,e,ex.2.1]
  ·obtain⟨o,_,_,_,e,ex,_⟩:=I.hok p _ hk;refine#[#[o,e,ex.1],λa e2=>?_];cases e2;exact#[o,e,ex.2.1]
 |_=>exact ZbM ty
variable{o e:Expr}{es:Td}{to:TE}{t:TA}{name:Str}{apos cpos:Pos}{T id:String}{r:V->Ud->Hp->VK->Prop}
end
def MtM(X:Cx)(id:String)(r:V->Ud->Hp->VK->Prop):Prop:=∀(pj:PnT)(s:Zk)(σ:St)(H:Hp)(x:V)(xs:Ud)(v:Zg)(us:Tv)(Q:VK),Inv X pj σ H s->RelV x v->Vals xs us->r x xs H Q ->Zt (Zz X.prog X.w) X.A (call (.builtin id)<|v::us) (EP X pj σ Q) X.xe s
theorem Vals.one{x:V}{us:Tv}(h:Vals [x] us):∃u,us=[u]/\RelV x u:=by cases h with|cons r e=>cases e;exact#[_,rfl,r]
theorem Vals.zero:∀{us:Tv},Vals [] us->us=[]|_,.nil=>rfl
theorem Vals.dropLast{xs:Ud}{us:Tv}(h:Vals xs us):Vals xs.dropLast us.dropLast:=by
 induction h with|nil=>exact .nil|cons r t ih=>cases t with|nil=>exact .nil|cons q t'=>exact .cons r ih
theorem Vals.eraseIdx:∀{xs:Ud}{us:Tv}(i:Nat),Vals xs us->Vals (xs.eraseIdx i) (us.eraseIdx i)|_,_,_,.nil=>.nil|_,_,0,.cons _ t=>t|_,_,i+1,.cons r t=>.cons r<|Vals.eraseIdx i t
theorem Vals.reverse{xs:Ud}{us:Tv}(h:Vals xs us):Vals xs.reverse us.reverse:=by induction h with|nil=>exact .nil|cons r t ih=>rw[Zbj,Zbj];exact Vals.append ih<|.cons r .nil
theorem Vals.rep{xs:Ud}{us:Tv}(h:Vals xs us):∀k:Nat,Vals (Zab k xs).flatten (Zab k us).flatten|0=>.nil|k+1=>by rw[Zb2,Zb2,Zcd,Zcd];exact Vals.append h<|Vals.rep h k
theorem Jnj{α:Type}(l:List α):l.eraseIdx (l.length-1)=l.dropLast:=by
 induction l with|nil=>rfl|cons a r ih=>
  cases r with|nil=>rfl|cons b r=>
   have e:(a::b::r).length-1=((b::r).length-1)+1:=by have h1:(a::b::r).length=r.length+2:=rfl;have h2:(b::r).length=r.length+1:=rfl;lia
   rw[e,List.eraseIdx_cons_succ,ih];all_goals rfl
theorem Jjq{α:Type}:∀(l:List α)(i:Nat),(l.eraseIdx i).length<=l.length|[],_=>Zm _|_::_,0=>ZaR _|_::r,i+1=>ZcU<|Jjq r i
theorem Jjd(its:Tv):∀(k:Nat)(acc:Tv),List.foldl (λx1 x2=>x1++x2) acc.toArray (Zab k its.toArray)=(acc++(Zab k its).flatten).toArray
 |0,acc=>03
 |k+1,acc=>by
  have e:acc.toArray++its.toArray=(acc++its).toArray:=03;have e2:(acc++its)++(Zab k its).flatten=acc++(Zab (k+1) its).flatten:=by rw[Zb2,Zcd,Zae]
  rw[<-e2,<-Jjd its k (acc++its),<-e,Zb2,Zfj]
section
variable{X:Cx}{pj:PnT}{σ:St}{H:Hp}{s:Zk}{l b:Zo}{xs ys zs:Ud}
theorem Inv.lset{its its':Tv}{n:Nat}{f:Tj->Tj}{t':Nat}(I:Inv X pj σ H s)(hH:H l=Za (.lst xs)) (e:s.heap.get? l=Za {cls:=.type "list",data:=.seq its.toArray n})(hf:f its.toArray=its'.toArray)(hv:Vals ys its')(hz:ys.length<=sizeLine):Inv X pj σ (upd H l<|.lst ys) {s with heap:=s.heap.update l<|ZY f,toks:=t'}:=by have q:=PySem.IsL.update e f;rw[hf]at q;refine I.write (x:=l) (e:=l) (by rw[hH];exact trivial) (.inl rfl) (λb' u hb hu=>(Z1 s.heap (ZY f)<|ZP hb).trans hu) #[_,q] ?_;exact#[hz,its',_,hv,q]
theorem Inv.lnew{its:Tv}{t':Nat}(I:Inv X pj σ H s)(hv:Vals ys its)(hz:ys.length<=sizeLine):Inv X pj σ (upd H s.heap.objs.size<|.lst ys) {s with heap:=s.heap.push {cls:=.type "list",data:=.seq its.toArray},toks:=t'}:=I.laid (λ_ _ q=>Ze _ q) (Zm _) #[hz,its,0,hv,Zv _ rfl]
theorem Inv.fresh(I:Inv X pj σ H s):H s.heap.objs.size=Zd:=I.hok.fresh<|Zm _
theorem Inv.lstM(I:Inv X pj σ H s)(hH:H l=Za (.lst xs)):xs.length<=sizeLine/\∃(its:Tv) (n:Nat),Vals xs its/\xs.length=its.length/\s.heap.get? l=Za {cls:=.type "list",data:=.seq its.toArray n}:=by obtain⟨z,its,n,r,e⟩:=I.hok l _ hH;exact#[z,its,n,r,r.length,e]
theorem Jl8{n:Nat}(h:n<=sizeLine):Zci n=Zj:=by unfold Zci;exact decide_eq_false 05
end
section
variable{X:Cx}
def Jyi:V->Ud->Hp->VK->Prop:=λx vs H Q=>∃l xs y,x=.ref l/\vs=[y]/\H l=Za (.lst xs)/\xs.length<sizeLine/\Q .non (upd H l<|.lst<|xs++[y])
theorem Jjs:MtM X "list.append" Jyi:=by intro pj s σ H x vs v us Q I rx rv h;obtain⟨l,xs,y,rfl,rfl,hH,hz,q⟩:=h;cases rx;obtain⟨u,rfl,ru⟩:=rv.one;obtain⟨z,its,n,r,hl,e⟩:=I.lstM hH;refine Zem F.slot_list_append #[_,e,rfl] F.entry_list_append (F.args_list_append_2 _ _) (PySem.list_append l its.toArray n u<|by rw[Zx];lia) #[e,?_];refine#[.non,_,I.lset (its':=its++[u]) hH e 03 (r.append<|.cons ru .nil) ?_,rfl,q];rw[Z7,Zbn];lia
def Jyj:V->Ud->Hp->VK->Prop:=λx vs H Q=>∃l b xs zs,x=.ref l/\vs=[.ref b]/\H l=Za (.lst xs)/\H b=Za (.lst zs)/\xs.length+zs.length<=sizeLine/\Q .non (upd H l<|.lst<|xs++zs)
theorem Jq1:MtM X "list.extend" Jyj:=by
 intro pj s σ H x vs v us Q I rx rv h;obtain⟨l,b,xs,zs,rfl,rfl,hH,hB,hz,q⟩:=h;cases rx;obtain⟨u,rfl,ru⟩:=rv.one;cases ru;obtain⟨z,its,n,r,hl,e⟩:=I.lstM hH;obtain⟨z2,its2,n2,r2,hl2,e2⟩:=I.lstM hB;have hsz:its.toArray.size+its2.toArray.size<=sizeLine:=by rw[Zx,Zx];lia
 have hlong:¬(!its.toArray.isEmpty&&Zci (its.toArray.size+its2.toArray.size))=Zh:=by rw[Jl8 hsz,Bool.and_false];exact Zw
 refine Zem F.slot_list_extend #[_,e,rfl] F.entry_list_extend (F.args_list_extend_2 _ _) (AutoSeq1.list_extend_list_list_0 l its.toArray n b its2.toArray n2 hlong (by rw[Zx];lia) 05) #[e,e2,?_];refine#[.non,_,I.lset (its':=its++its2) hH e 03 (r.append r2) ?_,rfl,q];rw[Z7];lia
def rPop:V->Ud->Hp->VK->Prop:=λx vs H Q=>∃l xs y,x=.ref l/\vs=[]/\H l=Za (.lst xs)/\xs[xs.length-1]?=Za y/\Q y (upd H l<|.lst xs.dropLast)
theorem J1s:MtM X "list.pop" rPop:=by
 intro pj s σ H x vs v us Q I rx rv h;obtain⟨l,xs,y,rfl,rfl,hH,hy,q⟩:=h;cases rx;have hus:=rv.zero;subst hus;obtain⟨z,its,n,r,hl,e⟩:=I.lstM hH;obtain⟨u,hu,ru⟩:=r.get hy;have hy':its.toArray[its.toArray.size-1]?=Za u:=by show its.toArray[its.length-1]?=Za u;rw[<-ZcE,<-hl];exact hu
 refine Zem F.slot_list_pop #[_,e,rfl] F.entry_list_pop (F.args_list_pop_1 _) (MeetsSeq.list_pop_last l its.toArray n u hy'<|by rw[Zx];lia) #[e,?_];refine#[y,_,I.lset (its':=its.dropLast) hH e ?_ r.dropLast ?_,ru,q]
 ·show its.toArray.eraseIdxIfInBounds (its.toArray.size-1)=its.dropLast.toArray;rw[Zx,ZdB,Jnj]
 ·rw[List.length_dropLast];lia
def rCat:R2:=λx y H Q=>∃l b xs zs,x=.ref l/\y=.ref b/\H l=Za (.lst xs)/\H b=Za (.lst zs)/\xs.length+zs.length<=sizeLine/\∀p,H p=Zd->Q (.ref p) (upd H p<|.lst<|xs++zs)
theorem J1x:OpR X (Zbv .Add) rCat:=by
 intro pj s σ H x y v u Q I rx ry h;obtain⟨l,b,xs,zs,rfl,rfl,hH,hB,hz,q⟩:=h;cases rx;cases ry;obtain⟨z,its,n,r,hl,e⟩:=I.lstM hH;obtain⟨z2,its2,n2,r2,hl2,e2⟩:=I.lstM hB;refine PySem.P.add_list e e2 ?_<|by rw[Zx,Zx];lia
 have ea:its.toArray++its2.toArray=(its++its2).toArray:=03;rw[ea];exact#[.ref _,_,I.lnew (t':=s.toks) (r.append r2) (by rw[Z7];lia),rfl,q _ I.fresh]
def rRep:R2:=λx y H Q=>∃l k xs,x=.ref l/\y=.int k/\H l=Za (.lst xs)/\ -(2^63)<=k/\k<2^63/\xs.length*k.toNat<=sizeLine /\ ∀p,H p=Zd->Q (.ref p) (upd H p<|.lst (Zab k.toNat xs).flatten)
theorem Jxy{α:Type}(xs:List α)(k:Nat):(Zab k xs).flatten.length=k*xs.length:=by induction k with|zero=>simp|succ k ih=>rw[Zb2,Zcd,Z7,ih,Nat.succ_mul,Nat.add_comm]
theorem J10:OpR X (Zbv .Mult) rRep:=by
 intro pj s σ H x y v u Q I rx ry h;obtain⟨l,k,xs,rfl,rfl,hH,h1,h2,hz,q⟩:=h;cases rx;obtain⟨t,rfl⟩:=ry;obtain⟨z,its,n,r,hl,e⟩:=I.lstM hH;have hlen:its.toArray.size*k.toNat<=sizeLine:=by rw[Zx,<-hl];exact hz
 have hcap:¬its.toArray.size*k.toNat>(2^63-1)/8:=by have:(sizeLine:Nat)<=(2^63-1)/8:=01;lia
 have hfit:¬(!Builtin.List.listFitsIndex k)=Zh:=by rw[fitsIndex_both h1 h2];exact Zw
 have hlong:¬Zci (its.toArray.size*k.toNat)=Zh:=by rw[Jl8 hlen];exact Zw
 have hnew:List.foldl (λx1 x2=>x1++x2) #[] (Zab (if its.toArray.isEmpty=Zh then 0 else k.toNat) its.toArray)=(Zab k.toNat its).flatten.toArray:=by
  have f0:∀m:Nat,List.foldl (λx1 x2=>x1++x2) #[] (Zab m its.toArray)=(Zab m its).flatten.toArray:=λm=>by have:=Jjd its m [];rw[Zbr]at this;exact this
  rw[f0];cases its with|nil=>simp|cons a r'=>rw[if_neg 03]
 refine wpAny_binaryOp_repeat_ref (T:="list") (U:="int") 01 #[_,e,rfl] (λs'=>typeIs_int s' k t) noFill_list_mul F.fills_int_mul F.slot_int_rmul repeat_list F.slot_int_index.lookup (Zem F.slot_int_rmul (typeIs_int s k t) F.entry_int_rmul (F.args_int_rmul_2 _ _) (int___rmul___int_list k t l its.toArray n) #[e,rfl,#[_,e,rfl],Zem F.slot_list_mul #[_,e,rfl] F.entry_list_mul (F.args_list_mul_2 _ _) (AutoListH.list___mul___list_int_3 l its.toArray n k t hfit hcap hlong) #[e,?_]]);rw[hnew];exact#[.ref _,_,I.lnew (t':=s.toks) (r.rep k.toNat) (by rw[Jxy,Nat.mul_comm];exact hz),rfl,q _ I.fresh]
end
section
variable{κ:Type}[DecidableEq κ]
noncomputable def valV (kvs:List<|κ×V)(k:κ):Ti:=(kvs.find? λkv=>decide (kv.1=k)).map (·.2)
noncomputable def putK (kvs:List<|κ×V)(k:κ)(v:V):List (κ×V):=if (kvs.any λkv=>decide (kv.1=k))=Zh then kvs.map (λkv=>if kv.1=k then(kv.1,v)else kv)else kvs++[(k,v)]
theorem Jmw{p:κ×V}{r:List (κ×V)}{k:κ}(e:p.1=k):valV (p::r) k=Za p.2:=by simp[valV,Zc8,e]
theorem Jmv{p:κ×V}{r:List (κ×V)}{k:κ}(e:¬p.1=k):valV (p::r) k=valV r k:=by simp[valV,Zc8,e]
theorem Jk0(kvs:List<|κ×V)(k:κ)(v:V):(putK kvs k v).length<=kvs.length+1:=by
 unfold putK;split
 ·rw[Zr];lia
 ·rw[Z7,ZN,ZbZ];lia
theorem RelO.isSome_eq{o:Ti}{u:Wz}(r:RelO o u):o.isSome=u.isSome:=by
 cases o with
 |none=>cases u with
  |none=>rfl
  |some _=>exact Zf r
 |some _=>cases u with
  |none=>exact Zf r
  |some _=>rfl
theorem KV.val{kvs:List (κ×V)}{vs:List (κ×Zg)}(r:KV kvs vs)(k:κ):RelO (valV kvs k) (Zga vs k):=by
 unfold KV at r;induction r with|nil=>exact Za8|@cons p q ps qs h t ih=>
  obtain⟨h1,h2⟩:=h;by_cases e:p.1=k
  ·have e':q.1=k:=h1.symm.trans e;have b:Zga (q::qs) k=Za q.2:=by simp[Zga,Zc8,e']
   rw[Jmw e,b];exact h2
  ·have e':¬q.1=k:=λz=>e<|h1.trans z
   have b:Zga (q::qs) k=Zga qs k:=by simp[Zga,Zc8,e']
   rw[Jmv e,b];exact ih
theorem KV.any{kvs:List (κ×V)}{vs:List (κ×Zg)}(r:KV kvs vs)(k:κ):(kvs.any λkv=>decide (kv.1=k))=vs.any λkv=>decide (kv.1=k):=by unfold KV at r;induction r with|nil=>rfl|cons h t ih=>rw[ZdM,ZdM,ih,h.1]
theorem KV.repl{kvs:List (κ×V)}{vs:List (κ×Zg)}(r:KV kvs vs)(k:κ){y:V}{u:Zg}(ry:RelV y u):KV (kvs.map λkv=>if kv.1=k then(kv.1,y)else kv) (vs.map λkv=>if kv.1=k then(kv.1,u)else kv):=by
 unfold KV at r ⊢;induction r with|nil=>exact .nil|@cons p q ps qs h t ih=>
  rw[ZQ,ZQ];refine .cons ?_ ih;obtain⟨h1,h2⟩:=h;by_cases e:p.1=k
  ·rw[if_pos e,if_pos<|h1.symm.trans e];exact#[h1,ry]
  ·rw[if_neg e,if_neg λz=>e<|h1.trans z];exact#[h1,h2]
theorem KV.put{kvs:List (κ×V)}{vs:List (κ×Zg)}(r:KV kvs vs)(k:κ){y:V}{u:Zg}(ry:RelV y u):KV (putK kvs k y) (stored vs k u):=by
 unfold putK stored;rw[r.any k];by_cases e:(vs.any λkv=>decide (kv.1=k))=Zh
 ·rw[if_pos e,if_pos e];exact r.repl k ry
 ·rw[if_neg e,if_neg e];exact Paired.snoc r #[rfl,ry]
theorem KV.length{kvs:List (κ×V)}{vs:List (κ×Zg)}(r:KV kvs vs):kvs.length=vs.length:=ZfM r
end
theorem Jxt{P:ZD}{w:ZV}{k:Key}{u:Zg}(r:RelV (kV k) u):(Vl P w).is k u=Zh:=by cases k with|inl i=>obtain⟨t,e⟩:=(show ∃t,u=ZcC i t from r);subst e;exact Jk2 P w i t|inr x=>obtain⟨t,e⟩:=(show ∃t,u=ZfG x t from r);subst e;exact Jk3 P w x t
section
variable{P:ZD}{w:ZV}{H:Hp}{h:Zaw}{a:Zo}
theorem Juf{u:HO}(ok:HOk P w H h)(e:Rd H a u):JG P w H h a u:=e.ok ok
theorem Jz9{kvs:Wq}(ok:HOk P w H h)(e:Rd H a<|.dK kvs):kvs.length<=sizeLine/\(a==Zdl)=Zj/\∃vs,KV kvs vs/\h.DictOf (Vl P w) a vs:=show JG P w H h a (.dK kvs)from Juf ok e
theorem Jw4{kvs:Wq}(ok:HOk P w H h)(e:H a=Za (.dK kvs)):kvs.length<=sizeLine/\(a==Zdl)=Zj/\∃vs,KV kvs vs/\h.DictOf (Vl P w) a vs:=Jz9 ok<|.inl e
end
section
variable{X:Cx}{pj:PnT}{σ:St}{H:Hp}{s:Zk}{a:Zo}{y v:V}{u r:Zg}{o:Ti}{A:ZH}{E:QvT}
theorem Inv.big(I:Inv X pj σ H s):Zdl<s.heap.objs.size:=by have h:Zu<s.heap.objs.size:=(I.mod.glob.keeps I.bk).lt;exact ZbQ 01 h
theorem Jw3{h':Zaw}{t':Nat}{ob:HO}(I:Inv X pj σ H s)(mu:Mut<|H a)(hs:ZbB a s.heap h')(he:∃q,h'.get? a=Za q)(new:JG X.prog X.w (upd H a ob) h' a ob):Inv X pj σ (upd H a ob) {s with heap:=h',toks:=t'}:=I.write (x:=a) (e:=a) mu (.inl rfl) (λb q hb z=>(hs.2 b hb).trans z) he new
theorem Jz8{P:ZD}{w:ZV}{H':Hp}{h':Zaw}{kvs:Wq}{vs:List (Key×Zg)}(z:kvs.length<=sizeLine)(hd:(a==Zdl)=Zj)(rel:KV kvs vs)(dd:h'.DictOf (Vl P w) a vs):JG P w H' h' a (.dK kvs):=#[z,hd,vs,rel,dd]
end
section
variable{X:Cx}{pj:PnT}{σ:St}{H:Hp}{s:Zk}{a:Zo}{kvs:Wq}{k:Key}{u:Zg}{A:ZH}{E:QvT}
theorem J3s{Q:QvT}(I:Inv X pj σ H s)(e:Rd H a<|.dK kvs)(h:∀t s',Inv X pj σ H s'->Q (.int kvs.length t) s'):Zt (Zz X.prog X.w) A (call (.builtin "len") [.ref a]) Q E s:=by obtain⟨z,hd,vs,rel,dd⟩:=Jz9 I.hok e;refine call_len_dict hd dd (by rw[<-rel.length];rw[Zbi]at z;lia) ?_;rw[<-rel.length];exact h _ _<|I.tok _
end
theorem Jsz{P:ZD}{w:ZV}{H:Hp}(h:Zaw)(hb:Zdl<h.objs.size):JG P w H (h.push {cls:=.type "dict",data:=.dict #[]}) h.objs.size (.dK []):=#[ZA _,beq_eq_false_iff_ne.mpr<|ZP<|Z5 hb,[],.nil,Heap.DictOf.new h]
end L2
namespace Att
open PySem PySem.W PySem.Calls PyProof.Rows
theorem Jfv{P:Params}{h:Zaw}:∀(ns:Tp)(vs:Tv),WellAll P h vs (ns.map WData.int)->Zbs vs ns:=by
 intro ns;induction ns with|nil=>intro vs w;rw[ZcV]at w;cases w;exact .nil|cons n ns ih=>intro vs w;rw[ZQ]at w;cases w with|cons a b=>cases a;exact .cons _ _<|ih _ b
theorem Jrl{l:OpenLaw}{n:Nat}(hn:l.most=Za n){P:Params}{h:Zaw}{args:List WData}{vals:Tv} (hpre:l.row.toRowW.claim.pre args=Zh)(hwl:WellAll P h vals args):∃a vs ns,vals=[Zeg a]/\args=[WData.list<|ns.map WData.int]/\h.get? a=Za {cls:=.type "list",data:=.seq vs.toArray}/\Zbs vs ns/\ns.length<=n:=by
 have hsh:WShape.hasAll [] args [.list .int]=Zh:=(pre_splitW hpre).1;have hc:l.pre.holds [] {args:=args}=Zh:=(pre_splitW hpre).2;obtain⟨d,r,rfl,h1,h2⟩:=hasAllW_cons hsh;obtain rfl:=hasAllW_nil h2;obtain⟨xs,rfl,h3⟩:=hasW_list h1;obtain⟨ns,rfl⟩:=items_int h3;have hlen:ns.length<=n:=by
  unfold OpenLaw.pre at hc;have h4:(WTm.not<|.lt (.lit<|.int (n:Int))<|.len<|.arg 0).holds [] {args:=[.list<|ns.map .int]}=Zh:=by have h4:=(holds_andW hc).1;rw[hn]at h4;exact h4
  have h5:=condW_of h4<|w_not<|w_lt w_lit<|w_len_list<|w_arg rfl;rw[Zr]at h5;refine ZcW λq=>?_
  have q':(n:Int)<((ns.length:Nat):Int):=05;first
   | (rw[decide_eq_true q']at h5;exact absurd h5 01)
   | (simp at h5;lia)
 cases hwl with|cons w1 w2=>cases w2;cases w1 with|list ho hall=>exact#[_,_,ns,rfl,rfl,ho,Jfv ns _ hall,hlen]
theorem Jrb(l:OpenLaw)(args:List WData):l.row.toRowW.claim.post args (.bool Zh) args=Zh:=postW_of (r:=l.row.toRowW) (X:=(Zh==Zh)) (show WShape.has [] (.bool Zh) .bool=Zh by first|rfl|decide|simp[WShape.has,WShape.arms,WShape.armsAll]) (show(WTm.eq .res<|.lit<|.bool Zh).value [] {args:=args,res:=Za<|.bool Zh,after:=args}=Za (.bool<|Zh==Zh)from w_eq_bool (w_res rfl) w_lit) rfl
theorem attach_call{l:OpenLaw}{n:Nat}{q:ZD}{loose:Tk}{XP:(Str->Wz)->Zaw->Prop}{YP:ZV->Zaw->Prop}{d:DefRec} (hn:l.most=Za n)(hdf:d.params.defaults=[]) (call:∀(w:ZV)(s₀ s₁:Zk)(mg mb:Str->Wz)(fa:Zo)(o:Obj)(pm cd doc:Zg)(a:Zo)(vs:Tv)(ns:Tp),Ground q loose [] XP w s₀ mg mb s₁.heap->YP w s₁.heap ->s₁.heap.get? fa=Za o->o.data=.func (docDef d.name d.params d.body d.scope pm cd doc)->s₁.heap.CodeRec cd d.name->mg d.name=Za (.ref fa) ->s₁.heap.get? a=Za {cls:=.type "list",data:=.seq vs.toArray}->Zbs vs ns->ns.length<=n->s₁.gens=#[] ->ZcR (Zz l.prog w) ZfI (.call (.ref fa) #[[.ref a],[]]) (λr s'=>r=.ok (.ret<|.bool Zh)/\OldK s₁.heap s'.heap/\s'.os=s₁.os/\Zea s'.gens) s₁):WalkO q loose XP YP l.row.toRowW d [] (λf vs=>PySem.call f vs):=by
 intro w s₀ s₁ mg mb G Y fa o pm cd doc dV kV ho hd hcd hD hmg hg args vals as hpre hlay hrd hwl hlo;obtain rfl:dV=.none:=Dflts.none hD hdf;obtain rfl:kV=.none:=Dflts.noKw hD;obtain⟨a,vs,ns,rfl,rfl,hobj,hints,hlen⟩:=Jrl hn hpre hwl;refine enter_call<|Zc3 (call w s₀ s₁ mg mb fa o pm cd doc a vs ns G Y ho (fd_plain hd) hcd hmg hobj hints hlen hg) λr s' hq=>?_
 obtain⟨rfl,h2,h3,h4⟩:=hq;exact#[.inl #[.bool Zh,.bool Zh,[],rfl,λ_=>rfl,.bool Zh,Jrb l _,λ_=>#[Zew,λ_ hm=>(nomatch hm)]],h2,h3,h4]
end Att
namespace L2
open PySem PySem.Spec PyProof.Rows
theorem XD:∀{vs:Tv}{ns:Tp},Zbs vs ns->Vals (ns.map V.int) vs|_,_,.nil=>.nil|_,_,.cons n t h=>.cons #[t,rfl]<|XD h
noncomputable def Qa (s:ZcZ)(j:Nat):ZcZ:=match s with|.ClassDef _ _ _ body _ _ _ _ _ _ _=>body.getD j<|.Pass #[0,0,0,0]|_=>.Pass #[0,0,0,0]
def QE(s:ZcZ):ZcT:=match s with|.FunctionDef _ a _ _ _ _ _ _ _ _=>a|_=>{posonlyargs:=[],args:=[],vararg:=Zd,kwonlyargs:=[],kw_defaults:=[],kwarg:=Zd,defaults:=[]}
def Qo(s:ZcZ):Tn:=match s with|.FunctionDef _ _ b _ _ _ _ _ _ _=>b|_=>[]
def JP(s:ZcZ):ZbF:=match s with|.FunctionDef _ _ _ _ _ _ sc _ _ _=>sc|_=>{kind:=.function,names:=[],isGenerator:=Zj,isCoroutine:=Zj}
end L2
set_option maxHeartbeats 4000000
namespace L3
open PySem PySem.Spec PyProof.Rows L2
inductive IV where|non|bl (b:Bool)|int (i:Int)|str (x:Str)|tup (xs:List IV)|rol (xs:List IV)|ref (i:Nat)
abbrev _root_.Wl:=List<|Str×IV
abbrev _root_.Wm:=List<|Key×IV
abbrev _root_.Te:=Option IV
abbrev _root_.Tx:=List IV
inductive IX where|lst (xs:Tx)|ins (c:Str) (fs:Wl)|dct (kvs:Wm)|exc (c:Str) (fs:Wl)|tab (q:Str)|hld (c:Str) (fs:Wl)
abbrev IH:=List IX
abbrev ISt:=List<|Te
inductive Res(α:Type) where|ok (a:α) (h:IH)|exc (n:Nat) (h:IH)|stuck
noncomputable def Res.bind {α β:Type}:Res α->(α->IH->Res β)->Res β|.ok a h,f=>f a h|.exc n h,_=>.exc n h|.stuck,_=>.stuck
inductive SRes where|next (σ:ISt) (h:IH)|ret (v:IV) (h:IH)|brk (σ:ISt) (h:IH)|cont (σ:ISt) (h:IH)|exc (n:Nat) (σ:ISt) (h:IH)|stuck
def SqR(K:W.Frag)(H:Hp)(a:Zo)(xs:Ud):Prop:=(∃o,H a=Za (.frz o<|.lst xs)) ∨ ∃(o:Obj) (its:Tj) (n:Nat),K.lookup a=Za o/\o.cls=.type "list"/\o.dict=Zd/\o.data=.seq its n/\its.size<=sizeLine/\Vals xs its.toList
theorem SqR.sq{K:W.Frag}{H:Hp}{a:Zo}{xs:Ud}(h:SqR K H a xs):SqL K H a xs:=by
 rcases h with⟨o,h⟩|h
 ·exact .inl<|.inr #[o,h]
 ·exact .inr h
mutual
def RV(K:W.Frag)(ι:Tw)(H:Hp):IV->V->Prop|.non,v=>v=.non|.bl b,v=>v=.bl b|.int i,v=>v=.int i|.str x,v=>v=.str x|.tup xs,v=>∃a vs,v=.ref a/\SqT K H a vs/\RVs K ι H xs vs|.rol xs,v=>∃a vs,v=.ref a/\SqR K H a vs/\RVs K ι H xs vs|.ref i,v=>∃a,v=.ref a/\ι[i]?=Za a
def RVs(K:W.Frag)(ι:Tw)(H:Hp):Tx->Ud->Prop|[],vs=>vs=[]|x::xs,vs=>∃v r,vs=v::r/\RV K ι H x v/\RVs K ι H xs r
end
structure Ext(H H':Hp):Prop where
 tups:∀b xs,H b=Za (.tup xs)->H' b=Za (.tup xs)
 frzs:∀b o u,H b=Za (.frz o u)->H' b=Za (.frz o u)
structure Nxt(ι:Tw)(H:Hp)(ι':Tw)(H':Hp):Prop where
 pre:∃m,ι'=ι++m
 ext:Ext H H'
theorem Nxt.refl:Nxt ι H ι H:=#[#[[],03],#[λ_ _ h=>h,λ_ _ _ h=>h]]
theorem Nxt.trans(a:Nxt ι H ι1 H1)(b:Nxt ι1 H1 ι2 H2):Nxt ι H ι2 H2:=by obtain⟨⟨m,e⟩,x⟩:=a;obtain⟨⟨m',e'⟩,y⟩:=b;exact#[#[m++m',by rw[e',e,Zae]],#[λb xs h=>y.tups b xs<|x.tups b xs h,λb o u h=>y.frzs b o u<|x.frzs b o u h]]
theorem Nxt.at(n:Nxt ι H ι' H'){i:Nat}(h:ι[i]?=Za a):ι'[i]?=Za a:=by obtain⟨⟨m,e⟩,_⟩:=n;subst e;rw[ZI (Zs.mp h).1];exact h
theorem Ext.rd(x:Ext H H')(h:Rd H a<|.tup xs):Rd H' a (.tup xs):=by
 rcases h with h|⟨o,h⟩
 ·exact .inl<|x.tups _ _ h
 ·exact .inr #[o,x.frzs _ _ _ h]
theorem Ext.sqT{K:W.Frag}{H H':Hp}(x:Ext H H'){a:Zo}{xs:Ud}(h:SqT K H a xs):SqT K H' a xs:=by
 rcases h with h|h
 ·exact .inl<|x.rd h
 ·exact .inr h
theorem Ext.sqR{K:W.Frag}{H H':Hp}(x:Ext H H'){a:Zo}{xs:Ud}(h:SqR K H a xs):SqR K H' a xs:=by
 rcases h with⟨o,h⟩|h
 ·exact .inl #[o,x.frzs _ _ _ h]
 ·exact .inr h
mutual
theorem RV.mono{K:W.Frag}{ι ι':Tw}{H H':Hp}(n:Nxt ι H ι' H'):∀(x:IV)(v:V),RV K ι H x v->RV K ι' H' x v|.non,_,h=>h|.bl _,_,h=>h|.int _,_,h=>h|.str _,_,h=>h|.tup xs,_,h=>by obtain⟨a,vs,e,q,r⟩:=h;exact#[a,vs,e,n.ext.sqT q,RVs.mono n xs vs r]|.rol xs,_,h=>by obtain⟨a,vs,e,q,r⟩:=h;exact#[a,vs,e,n.ext.sqR q,RVs.mono n xs vs r]|.ref i,_,h=>by obtain⟨a,e,q⟩:=h;exact#[a,e,n.at q]
theorem RVs.mono{K:W.Frag}{ι ι':Tw}{H H':Hp}(n:Nxt ι H ι' H'):∀(xs:Tx)(vs:Ud),RVs K ι H xs vs->RVs K ι' H' xs vs|[],_,h=>h|x::xs,_,h=>by obtain⟨v,r,e,q,t⟩:=h;exact#[v,r,e,RV.mono n x v q,RVs.mono n xs r t]
end
theorem RVs.length{K:W.Frag}{ι:Tw}{H:Hp}:∀{xs:Tx}{vs:Ud},RVs K ι H xs vs->vs.length=xs.length|[],_,h=>by have e:_=[]:=h;subst e;rfl|x::xs,_,h=>by obtain⟨v,r,e,_,t⟩:=h;subst e;simp[RVs.length t]
theorem RVs.get{K:W.Frag}{ι:Tw}{H:Hp}:∀{xs:Tx}{vs:Ud}{i:Nat}{x:IV},RVs K ι H xs vs->xs[i]?=Za x->∃v,vs[i]?=Za v/\RV K ι H x v
 |[],_,_,_,_,e=>by simp at e
 |x::xs,_,0,y,h,e=>by obtain⟨v,r,e1,q,t⟩:=h;subst e1;simp at e;subst e;exact#[v,rfl,q]
 |x::xs,_,i+1,y,h,e=>by
  obtain⟨v,r,e1,q,t⟩:=h;subst e1;obtain⟨u,h1,h2⟩:=RVs.get (i:=i) (x:=y) t<|by simpa using e
  exact#[u,by simpa using h1,h2]
theorem RVs.get'{K:W.Frag}{ι:Tw}{H:Hp}{xs:Tx}{vs:Ud}{i:Nat}{v:V}(h:RVs K ι H xs vs)(e:vs[i]?=Za v):∃x,xs[i]?=Za x/\RV K ι H x v:=by have hl:=h.length;have hi:i<vs.length:=(Zs.mp e).1;have hx:xs[i]?=Za xs[i]:=Zb 00;obtain⟨u,h1,h2⟩:=h.get hx;rw[e]at h1;cases h1;exact#[_,hx,h2]
theorem RVs.append{K:W.Frag}{ι:Tw}{H:Hp}:∀{xs ys:Tx}{vs us:Ud},RVs K ι H xs vs->RVs K ι H ys us->RVs K ι H (xs++ys) (vs++us)|[],_,_,_,h,g=>by have e:_=[]:=h;subst e;exact g|x::xs,_,_,_,h,g=>by obtain⟨v,r,e,q,t⟩:=h;subst e;exact#[v,_,rfl,q,RVs.append t g]
theorem RVs.take{K:W.Frag}{ι:Tw}{H:Hp}:∀{xs:Tx}{vs:Ud}(n:Nat),RVs K ι H xs vs->RVs K ι H (xs.take n) (vs.take n)|_,_,0,_=>by simp;exact rfl|[],_,n+1,h=>by have e:_=[]:=h;subst e;exact rfl|x::xs,_,n+1,h=>by obtain⟨v,r,e,q,t⟩:=h;subst e;exact#[v,r.take n,rfl,q,RVs.take n t]
theorem RVs.drop{K:W.Frag}{ι:Tw}{H:Hp}:∀{xs:Tx}{vs:Ud}(n:Nat),RVs K ι H xs vs->RVs K ι H (xs.drop n) (vs.drop n)|_,_,0,h=>h|[],_,n+1,h=>by have e:_=[]:=h;subst e;exact rfl|x::xs,_,n+1,h=>by obtain⟨v,r,e,q,t⟩:=h;subst e;exact RVs.drop n t
theorem RVs.set{K:W.Frag}{ι:Tw}{H:Hp}{x:IV}{v:V}(q:RV K ι H x v):∀{xs:Tx}{vs:Ud}(i:Nat),RVs K ι H xs vs->RVs K ι H (xs.set i x) (vs.set i v)|[],_,_,h=>by have e:_=[]:=h;subst e;exact rfl|y::xs,_,0,h=>by obtain⟨u,r,e,_,t⟩:=h;subst e;exact#[v,r,rfl,q,t]|y::xs,_,i+1,h=>by obtain⟨u,r,e,p,t⟩:=h;subst e;exact#[u,r.set i v,rfl,p,RVs.set q i t]
theorem RVs.one{K:W.Frag}{ι:Tw}{H:Hp}{x:IV}{v:V}(q:RV K ι H x v):RVs K ι H [x] [v]:=#[v,[],rfl,q,rfl]
theorem RVs.rev{K:W.Frag}{ι:Tw}{H:Hp}:∀{xs:Tx}{vs:Ud},RVs K ι H xs vs->RVs K ι H xs.reverse vs.reverse|[],_,h=>by have e:_=[]:=h;subst e;exact rfl|x::xs,_,h=>by obtain⟨v,r,e,q,t⟩:=h;subst e;rw[Zbj,Zbj];exact RVs.append (RVs.rev t)<|RVs.one q
theorem RVs.ints{K:W.Frag}{ι:Tw}{H:Hp}:∀(ns:Tp),RVs K ι H (ns.map IV.int) (ns.map V.int)|[]=>rfl|_::ns=>#[_,_,rfl,rfl,RVs.ints ns]
def RPs{κ:Type}(K:W.Frag)(ι:Tw)(H:Hp):List (κ×IV)->List (κ×V)->Prop|[],vs=>vs=[]|x::xs,vs=>∃v r,vs=(x.1,v)::r/\RV K ι H x.2 v/\RPs K ι H xs r
theorem RPs.mono{κ:Type}{K:W.Frag}{ι ι':Tw}{H H':Hp}(n:Nxt ι H ι' H'):∀(xs:List<|κ×IV)(vs:List<|κ×V),RPs K ι H xs vs->RPs K ι' H' xs vs|[],_,h=>h|x::xs,_,h=>by obtain⟨v,r,e,q,t⟩:=h;exact#[v,r,e,RV.mono n _ v q,RPs.mono n xs r t]
theorem RPs.length{κ:Type}{K:W.Frag}{ι:Tw}{H:Hp}:∀{xs:List (κ×IV)}{vs:List (κ×V)},RPs K ι H xs vs->vs.length=xs.length|[],_,h=>by have e:_=[]:=h;subst e;rfl|x::xs,_,h=>by obtain⟨v,r,e,_,t⟩:=h;subst e;simp[RPs.length t]
theorem RPs.lookup{κ:Type}[BEq κ]{K:W.Frag}{ι:Tw}{H:Hp}{f:κ}:∀{xs:List (κ×IV)}{vs:List (κ×V)},RPs K ι H xs vs ->(∀x,xs.lookup f=Za x->∃v,vs.lookup f=Za v/\RV K ι H x v)/\(xs.lookup f=Zd->vs.lookup f=Zd)
 |[],_,h=>by have e:_=[]:=h;subst e;exact#[λx e=>by simp at e,λ_=>rfl]
 |(k,x)::xs,_,h=>by
  obtain⟨v,r,e,q,t⟩:=h;subst e;have ih:=RPs.lookup (f:=f) t;simp only[Zao];cases hb:f==k with
  |true=>exact#[λy e=>by cases e;exact#[v,rfl,q],λe=>by cases e]
  |false=>exact ih
def QC(H:Hp)(q:Str)(cv:Zg):Prop:=∃c oc vs t,cv=.ref c/\H c=Za (.frz oc<|.own 0)/\oc.data=.fields vs/\vs[1]?=Za (.str (q++".<locals>."++"<lambda>") t)
def TabO(K:W.Frag)(H:Hp)(q:Str)(a:Zo):Prop:=(∀cdv,W.codeIn K cdv q=Zh->∃c,cdv=.ref c/\W.codeHdIn K c a=Zh) /\ ∃ps,H a=Za (.tbl ps)/\TriplesOk ps.toList/\∀pos cv,ZeI pos ps.toList=Za cv->QC H q cv
theorem TabO.mono{K:W.Frag}{H H':Hp}{q:Str}{a:Zo}(fz:∀b o u,H b=Za (.frz o u)->H' b=Za (.frz o u))(k:∀u,H a=Za u->H' a=Za u)(h:TabO K H q a):TabO K H' q a:=by obtain⟨h1,ps,e,ht,hc⟩:=h;refine#[h1,ps,k _ e,ht,λpos cv q=>?_];obtain⟨c,oc,vs,t,e1,e2,r⟩:=hc pos cv q;exact#[c,oc,vs,t,e1,fz _ _ _ e2,r]
def ExF(a C:Zo)(tv:Zg)(d:Tc):HO:=.ext λh=>∃oe vs,h.get? a=Za oe/\oe.cls=.ref C/\oe.data=.fields vs/\vs[1]?=Za tv/\vs[2]?=Za .none/\oe.dict=d
def XV(ι:Tw):IV->Zg->Prop|.int i,u=>∃t,u=.int i t|.ref j,u=>∃b,u=.ref b/\ι[j]?=Za b|_,_=>False
def XdOk(ι:Tw)(H:Hp)(d:Tc)(fs:Wl):Prop:=(fs=[]/\d=Zd)∨∃f v dx od u,fs=[(f,v)]/\d=Za dx/\H dx=Za (.frz od<|.own 0)/\W.lookIn f od=Za (Za u)/\XV ι v u
theorem XdOk.mono(fz:∀b o u,H b=Za (.frz o u)->H' b=Za (.frz o u))(h:XdOk ι H d fs):XdOk ι H' d fs:=by
 rcases h with h|⟨f,i,dx,od,t,e,q,r,z⟩
 ·exact .inl h
 ·exact .inr #[f,i,dx,od,t,e,q,fz _ _ _ r,z]
theorem XdOk.nxt(n:Nxt ι H ι' H')(h:XdOk ι H d fs):XdOk ι' H' d fs:=by
 rcases h with h|⟨f,v,dx,od,t,e,q,r,z,x⟩
 ·exact .inl h
 ·refine .inr #[f,v,dx,od,t,e,q,n.ext.frzs _ _ _ r,z,?_];cases v with|ref j=>obtain⟨b,e,q⟩:=x;obtain⟨⟨m,rfl⟩,_⟩:=n;exact#[b,e,by rw[ZI (Zs.mp q).1];exact q]|_=>exact x
def TvOk(H:Hp)(tv:Zg):Prop:=tv=.none∨∃T oT ts,tv=.ref T/\H T=Za (.frz oT<|.own 0)/\oT.data=.fields ts/\ts[3]?=Za .none
theorem TvOk.mono(fz:∀b o u,H b=Za (.frz o u)->H' b=Za (.frz o u))(h:TvOk H tv):TvOk H' tv:=by
 rcases h with h|⟨T,oT,ts,e,q,r⟩
 ·exact .inl h
 ·exact .inr #[T,oT,ts,e,fz _ _ _ q,r]
def RO(ce:CeT)(K:W.Frag)(ι:Tw)(H:Hp)(a:Zo):IX->Prop|.lst xs=>∃vs,H a=Za (.lst vs)/\RVs K ι H xs vs|.ins c fs=>∃C dx vs,ce c=Za C/\H a=Za (.ins C dx vs)/\RPs K ι H fs vs|.dct kvs=>∃vs,H a=Za (.dK vs)/\RPs K ι H kvs vs|.exc c fs=>∃C tv d,XdOk ι H d fs/\W.nsIn K Zu c=Za (Za<|.ref C)/\H a=Za (ExF a C tv d)/\TvOk H tv|.tab q=>TabO K H q a|.hld c fs=>∃C oe u vs,XdOk ι H oe.dict fs/\W.nsIn K Zu c=Za (Za<|.ref C)/\H a=Za (.frz oe u)/\oe.cls=.ref C/\oe.data=.fields vs/\vs[2]?=Za .none
theorem RO.some{ce:CeT}{K:W.Frag}{ι:Tw}{H:Hp}{a:Zo}{o:IX}(h:RO ce K ι H a o):∃u,H a=Za u:=by cases o with|lst xs=>obtain⟨vs,e,_⟩:=h;exact#[_,e]|ins c fs=>obtain⟨_,_,vs,_,e,_⟩:=h;exact#[_,e]|dct kvs=>obtain⟨vs,e,_⟩:=h;exact#[_,e]|exc c fs=>obtain⟨C,tv,d,_,_,e,_⟩:=h;exact#[_,e]|tab q=>obtain⟨_,ps,e,_⟩:=h;exact#[_,e]|hld c fs=>obtain⟨_,_,_,_,_,_,e,_⟩:=h;exact#[_,e]
theorem RO.mono{ce:CeT}{K:W.Frag}{ι ι':Tw}{H H':Hp}{a:Zo}{o:IX}(n:Nxt ι H ι' H')(k:∀u,H a=Za u->H' a=Za u)(h:RO ce K ι H a o):RO ce K ι' H' a o:=by cases o with|lst xs=>obtain⟨vs,e,r⟩:=h;exact#[vs,k _ e,RVs.mono n _ _ r]|ins c fs=>obtain⟨C,dx,vs,c1,e,r⟩:=h;exact#[C,dx,vs,c1,k _ e,RPs.mono n _ _ r]|dct kvs=>obtain⟨vs,e,r⟩:=h;exact#[vs,k _ e,RPs.mono n _ _ r]|exc c fs=>obtain⟨C,tv,d,e0,c1,e,r⟩:=h;exact#[C,tv,d,e0.nxt n,c1,k _ e,r.mono n.ext.frzs]|tab q=>exact TabO.mono n.ext.frzs k h|hld c fs=>obtain⟨C,oe,u,vs,e0,c1,e,r⟩:=h;exact#[C,oe,u,vs,e0.nxt n,c1,k _ e,r]
structure Rel(ce:CeT)(K:W.Frag)(ι:Tw)(h:IH)(H:Hp):Prop where
 len:ι.length=h.length
 nd:ι.Nodup
 at_:∀(i:Nat)(o:IX),h[i]?=Za o->∃a,ι[i]?=Za a/\RO ce K ι H a o
section
variable{ce:CeT}{K:W.Frag}{ι:Tw}{h:IH}{H:Hp}
theorem Rel.some(R:Rel ce K ι h H){i:Nat}(e:ι[i]?=Za a):∃u,H a=Za u:=by
 have hi:i<h.length:=by rw[<-R.len];exact(Zs.mp e).1
 obtain⟨b,e',r⟩:=R.at_ i _<|Zb hi;rw[e]at e';cases e';exact r.some
theorem Rel.notin(R:Rel ce K ι h H)(e:H l=Zd):l∉ι:=λhl=>by
 obtain⟨i,hi,q⟩:=Za5.mp hl;obtain⟨u,hu⟩:=R.some (i:=i) (a:=l)<|by rw[Zb hi,q]
 rw[e]at hu;cases hu
theorem Ext.upd_new(e:H l=Zd):Ext H (upd H l o):=#[λb xs q=>by rw[Jn<|QX q e];exact q,λb o u q=>by rw[Jn<|QX q e];exact q]
theorem Rel.grow(R:Rel ce K ι h H)(e:H l=Zd):Rel ce K ι h (upd H l o)/\Nxt ι H ι (upd H l o):=by have n:Nxt ι H ι (upd H l o):=#[#[[],03],Ext.upd_new e];refine#[#[R.len,R.nd,λi u q=>?_],n];obtain⟨a,e1,r⟩:=R.at_ i u q;exact#[a,e1,r.mono n λw hw=>by rw[Jn<|QX hw e];exact hw]
theorem Rel.alloc(R:Rel ce K ι h H)(e:H l=Zd)(r:RO ce K (ι++[l]) (upd H l o) l io):Rel ce K (ι++[l]) (h++[io]) (upd H l o)/\Nxt ι H (ι++[l]) (upd H l o):=by
 have n:Nxt ι H (ι++[l]) (upd H l o):=#[#[[l],rfl],Ext.upd_new e];refine#[#[by simp[R.len],?_,λi u q=>?_],n]
 ·rw[List.nodup_append];refine#[R.nd,03,λa ha b hb=>?_];have:b=l:=by simpa using hb
  subst this;rintro rfl;exact R.notin e ha
 ·by_cases hi:i<h.length
  ·rw[ZI hi]at q;obtain⟨a,e1,r1⟩:=R.at_ i u q;exact#[a,n.at e1,r1.mono n λw hw=>by rw[Jn<|QX hw e];exact hw]
  ·have hi2:i=h.length:=by have:=(Zs.mp q).1;simp at this;omega
   subst hi2;rw[ZE<|Zm _]at q;simp at q;subst q;refine#[l,?_,r];rw[<-R.len,ZE<|Zm _];simp
theorem Rel.inj(R:Rel ce K ι h H){i j:Nat}(e1:ι[i]?=Za a)(e2:ι[j]?=Za a):i=j:=by obtain⟨h1,q1⟩:=Zs.mp e1;obtain⟨h2,q2⟩:=Zs.mp e2;exact(ZeD R.nd).mp<|q1.trans q2.symm
theorem Ext.upd_mut(e:H l=Za u)(m:Mut<|H l):Ext H (upd H l o):=by
 refine#[λb xs q=>?_,λb ob w q=>?_]
 ·by_cases hb:b=l
  ·subst hb;rw[q]at m;exact Zf m
  ·rw[Jn hb];exact q
 ·by_cases hb:b=l
  ·subst hb;rw[q]at m;exact Zf m
  ·rw[Jn hb];exact q
theorem Rel.write(R:Rel ce K ι h H)(e:ι[i]?=Za a)(ha:H a=Za u)(m:Mut<|H a)(r:RO ce K ι (upd H a o) a io):Rel ce K ι (h.set i io) (upd H a o)/\Nxt ι H ι (upd H a o):=by
 have n:Nxt ι H ι (upd H a o):=#[#[[],03],Ext.upd_mut ha m];refine#[#[by simp[R.len],R.nd,λj w q=>?_],n];by_cases hj:j=i
 ·subst hj;have hl:j<h.length:=by have:=(Zs.mp q).1;simpa using this
  rw[ZO hl]at q;cases q;exact#[a,e,r]
 ·rw[ZX<|ZP hj]at q;obtain⟨b,e1,r1⟩:=R.at_ j w q;refine#[b,e1,r1.mono n λv hv=>?_];have:b≠a:=by rintro rfl;exact hj<|R.inj e1 e
  rw[Jn this];exact hv
end
structure RSt(K:W.Frag)(ι:Tw)(H:Hp)(σi:ISt)(σ:L2.St):Prop where
 len:σi.length=σ.length
 at_:∀(j:Nat)(v:IV),σi[j]?=Za (Za v)->∃u,σ[j]?=Za (Za u)/\RV K ι H v u
theorem RSt.mono{K:W.Frag}{ι ι':Tw}{H H':Hp}{σi:ISt}{σ:L2.St}(n:Nxt ι H ι' H')(r:RSt K ι H σi σ):RSt K ι' H' σi σ:=#[r.len,λj v e=>let ⟨u,e1,q⟩:=r.at_ j v e;#[u,e1,RV.mono n _ _ q]]
theorem RSt.set{K:W.Frag}{ι:Tw}{H:Hp}{σi:ISt}{σ:L2.St}(r:RSt K ι H σi σ)(i:Nat){x:IV}{v:V}(q:RV K ι H x v):RSt K ι H (σi.set i<|Za x) (σ.set i<|Za v):=by
 refine#[by simp[r.len],λj w e=>?_];by_cases hj:j=i
 ·subst hj;have hl:j<σi.length:=by have:=(Zs.mp e).1;simpa using this
  rw[ZO hl]at e;cases e;exact#[v,by rw[ZO<|by rw[<-r.len];exact hl],q]
 ·rw[ZX<|ZP hj]at e;obtain⟨u,e1,q1⟩:=r.at_ j w e;exact#[u,by rw[ZX<|ZP hj];exact e1,q1]
structure Now(ce:CeT)(X:Cx)(pj:PnT)(ι:Tw)(σi:ISt)(h:IH)(σ:L2.St)(H:Hp)(s:Zk):Prop where
 inv:Inv X pj σ H s
 rel:Rel ce X.K ι h H
 st:RSt X.K ι H σi σ
def RU(K:W.Frag)(ι:Tw)(H:Hp)(v:IV)(u:Zg):Prop:=∃x,RelV x u/\RV K ι H v x
theorem RU.mono{K:W.Frag}{ι ι':Tw}{H H':Hp}{v:IV}{u:Zg}(n:Nxt ι H ι' H')(r:RU K ι H v u):RU K ι' H' v u:=let ⟨x,a,b⟩:=r;#[x,a,RV.mono n _ _ b]
def RUs(K:W.Frag)(ι:Tw)(H:Hp)(vs:Tx)(us:Tv):Prop:=∃xs,Vals xs us/\RVs K ι H vs xs
theorem RUs.mono{K:W.Frag}{ι ι':Tw}{H H':Hp}{v:Tx}{u:Tv}(n:Nxt ι H ι' H')(r:RUs K ι H v u):RUs K ι' H' v u:=let ⟨x,a,b⟩:=r;#[x,a,RVs.mono n _ _ b]
abbrev REL(α β:Type):=W.Frag->Tw->Hp->α->β->Prop
def RB:REL Bool Bool:=λ_ _ _ b c=>c=b
section
variable{α β γ δ:Type}
def Kont(ce:CeT)(X:Cx)(R:REL α β)(pj:PnT)(ι:Tw)(σi:ISt)(σ:L2.St)(H:Hp)(r:Res α)(Q:β->Zk->Prop)(E:QvT):Prop:=match r with|.ok v h'=>∀u s' H' ι',Now ce X pj ι' σi h' σ H' s'->Nxt ι H ι' H'->R X.K ι' H' v u->Q u s'|.exc n h'=>∀pl a s' H' ι',Now ce X (pj++pl) ι' σi h' σ H' s'->Nxt ι H ι' H'->ι'[n]?=Za a->E (.ref a) s'|.stuck=>False
variable{ce:CeT}{X:Cx}{R:REL α β}{R':REL γ δ}{pj:PnT}{ι ι':Tw}{σi:ISt}{σ:L2.St}{H H':Hp}
theorem Kont.mono(k:Kont ce X R pj ι σi σ H r Q E)(n:Nxt ι H ι' H'):Kont ce X R pj ι' σi σ H' r Q E:=by cases r with|ok v h'=>exact λu s' H2 ι2 N n2 q=>k u s' H2 ι2 N (n.trans n2) q|exc m h'=>exact λpl a s' H2 ι2 N n2 q=>k pl a s' H2 ι2 N (n.trans n2) q|stuck=>exact k
def PX(ce:CeT)(X:Cx)(R:REL α β)(t:Sem β)(m:ISt->IH->Res α):Prop:=∀(pj:PnT)(s:Zk)(σ:L2.St)(H:Hp)(ι:Tw)(σi:ISt)(h:IH)(Q:β->Zk->Prop)(E:QvT),Now ce X pj ι σi h σ H s->Kont ce X R pj ι σi σ H (m σi h) Q E ->Zt (Zz X.prog X.w) X.A t Q E s
theorem PX.run(p:PX ce X R t m)(N:Now ce X pj ι σi h σ H s){g:α->IH->Res γ}{Q:δ->Zk->Prop}{E:QvT}{Q1:β->Zk->Prop} (K:Kont ce X R' pj ι σi σ H ((m σi h).bind g) Q E) (step:∀x h1 u s1 H1 ι1,Now ce X pj ι1 σi h1 σ H1 s1->Nxt ι H ι1 H1->R X.K ι1 H1 x u->Kont ce X R' pj ι1 σi σ H1 (g x h1) Q E->Q1 u s1):Zt (Zz X.prog X.w) X.A t Q1 E s:=by refine p pj s σ H ι σi h Q1 E N ?_;cases e:m σi h with|ok v h'=>rw[e]at K;exact λu s' H' ι' N' n' r=>step v h' u s' H' ι' N' n' r<|Kont.mono (r:=g v h') K n'|exc n h'=>rw[e]at K;exact K|stuck=>rw[e]at K;exact K
end
abbrev PEi(ce:CeT)(X:Cx)(e:Expr)(m:ISt->IH->Res IV):Prop:=PX ce X RU (Zby e X.env) m
abbrev PTi(ce:CeT)(X:Cx)(e:Expr)(m:ISt->IH->Res Bool):Prop:=PX ce X RB (isTrue e X.env<|Zby e X.env) m
def PWi(ce:CeT)(X:Cx)(e:Expr)(m:ISt->IH->Res Bool):Prop:=∀whole:Sem Zg,PX ce X RB (isTrue e X.env whole) m
def PAi(ce:CeT)(X:Cx)(es:Td)(m:ISt->IH->Res (Tx)):Prop:=∀pos:Pos,PX ce X RUs (spliced<|Zbz pos<|ZG es X.env) m
abbrev E1:=ISt->IH->Res IV
abbrev T1:=ISt->IH->Res Bool
abbrev A1:=ISt->IH->Res (Tx)
noncomputable def Ja (i:Nat):E1:=λσ h=>match σ[i]? with|some (Za v)=>.ok v h|_=>.stuck
noncomputable def eC (v:IV):E1:=λ_ h=>.ok v h
def Jc(f:IV->IV->IH->Res IV)(a b:E1):E1:=λσ h=>(a σ h).bind λx h1=>(b σ h1).bind λy h2=>f x y h2
def eUn(f:IV->IH->Res IV)(a:E1):E1:=λσ h=>(a σ h).bind λx h1=>f x h1
def eAnd(a b:E1)(tr:IV->IH->Res Bool):E1:=λσ h=>(a σ h).bind λx h1=>(tr x h1).bind λc h2=>if c then b σ h2 else .ok x h2
def eOr(a b:E1)(tr:IV->IH->Res Bool):E1:=λσ h=>(a σ h).bind λx h1=>(tr x h1).bind λc h2=>if c then .ok x h2 else b σ h2
def eIf(t:T1)(a b:E1):E1:=λσ h=>(t σ h).bind λc h1=>if c then a σ h1 else b σ h1
def Qv(a b:T1):T1:=λσ h=>(a σ h).bind λc h1=>if c then b σ h1 else .ok Zj h1
def tOrI(a b:T1):T1:=λσ h=>(a σ h).bind λc h1=>if c then .ok Zh h1 else b σ h1
def JE(a:T1):T1:=λσ h=>(a σ h).bind λc h1=>.ok (!c) h1
def Jh(tr:IV->IH->Res Bool)(a:E1):T1:=λσ h=>(a σ h).bind λx h1=>tr x h1
noncomputable def Jd:A1:=λ_ h=>.ok [] h
def Jb(a:E1)(r:A1):A1:=λσ h=>(a σ h).bind λx h1=>(r σ h1).bind λxs h2=>.ok (x::xs) h2
def JW(f g:IV->IV->IH->Res IV)(a b c:E1):E1:=λσ h=>(a σ h).bind λx h1=>(b σ h1).bind λy h2=>(f x y h2).bind λk h3=>match k with|.bl Zh=>(c σ h3).bind λz h4=>g y z h4|.bl Zj=>.ok (.bl Zj) h3|_=>.stuck
section
variable{ce:CeT}{X:Cx}{a b c:Expr}{ma mb mc:E1}{pos:Pos}
def OpI(ce:CeT)(X:Cx)(f:Zg->Zg->Sem Zg)(g:IV->IV->IH->Res IV):Prop:=∀(pj:PnT)(s:Zk)(σ:L2.St)(H:Hp)(ι:Tw)(σi:ISt)(h:IH)(x y:IV)(v u:Zg)(Q:QvT)(E:QvT),Now ce X pj ι σi h σ H s->RU X.K ι H x v->RU X.K ι H y u ->Kont ce X RU pj ι σi σ H (g x y h) Q E->Zt (Zz X.prog X.w) X.A (f v u) Q E s
def UnI(ce:CeT)(X:Cx)(f:Zg->Sem Zg)(g:IV->IH->Res IV):Prop:=∀(pj:PnT)(s:Zk)(σ:L2.St)(H:Hp)(ι:Tw)(σi:ISt)(h:IH)(x:IV)(v:Zg)(Q:QvT)(E:QvT),Now ce X pj ι σi h σ H s->RU X.K ι H x v ->Kont ce X RU pj ι σi σ H (g x h) Q E->Zt (Zz X.prog X.w) X.A (f v) Q E s
def TrI(ce:CeT)(X:Cx)(g:IV->IH->Res Bool):Prop:=∀(pj:PnT)(s:Zk)(σ:L2.St)(H:Hp)(ι:Tw)(σi:ISt)(h:IH)(x:IV)(v:Zg)(Q:Bool->Zk->Prop)(E:QvT),Now ce X pj ι σi h σ H s->RU X.K ι H x v ->Kont ce X RB pj ι σi σ H (g x h) Q E->Zt (Zz X.prog X.w) X.A (truthy v) Q E s
def Qr(ce:CeT)(X:Cx)(f:Zg)(g:Tx->IH->Res IV):Prop:=∀(pj:PnT)(s:Zk)(σ:L2.St)(H:Hp)(ι:Tw)(σi:ISt)(h:IH)(xs:Tx)(us:Tv)(Q:QvT)(E:QvT),Now ce X pj ι σi h σ H s->RUs X.K ι H xs us ->Kont ce X RU pj ι σi σ H (g xs h) Q E->Zt (Zz X.prog X.w) X.A (call f us) Q E s
theorem XC{pj:PnT}{s:Zk}{σ:L2.St}{H:Hp}{Q E:QvT}{e:Expr}{t:TE}(p:PE (X.wish E) e t)(I:Inv X pj σ H s) (k:t σ H λz H'=>∀u s',Inv X pj σ H' s'->RelV z u->Q u s'):Zt (Zz X.prog X.w) X.A (Zby e X.env) Q E s:=Zar (p pj s σ H _ (I.wish E) k) (λu s' ⟨_,_,I',r,q⟩=>q u s' I'.unwish r) λ_ _ z=>z
theorem JZ{pj:PnT}{s:Zk}{σ:L2.St}{H:Hp}{Q E:QvT}{f:Zg->Zg->Sem Zg}{r:R2}{x y:V}{v u:Zg}(p:OpR (X.wish E) f r)(I:Inv X pj σ H s)(rx:RelV x v)(ry:RelV y u) (k:r x y H λz H'=>∀u s',Inv X pj σ H' s'->RelV z u->Q u s'):Zt (Zz X.prog X.w) X.A (f v u) Q E s:=Zar (p pj s σ H x y v u _ (I.wish E) rx ry k) (λu s' ⟨_,_,I',r,q⟩=>q u s' I'.unwish r) λ_ _ z=>z
theorem J22{pj:PnT}{s:Zk}{σ:L2.St}{H:Hp}{Q E:QvT}{f:Zg->Sem Zg}{r:V->Hp->VK->Prop}{x:V}{v:Zg}(p:UnR (X.wish E) f r)(I:Inv X pj σ H s)(rx:RelV x v) (k:r x H λz H'=>∀u s',Inv X pj σ H' s'->RelV z u->Q u s'):Zt (Zz X.prog X.w) X.A (f v) Q E s:=Zar (p pj s σ H x v _ (I.wish E) rx k) (λu s' ⟨_,_,I',r,q⟩=>q u s' I'.unwish r) λ_ _ z=>z
theorem VF{pj:PnT}{s:Zk}{σ:L2.St}{H:Hp}{Q:Bool->Zk->Prop}{E:QvT}{r:V->Hp->(Bool->Hp->Prop)->Prop}{x:V}{v:Zg}(p:TruR (X.wish E) r)(I:Inv X pj σ H s)(rx:RelV x v) (k:r x H λz H'=>∀s',Inv X pj σ H' s'->Q z s'):Zt (Zz X.prog X.w) X.A (truthy v) Q E s:=Zar (p pj s σ H x v _ (I.wish E) rx k) (λ_ s' ⟨_,I',q⟩=>q s' I'.unwish) λ_ _ z=>z
theorem QO{pj:PnT}{s:Zk}{σ:L2.St}{H:Hp}{Q E:QvT}{f:Zg}{r:Ud->Hp->VK->Prop}{xs:Ud}{us:Tv}(p:Xa (X.wish E) f r)(I:Inv X pj σ H s)(rx:Vals xs us) (k:r xs H λz H'=>∀u s',Inv X pj σ H' s'->RelV z u->Q u s'):Zt (Zz X.prog X.w) X.A (call f us) Q E s:=Zar (p pj s σ H xs us _ (I.wish E) rx k) (λu s' ⟨_,_,I',r,q⟩=>q u s' I'.unwish r) λ_ _ z=>z
theorem J4c(i:Nat){pos:Pos}(hN:X.N[i]?=Za x:=by rfl)(hv:Vis X.env.scope x:=by assumption)(hd:(x==("__debug__":Str))=Zj:=by decide) (hcd:(x==("__classdict__":Str))=Zj:=by decide):PEi ce X (.Name x pos) (Ja i):=by
 intro pj s σ H ι σi h Q E N K;unfold Ja at K;cases e:σi[i]? with|none=>rw[e]at K;exact Zf K|some o=>cases o with|none=>rw[e]at K;exact Zf K|some v=>rw[e]at K;obtain⟨u,e1,q⟩:=N.st.at_ i v e;exact XC (J18 (X:=X.wish E) hN hv hd hcd) N.inv #[u,e1,λu' s' I' r'=>K u' s' H ι #[I',N.rel,N.st] .refl #[u,r',q]]
theorem J0t{i j pos}:PEi ce X (.Constant (.int i) j pos) (eC<|.int i):=λ_ _ _ H ι _ _ _ E N K=>XC (J15 (X:=X.wish E)) N.inv λu' s' I' r'=>K u' s' H ι #[I',N.rel,N.st] .refl #[_,r',rfl]
theorem i_bl{i j pos}:PEi ce X (.Constant (.bool i) j pos) (eC<|.bl i):=λ_ _ _ H ι _ _ _ E N K=>XC (J4x (X:=X.wish E)) N.inv λu' s' I' r'=>K u' s' H ι #[I',N.rel,N.st] .refl #[_,r',rfl]
theorem J0y{j pos}:PEi ce X (.Constant .none j pos) (eC .non):=λ_ _ _ H ι _ _ _ E N K=>XC (J16 (X:=X.wish E)) N.inv λu' s' I' r'=>K u' s' H ι #[I',N.rel,N.st] .refl #[_,r',rfl]
theorem J00{i j pos}:PEi ce X (.Constant (.str i) j pos) (eC<|.str i):=λ_ _ _ H ι _ _ _ E N K=>XC (J17 (X:=X.wish E)) N.inv λu' s' I' r'=>K u' s' H ι #[I',N.rel,N.st] .refl #[_,r',rfl]
theorem J0s(hg:Gl X x)(hm:X.mg x=Za u)(r:RelV v u)(q:∀ι H,RV X.K ι H iv v)(hd:(x==("__debug__":Str))=Zj:=by decide):PEi ce X (.Name x pos) (eC iv):=λ_ _ _ H ι _ _ _ E N K=>XC (Jyg (X:=X.wish E) hg hm r hd) N.inv λu' s' I' r'=>K u' s' H ι #[I',N.rel,N.st] .refl #[_,r',q _ _]
theorem J35(ho:OpI ce X (Zbv op) f)(ha:PEi ce X a ma)(hb:PEi ce X b mb):PEi ce X (.BinOp a op b pos) (Jc f ma mb):=λpj s σ H ι σi h Q E N K=>wpAny_BinOp<|ha.run N K λx h1 u s1 H1 ι1 N1 n1 r1 K1=>hb.run N1 K1 λy h2 w s2 H2 ι2 N2 n2 r2 K2=>ho pj s2 σ H2 ι2 σi h2 x y u w Q E N2 (r1.mono n2) r2 K2
theorem i_un(ho:UnI ce X (unaryOp op) f)(ha:PEi ce X a ma):PEi ce X (.UnaryOp op a pos) (eUn f ma):=λpj s σ H ι σi h Q E N K=>UnaryOp_<|ha.run N K λx h1 u s1 H1 ι1 N1 n1 r1 K1=>ho pj s1 σ H1 ι1 σi h1 x u Q E N1 r1 K1
theorem J37(ho:OpI ce X (ZaC op) f)(ha:PEi ce X a ma)(hb:PEi ce X b mb)(hm:Zdc op b=Zj:=by assumption):PEi ce X (.Compare a [op] [b] pos) (Jc f ma mb):=λpj s σ H ι σi h Q E N K=>wpAny_Compare1 (ha.run N K λx h1 u s1 H1 ι1 N1 n1 r1 K1=>hb.run N1 K1 λy h2 w s2 H2 ι2 N2 n2 r2 K2=>ho pj s2 σ H2 ι2 σi h2 x y u w Q E N2 (r1.mono n2) r2 K2) hm
noncomputable def asB:IV->IH->Res Bool|.bl b,h=>.ok b h|_,_=>.stuck
theorem Kont.asB{r:Res IV}(K:Kont ce X RB pj ι σi σ H (r.bind asB) Q E):Kont ce X RU pj ι σi σ H r (λv s=>Zt (Zz X.prog X.w) X.A (truthy v) Q E s) E:=by
 cases r with|exc n h=>exact K|stuck=>exact K|ok v h=>intro u s' H' ι' N n q;obtain⟨x,rx,q⟩:=q;cases v with|bl b=>have e:x=.bl b:=q;subst e;cases rx;exact ZbI<|K b s' H' ι' N n rfl|_=>exact Zf K
theorem Res.bind_bind(r:Res α)(f:α->IH->Res β)(g:β->IH->Res γ):(r.bind f).bind g=r.bind λx h=>(f x h).bind g:=by cases r<;>rfl
theorem J49(ho:OpI ce X (ZaC op) f)(ha:PEi ce X a ma)(hb:PEi ce X b mb)(hm:Zdc op b=Zj:=by assumption):PTi ce X (.Compare a [op] [b] pos) (Jh asB<|Jc f ma mb):=λpj s σ H ι σi h Q E N K=>by
  have K':Kont ce X RB pj ι σi σ H ((ma σi h).bind λx h1=>(mb σi h1).bind λy h2=>(f x y h2).bind asB) Q E:=by unfold Jh Jc at K;rw[Res.bind_bind]at K;simp only[Res.bind_bind]at K;exact K
  exact wpAny_isTrue_Compare1 (ha.run N K' λx h1 u s1 H1 ι1 N1 n1 r1 K1=>hb.run N1 K1 λy h2 w s2 H2 ι2 N2 n2 r2 K2=>ho pj s2 σ H2 ι2 σi h2 x y u w _ E N2 (r1.mono n2) r2<|Kont.asB K2) hm
theorem J2x{tr:IV->IH->Res Bool}(ht:TrI ce X tr)(ha:PEi ce X a ma)(he:∀whole,isTrue a X.env whole=(do let v<-whole;ZfJ a.pos;Zce [v] (truthy v)):=by intro _;rfl):PTi ce X a (Jh tr ma):=λpj s σ H ι σi h Q E N K=>isTrue_plain (ha.run N K λx h1 u s1 H1 ι1 N1 n1 r1 K1=>ht pj s1 σ H1 ι1 σi h1 x u Q E N1 r1 K1)<|he _
variable{rest:Td}{ta tb:T1}
theorem Jy5(ha:PTi ce X a ta):PWi ce X (.BoolOp .And [a] pos) ta:=λwh pj s σ H ι σi h Q E N K=>by
 refine isTrue_and<|ha pj s σ H ι σi h _ E N ?_;cases e:ta σi h with
 |ok v h'=>rw[e]at K;intro u s' H' ι' N' n' r;have r':u=v:=r;subst r';cases u with|true=>exact isTrue_and_nil<|K Zh s' H' ι' N' n' rfl|false=>exact K Zj s' H' ι' N' n' rfl
 |exc n h'=>rw[e]at K;exact K
 |stuck=>rw[e]at K;exact K
theorem J20(ha:PTi ce X a ta):PWi ce X (.BoolOp .Or [a] pos) ta:=λwh pj s σ H ι σi h Q E N K=>by
 refine isTrue_or<|ha pj s σ H ι σi h _ E N ?_;cases e:ta σi h with
 |ok v h'=>rw[e]at K;intro u s' H' ι' N' n' r;have r':u=v:=r;subst r';cases u with|false=>exact isTrue_or_nil<|K Zj s' H' ι' N' n' rfl|true=>exact K Zh s' H' ι' N' n' rfl
 |exc n h'=>rw[e]at K;exact K
 |stuck=>rw[e]at K;exact K
theorem J2z(ha:PTi ce X a ta)(hb:PWi ce X (.BoolOp .And (b::rest) pos) tb):PWi ce X (.BoolOp .And (a::b::rest) pos) (Qv ta tb):=λwh pj s σ H ι σi h Q E N K=>
 isTrue_and (ha.run N K λc h1 u s1 H1 ι1 N1 n1 r1 K1=>by have r':u=c:=r1;subst r';cases u with|true=>exact hb wh pj s1 σ H1 ι1 σi h1 Q E N1 K1|false=>exact K1 Zj s1 H1 ι1 N1 .refl rfl)
theorem J5d(ha:PTi ce X a ta)(hb:PWi ce X (.BoolOp .Or (b::rest) pos) tb):PWi ce X (.BoolOp .Or (a::b::rest) pos) (tOrI ta tb):=λwh pj s σ H ι σi h Q E N K=>
 isTrue_or (ha.run N K λc h1 u s1 H1 ι1 N1 n1 r1 K1=>by have r':u=c:=r1;subst r';cases u with|false=>exact hb wh pj s1 σ H1 ι1 σi h1 Q E N1 K1|true=>exact K1 Zh s1 H1 ι1 N1 .refl rfl)
theorem PWi.t(h:PWi ce X a ta):PTi ce X a ta:=h _
theorem J5a(ha:PTi ce X a ta):PTi ce X (.UnaryOp .Not a pos) (JE ta):=λpj s σ H ι σi h Q E N K=>
 isTrue_not (ha.run N K λc h1 u s1 H1 ι1 N1 n1 r1 K1=>by have r':u=c:=r1;subst r';exact K1 (!u) s1 H1 ι1 N1 .refl rfl)
theorem J0z{op}(h:PEi ce X a ma):PEi ce X (.BoolOp op [a] pos) ma:=λpj s σ H ι σi h' Q E N K=>BoolOp_one<|h pj s σ H ι σi h' Q E N K
theorem J34(ht:TrI ce X tr)(ha:PEi ce X a ma)(hb:PEi ce X (.BoolOp .And (b::rest) pos) mb):PEi ce X (.BoolOp .And (a::b::rest) pos) (eAnd ma mb tr):=λpj s σ H ι σi h Q E N K=>
 BoolOp_and (ha.run N K λx h1 u s1 H1 ι1 N1 n1 r1 K1=>by
  refine ht pj s1 σ H1 ι1 σi h1 x u _ E N1 r1 ?_;cases e:tr x h1 with
  |ok c h2=>rw[e]at K1;intro d s2 H2 ι2 N2 n2 r2;have r':d=c:=r2;subst r';have K2:=Kont.mono (r:=if d=Zh then mb σi h2 else .ok x h2) K1 n2;cases d with|true=>exact hb pj s2 σ H2 ι2 σi h2 Q E N2 K2|false=>exact K2 u s2 H2 ι2 N2 .refl<|r1.mono n2
  |exc n h'=>rw[e]at K1;exact K1
  |stuck=>rw[e]at K1;exact K1)
theorem i_or(ht:TrI ce X tr)(ha:PEi ce X a ma)(hb:PEi ce X (.BoolOp .Or (b::rest) pos) mb):PEi ce X (.BoolOp .Or (a::b::rest) pos) (eOr ma mb tr):=λpj s σ H ι σi h Q E N K=>
 BoolOp_or (ha.run N K λx h1 u s1 H1 ι1 N1 n1 r1 K1=>by
  refine ht pj s1 σ H1 ι1 σi h1 x u _ E N1 r1 ?_;cases e:tr x h1 with
  |ok c h2=>rw[e]at K1;intro d s2 H2 ι2 N2 n2 r2;have r':d=c:=r2;subst r';have K2:=Kont.mono (r:=if d=Zh then .ok x h2 else mb σi h2) K1 n2;cases d with|false=>exact hb pj s2 σ H2 ι2 σi h2 Q E N2 K2|true=>exact K2 u s2 H2 ι2 N2 .refl<|r1.mono n2
  |exc n h'=>rw[e]at K1;exact K1
  |stuck=>rw[e]at K1;exact K1)
def Jt7(tr:IV->IH->Res Bool):IV->IH->Res IV:=λx h=>(tr x h).bind λc h1=>.ok (.bl (!c)) h1
theorem Jy6(ht:TrI ce X tr):UnI ce X (unaryOp .Not) (Jt7 tr):=λpj s σ H ι σi h x v Q E N r K=>by refine not_of<|ht pj s σ H ι σi h x v _ E N r ?_;unfold Jt7 at K;cases e:tr x h with|ok c h2=>rw[e]at K;intro d s2 H2 ι2 N2 n2 r2;have r':d=c:=r2;subst r';exact K _ s2 H2 ι2 N2 n2 #[.bl (!d),rfl,rfl]|exc n h'=>rw[e]at K;exact K|stuck=>rw[e]at K;exact K
theorem Jxn{t:Expr}{mt:T1}(ht:PTi ce X t mt)(ha:PEi ce X a ma)(hb:PEi ce X b mb):PEi ce X (.IfExp t a b pos) (eIf mt ma mb):=λpj s σ H ι σi h Q E N K=>
 wpAny_IfExp (ht.run N K λc h1 u s1 H1 ι1 N1 n1 r1 K1=>by have r':u=c:=r1;subst r';cases u with|true=>exact ha pj s1 σ H1 ι1 σi h1 Q E N1 K1|false=>exact hb pj s1 σ H1 ι1 σi h1 Q E N1 K1)
theorem Jxm(ho:OpI ce X (ZaC op) f)(ho':OpI ce X (ZaC op') g)(ha:PEi ce X a ma)(hb:PEi ce X b mb)(hc:PEi ce X c mc) (hm:ZeJ [op,op'] [b,c]=Zj:=by with_unfolding_all rfl):PEi ce X (.Compare a [op,op'] [b,c] pos) (JW f g ma mb mc):=λpj s σ H ι σi h Q E N K=>
 Compare_chain (ha.run N K λx h1 u s1 H1 ι1 N1 n1 r1 K1=>chain_link (hb.run N1 K1 λy h2 w s2 H2 ι2 N2 n2 r2 K2=>by
  refine ho pj s2 σ H2 ι2 σi h2 x y u w _ E N2 (r1.mono n2) r2 ?_;cases e:f x y h2 with|exc n h'=>rw[e]at K2;exact K2|stuck=>rw[e]at K2;exact K2|ok k h3=>
   rw[e]at K2;intro d s3 H3 ι3 N3 n3 r3;obtain⟨z,rz,q⟩:=r3;cases k with
   |bl k=>have e':z=.bl k:=q;subst e';cases rz;refine ZbI ?_;have K3:=Kont.mono (r:=match IV.bl k with|.bl Zh=>(mc σi h3).bind λz h4=>g y z h4|.bl Zj=>.ok (.bl Zj) h3|_=>.stuck) K2 n3;cases k with|false=>exact ite_ff<|K3 _ s3 H3 ι3 N3 .refl #[.bl Zj,rfl,rfl]|true=>exact ite_tt<|chain_last<|hc.run N3 K3 λz h4 w' s4 H4 ι4 N4 n4 r4 K4=>ho' pj s4 σ H4 ι4 σi h4 y z w w' Q E N4 ((r2.mono n3).mono n4) r4 K4
   |_=>exact Zf K2)) hm
theorem Jy3(ho:OpI ce X (ZaC op) f)(ho':OpI ce X (ZaC op') g)(ha:PEi ce X a ma)(hb:PEi ce X b mb)(hc:PEi ce X c mc) (hm:ZeJ [op,op'] [b,c]=Zj:=by with_unfolding_all rfl):PTi ce X (.Compare a [op,op'] [b,c] pos) (Jh asB<|JW f g ma mb mc):=λpj s σ H ι σi h Q E N K=>by
 have K':Kont ce X RB pj ι σi σ H ((ma σi h).bind λx h1=>(mb σi h1).bind λy h2=>(f x y h2).bind λk h3=>(match k with|.bl Zh=>(mc σi h3).bind λz h4=>g y z h4|.bl Zj=>.ok (.bl Zj) h3|_=>.stuck:Res IV).bind asB) Q E:=by unfold Jh JW at K;rw[Res.bind_bind]at K;simp only[Res.bind_bind]at K;exact K
 refine isTrue_chain (ha.run N K' λx h1 u s1 H1 ι1 N1 n1 r1 K1=>test_link<|hb.run N1 K1 λy h2 w s2 H2 ι2 N2 n2 r2 K2=>?_) hm;refine ho pj s2 σ H2 ι2 σi h2 x y u w _ E N2 (r1.mono n2) r2 ?_;cases e:f x y h2 with|exc n h'=>rw[e]at K2;exact K2|stuck=>rw[e]at K2;exact K2|ok k h3=>
  rw[e]at K2;intro d s3 H3 ι3 N3 n3 r3;obtain⟨z,rz,q⟩:=r3;cases k with
  |bl k=>
   have e':z=.bl k:=q;subst e';cases rz;refine ZbI ?_;have K3:=Kont.mono (r:=(match IV.bl k with|.bl Zh=>(mc σi h3).bind λz h4=>g y z h4|.bl Zj=>.ok (.bl Zj) h3|_=>.stuck:Res IV).bind asB) K2 n3;cases k with|false=>exact ite_ff<|K3 _ s3 H3 ι3 N3 .refl rfl|true=>
    have K3':Kont ce X RB pj ι3 σi σ H3 ((mc σi h3).bind λz h4=>(g y z h4).bind asB) Q E:=by have:=K3;dsimp only at this;rw[Res.bind_bind]at this;exact this
    exact ite_tt<|test_last<|hc.run N3 K3' λz h4 w' s4 H4 ι4 N4 n4 r4 K4=>ho' pj s4 σ H4 ι4 σi h4 y z w w' _ E N4 ((r2.mono n3).mono n4) r4<|Kont.asB K4
  |_=>exact Zf K2
variable{es:Td}{mr:A1}
theorem RUs.nil{K:W.Frag}{ι:Tw}{H:Hp}:RUs K ι H [] []:=#[[],.nil,rfl]
theorem RUs.cons{K:W.Frag}{ι:Tw}{H:Hp}{x:IV}{u:Zg}{xs:Tx}{us:Tv}(a:RU K ι H x u)(b:RUs K ι H xs us):RUs K ι H (x::xs) (u::us):=let ⟨v,r,q⟩:=a;let ⟨vs,rs,qs⟩:=b;#[v::vs,.cons r rs,v,vs,rfl,q,qs]
theorem Q0:PAi ce X [] Jd:=λ_ pj s σ H ι σi h Q E N K=>Calls.spliced_nil<|K [] s H ι N .refl .nil
theorem Qs(ha:PEi ce X a ma)(hr:PAi ce X es mr)(hs:ZG (a::es) X.env=(Zj,Zby a X.env)::ZG es X.env:=by rfl):PAi ce X (a::es) (Jb ma mr):=by intro pos pj s σ H ι σi h Q E N K;rw[hs];show Zt _ _ (spliced<|(Zj,Zby a X.env)::Zbz pos (ZG es X.env)) _ _ s;exact Zen<|ha.run N K λx h1 u s1 H1 ι1 N1 n1 r1 K1=>(hr pos).run N1 K1 λxs h2 us s2 H2 ι2 N2 n2 r2 K2=>K2 _ s2 H2 ι2 N2 .refl<|.cons (r1.mono n2) r2
end
noncomputable def Jo:IV->IV->IH->Res IV
 |.int i,.int j,h=>.ok (.int<|i+j) h
 |.str x,.str y,h=>if x.length+y.length<=sizeLine then .ok (.str<|x++y) h else .stuck
 |.ref i,.ref j,h=>match h[i]?,h[j]? with
  |some (.lst xs),Za (.lst ys)=>if xs.length+ys.length<=sizeLine then .ok (.ref h.length) (h++[.lst<|xs++ys])else .stuck
  |_,_=>.stuck
 |.tup xs,.tup ys,h=>if xs≠[]/\ys≠[]/\xs.length+ys.length<=sizeLine then .ok (.tup<|xs++ys) h else .stuck
 |_,_,_=>.stuck
noncomputable def Qm:IV->IV->IH->Res IV|.int i,.int j,h=>.ok (.int<|i-j) h|_,_,_=>.stuck
def QR(i j:Int):Prop:=i.natAbs<2^64∨j.natAbs<2^64∨(i.natAbs.log2<1048576/\j.natAbs.log2<1048576)
instance (i j:Int):Decidable (QR i j):=by unfold QR;exact inferInstance
noncomputable def Xx:IV->IV->IH->Res IV
 |.int i,.int j,h=>if QR i j then .ok (.int<|i*j) h else .stuck
 |.ref i,.int k,h=>match h[i]? with
  |some (.lst xs)=>if -(2^63)<=k/\k<2^63/\xs.length*k.toNat<=sizeLine then .ok (.ref h.length) (h++[.lst (Zab k.toNat xs).flatten])else .stuck
  |_=>.stuck
 |_,_,_=>.stuck
noncomputable def JJ:IV->IV->IH->Res IV|.int i,.int j,h=>if 0<j/\j.natAbs.log2<9000 then .ok (.int<|i/j) h else .stuck|_,_,_=>.stuck
noncomputable def J2:IV->IV->IH->Res IV|.int i,.int j,h=>if 0<j then .ok (.int<|i%j) h else .stuck|_,_,_=>.stuck
noncomputable def JS:IV->IV->IH->Res IV|.int i,.int j,h=>if 0<=j/\j<=1000000/\i.natAbs<2^64 then .ok (.int<|i^j.toNat) h else .stuck|_,_,_=>.stuck
noncomputable def V8:IV->IH->Res IV|.int i,h=>.ok (.int (-i)) h|_,_=>.stuck
section
variable{ce:CeT}{X:Cx}
theorem fin0{w:V}(N:Now ce X pj ι σi h σ H s)(K:Kont ce X RU pj ι σi σ H (.ok v h) Q E) (q:RV X.K ι H v w):∀u s',Inv X pj σ H s'->RelV w u->Q u s':=λu s' I r=>K u s' H ι #[I,N.rel,N.st] .refl #[w,r,q]
theorem finA{io:IX}{o:HO}{Q E:QvT}(N:Now ce X pj ι σi h σ H s) (K:Kont ce X RU pj ι σi σ H (.ok (.ref h.length)<|h++[io]) Q E)(l:Zo)(e:H l=Zd)(r:RO ce X.K (ι++[l]) (upd H l o) l io):∀u s',Inv X pj σ (upd H l o) s'->RelV (.ref l) u->Q u s':=λu s' I ru=>by obtain⟨R,n⟩:=N.rel.alloc e r;refine K u s' _ _ #[I,R,N.st.mono n] n #[.ref l,ru,l,rfl,?_];rw[<-N.rel.len,ZE<|Zm _];simp
theorem finT{xs:Tx}{vs:Ud}{Q E:QvT}(N:Now ce X pj ι σi h σ H s) (K:Kont ce X RU pj ι σi σ H (.ok (.tup xs) h) Q E)(l:Zo)(e:H l=Zd)(r:RVs X.K ι H xs vs):∀u s',Inv X pj σ (upd H l<|.tup vs) s'->RelV (.ref l) u->Q u s':=λu s' I ru=>by obtain⟨R,n⟩:=N.rel.grow (o:=.tup vs) e;exact K u s' _ _ #[I,R,N.st.mono n] n #[.ref l,ru,l,vs,rfl,SqT.of Jz,RVs.mono n _ _ r]
theorem RVs.new{K:W.Frag}{ι:Tw}{H:Hp}{l:Zo}{o:HO}(e:H l=Zd){xs:Tx}{vs:Ud}(r:RVs K ι H xs vs):RVs K (ι++[l]) (upd H l o) xs vs:=RVs.mono #[#[[l],rfl],Ext.upd_new e] _ _ r
theorem Now.at(N:Now ce X pj ι σi h σ H s){i:Nat}(e:h[i]?=Za o)(ha:ι[i]?=Za a):RO ce X.K ι H a o:=by obtain⟨b,e1,r⟩:=N.rel.at_ i o e;rw[ha]at e1;cases e1;exact r
theorem J4k:OpI ce X (Zbv .Add) Jo:=by
 intro pj s σ H ι σi h x y v u Q E N rx ry K;obtain⟨xv,rx,qx⟩:=rx;obtain⟨yv,ry,qy⟩:=ry;cases x with
 |int i=>cases y with|int j=>have e1:xv=.int i:=qx;have e2:yv=.int j:=qy;subst e1 e2;exact JZ (J1w (X:=X.wish E)) N.inv rx ry #[i,j,rfl,rfl,fin0 N K rfl]|_=>exact Zf K
 |str i=>
  cases y with
  |str j=>
   have e1:xv=.str i:=qx;have e2:yv=.str j:=qy;subst e1 e2;dsimp only[Jo]at K;split at K
   ·rename_i hz;exact JZ (Jn2 (X:=X.wish E)) N.inv rx ry #[i,j,rfl,rfl,hz,fin0 N K rfl]
   ·exact Zf K
  |_=>exact Zf K
 |tup xs=>
  cases y with
  |tup ys=>
   obtain⟨a,vs,e1,sa,ra⟩:=qx;obtain⟨b,ws,e2,sb,rb⟩:=qy;subst e1 e2;dsimp only[Jo]at K;split at K
   ·rename_i hz;obtain⟨h1,h2,h3⟩:=hz;have n1:vs≠[]:=λz=>h1 (by have:=ra.length;rw[z]at this;exact ZaF this.symm)
    have n2:ws≠[]:=λz=>h2 (by have:=rb.length;rw[z]at this;exact ZaF this.symm)
    exact JZ (Jyc (X:=X.wish E)) N.inv rx ry #[a,b,vs,ws,rfl,rfl,sa,sb,n1,by rw[ra.length,rb.length];exact h3,λz=>absurd z n2,λ_ p hp=>finT N K p hp<|ra.append rb]
   ·exact Zf K
  |_=>exact Zf K
 |ref i=>
  cases y with
  |ref j=>
   obtain⟨a,e1,ha⟩:=qx;obtain⟨b,e2,hb⟩:=qy;subst e1 e2;dsimp only[Jo]at K;cases hi:h[i]? with|none=>rw[hi]at K;exact Zf K|some oi=>
    cases hj:h[j]? with|none=>rw[hi,hj]at K;cases oi<;>exact Zf K|some oj=>
     rw[hi,hj]at K;cases oi with
     |lst xs=>
      cases oj with
      |lst ys=>
       dsimp only at K;split at K
       ·rename_i hz;obtain⟨vs,e1,r1⟩:=N.at hi ha;obtain⟨ws,e2,r2⟩:=N.at hj hb;exact JZ (J1x (X:=X.wish E)) N.inv rx ry #[a,b,vs,ws,rfl,rfl,e1,e2,by rw[r1.length,r2.length];exact hz,λp hp=>finA N K p hp #[_,Jz,RVs.new hp<|r1.append r2]]
       ·exact Zf K
      |_=>exact Zf K
     |_=>exact Zf K
  |_=>exact Zf K
 |_=>cases y<;>exact Zf K
theorem J4q:OpI ce X (Zbv .Sub) Qm:=by
 intro pj s σ H ι σi h x y v u Q E N rx ry K;obtain⟨xv,rx,qx⟩:=rx;obtain⟨yv,ry,qy⟩:=ry;cases x with
 |int i=>cases y with|int j=>have e1:xv=.int i:=qx;have e2:yv=.int j:=qy;subst e1 e2;exact JZ (J11 (X:=X.wish E)) N.inv rx ry #[i,j,rfl,rfl,fin0 N K rfl]|_=>exact Zf K
 |_=>cases y<;>exact Zf K
theorem QR.ok(h:QR i j):IntMulOk i j:=by
 rcases h with h|h|⟨h1,h2⟩
 ·exact .of_left<|intBits_le_64 05 05
 ·exact .of_right<|intBits_le_64 05 05
 ·refine .of_bits ?_ ?_
  ·unfold Builtin.Int.intBits;split
   ·exact ZA _
   ·have:(2:Nat)^20=1048576:=01;lia
  ·unfold Builtin.Int.intBits;split
   ·exact ZA _
   ·have:(2:Nat)^20=1048576:=01;lia
theorem Jyd:OpR X (Zbv .Mult) (rI QR λi j=>.int<|i*j):=opI λ_ _ _ _ _ _ _ hc q=>mul_int q hc.ok
theorem J4o:OpI ce X (Zbv .Mult) Xx:=by
 intro pj s σ H ι σi h x y v u Q E N rx ry K;obtain⟨xv,rx,qx⟩:=rx;obtain⟨yv,ry,qy⟩:=ry;cases x with
 |int i=>
  cases y with
  |int j=>
   have e1:xv=.int i:=qx;have e2:yv=.int j:=qy;subst e1 e2;dsimp only[Xx]at K;split at K
   ·rename_i hz;exact JZ (Jyd (X:=X.wish E)) N.inv rx ry #[i,j,rfl,rfl,hz,fin0 N K rfl]
   ·exact Zf K
  |_=>exact Zf K
 |ref i=>
  cases y with
  |int k=>
   obtain⟨a,e1,ha⟩:=qx;have e2:yv=.int k:=qy;subst e1 e2;dsimp only[Xx]at K;cases hi:h[i]? with|none=>rw[hi]at K;exact Zf K|some oi=>
    rw[hi]at K;cases oi with
    |lst xs=>
     dsimp only at K;split at K
     ·rename_i hz;obtain⟨vs,e1,r1⟩:=N.at hi ha;have rr:∀n:Nat,RVs X.K ι H (Zab n xs).flatten (Zab n vs).flatten:=λn=>by induction n with|zero=>exact rfl|succ n ih=>rw[Zb2,Zb2,Zcd,Zcd];exact r1.append ih
      exact JZ (J10 (X:=X.wish E)) N.inv rx ry #[a,k,vs,rfl,rfl,e1,hz.1,hz.2.1,by rw[r1.length];exact hz.2.2,λp hp=>finA N K p hp #[_,Jz,RVs.new hp<|rr _]]
     ·exact Zf K
    |_=>exact Zf K
  |_=>exact Zf K
 |_=>cases y<;>exact Zf K
theorem Jt8:OpR X (Zbv .FloorDiv) (rI (λ_ j=>0<j/\j.natAbs.log2<9000) λi j=>.int<|i/j):=opI λi j _ _ _ _ _ hc q=>by have h1:(0:Int)<j:=hc.1;exact floordiv_int 05 (by rw[Int.fdiv_eq_ediv_of_nonneg i 05];exact q)<|.inl<|PyProof.noPylong_of_log2 hc.2
theorem J1u:OpI ce X (Zbv .FloorDiv) JJ:=by
 intro pj s σ H ι σi h x y v u Q E N rx ry K;obtain⟨xv,rx,qx⟩:=rx;obtain⟨yv,ry,qy⟩:=ry;cases x with
 |int i=>
  cases y with
  |int j=>
   have e1:xv=.int i:=qx;have e2:yv=.int j:=qy;subst e1 e2;dsimp only[JJ]at K;split at K
   ·rename_i hz;exact JZ (Jt8 (X:=X.wish E)) N.inv rx ry #[i,j,rfl,rfl,hz,fin0 N K rfl]
   ·exact Zf K
  |_=>exact Zf K
 |_=>cases y<;>exact Zf K
theorem J4n:OpI ce X (Zbv .Mod) J2:=by
 intro pj s σ H ι σi h x y v u Q E N rx ry K;obtain⟨xv,rx,qx⟩:=rx;obtain⟨yv,ry,qy⟩:=ry;cases x with
 |int i=>
  cases y with
  |int j=>
   have e1:xv=.int i:=qx;have e2:yv=.int j:=qy;subst e1 e2;dsimp only[J2]at K;split at K
   ·rename_i hz;exact JZ (J1y (X:=X.wish E)) N.inv rx ry #[i,j,rfl,rfl,hz,fin0 N K rfl]
   ·exact Zf K
  |_=>exact Zf K
 |_=>cases y<;>exact Zf K
theorem J4p:OpI ce X (Zbv .Pow) JS:=by
 intro pj s σ H ι σi h x y v u Q E N rx ry K;obtain⟨xv,rx,qx⟩:=rx;obtain⟨yv,ry,qy⟩:=ry;cases x with
 |int i=>
  cases y with
  |int j=>
   have e1:xv=.int i:=qx;have e2:yv=.int j:=qy;subst e1 e2;dsimp only[JS]at K;split at K
   ·rename_i hz;exact JZ (J1z (X:=X.wish E)) N.inv rx ry #[i,j,rfl,rfl,hz,fin0 N K rfl]
   ·exact Zf K
  |_=>exact Zf K
 |_=>cases y<;>exact Zf K
theorem J5e:UnI ce X (unaryOp .USub) V8:=by intro pj s σ H ι σi h x v Q E N rx K;obtain⟨xv,rx,qx⟩:=rx;cases x with|int i=>have e1:xv=.int i:=qx;subst e1;exact J22 (J21 (X:=X.wish E)) N.inv rx #[i,rfl,fin0 N K rfl]|_=>exact Zf K
noncomputable def cLt:IV->IV->IH->Res IV|.int i,.int j,h=>.ok (.bl<|decide (i<j)) h|.str x,.str y,h=>.ok (.bl<|decide (x.cps.toList<y.cps.toList)) h|_,_,_=>.stuck
noncomputable def cLe:IV->IV->IH->Res IV|.int i,.int j,h=>.ok (.bl<|decide (i<=j)) h|.str x,.str y,h=>.ok (.bl (!decide (y.cps.toList<x.cps.toList))) h|_,_,_=>.stuck
noncomputable def cGt:IV->IV->IH->Res IV|.int i,.int j,h=>.ok (.bl<|decide (j<i)) h|_,_,_=>.stuck
noncomputable def cGe:IV->IV->IH->Res IV|.int i,.int j,h=>.ok (.bl<|decide (j<=i)) h|_,_,_=>.stuck
theorem o_lt:OpI ce X (ZaC .Lt) cLt:=by
 intro pj s σ H ι σi h x y v u Q E N rx ry K;obtain⟨xv,rx,qx⟩:=rx;obtain⟨yv,ry,qy⟩:=ry;cases x with
 |int i=>cases y with|int j=>have e1:xv=.int i:=qx;have e2:yv=.int j:=qy;subst e1 e2;exact JZ (J4v (X:=X.wish E)) N.inv rx ry #[i,j,rfl,rfl,fin0 N K rfl]|_=>exact Zf K
 |str i=>cases y with|str j=>have e1:xv=.str i:=qx;have e2:yv=.str j:=qy;subst e1 e2;exact JZ (Jq6 (X:=X.wish E)) N.inv rx ry #[i,j,rfl,rfl,fin0 N K rfl]|_=>exact Zf K
 |_=>cases y<;>exact Zf K
theorem o_le:OpI ce X (ZaC .LtE) cLe:=by
 intro pj s σ H ι σi h x y v u Q E N rx ry K;obtain⟨xv,rx,qx⟩:=rx;obtain⟨yv,ry,qy⟩:=ry;cases x with
 |int i=>cases y with|int j=>have e1:xv=.int i:=qx;have e2:yv=.int j:=qy;subst e1 e2;exact JZ (J4u (X:=X.wish E)) N.inv rx ry #[i,j,rfl,rfl,fin0 N K rfl]|_=>exact Zf K
 |str i=>cases y with|str j=>have e1:xv=.str i:=qx;have e2:yv=.str j:=qy;subst e1 e2;obtain⟨t,rfl⟩:=rx;obtain⟨t',rfl⟩:=ry;exact PySem.P.le_str<|fin0 N K rfl _ s N.inv rfl|_=>exact Zf K
 |_=>cases y<;>exact Zf K
theorem o_gt:OpI ce X (ZaC .Gt) cGt:=by
 intro pj s σ H ι σi h x y v u Q E N rx ry K;obtain⟨xv,rx,qx⟩:=rx;obtain⟨yv,ry,qy⟩:=ry;cases x with
 |int i=>cases y with|int j=>have e1:xv=.int i:=qx;have e2:yv=.int j:=qy;subst e1 e2;exact JZ (J4t (X:=X.wish E)) N.inv rx ry #[i,j,rfl,rfl,fin0 N K rfl]|_=>exact Zf K
 |_=>cases y<;>exact Zf K
theorem o_ge:OpI ce X (ZaC .GtE) cGe:=by
 intro pj s σ H ι σi h x y v u Q E N rx ry K;obtain⟨xv,rx,qx⟩:=rx;obtain⟨yv,ry,qy⟩:=ry;cases x with
 |int i=>cases y with|int j=>have e1:xv=.int i:=qx;have e2:yv=.int j:=qy;subst e1 e2;exact JZ (J4s (X:=X.wish E)) N.inv rx ry #[i,j,rfl,rfl,fin0 N K rfl]|_=>exact Zf K
 |_=>cases y<;>exact Zf K
noncomputable def tru:IV->IH->Res Bool|.non,h=>.ok Zj h|.bl b,h=>.ok b h|.int i,h=>.ok (i != 0) h|.str x,h=>if x.length<=sizeLine then .ok ((x.length:Int) != 0) h else .stuck|.tup xs,h=>.ok (!xs.isEmpty) h|.rol xs,h=>.ok (!xs.isEmpty) h|.ref i,h=>match h[i]? with|some (.lst xs)=>.ok (!xs.isEmpty) h|some (.dct kvs)=>.ok (!kvs.isEmpty) h|_=>.stuck
theorem RVs.empty{K:W.Frag}{ι:Tw}{H:Hp}{xs:Tx}{vs:Ud}(r:RVs K ι H xs vs):vs.isEmpty=xs.isEmpty:=by have:=r.length;cases xs<;>cases vs<;>simp_all
theorem RPs.empty{κ:Type}{K:W.Frag}{ι:Tw}{H:Hp}{xs:List (κ×IV)}{vs:List (κ×V)}(r:RPs K ι H xs vs):vs.isEmpty=xs.isEmpty:=by have:=r.length;cases xs<;>cases vs<;>simp_all
theorem finB(N:Now ce X pj ι σi h σ H s)(K:Kont ce X RB pj ι σi σ H (.ok c h) Q E):∀s',Inv X pj σ H s'->Q c s':=λs' I=>K c s' H ι #[I,N.rel,N.st] .refl rfl
theorem Yw:TrI ce X tru:=by
 intro pj s σ H ι σi h x v Q E N rx K;obtain⟨xv,rx,qx⟩:=rx;cases x with
 |non=>have e1:xv=.non:=qx;subst e1;exact VF (VD (X:=X.wish E)) N.inv rx #[_,rfl,finB N K]
 |bl b=>have e1:xv=.bl b:=qx;subst e1;exact VF (VD (X:=X.wish E)) N.inv rx #[_,rfl,finB N K]
 |int i=>have e1:xv=.int i:=qx;subst e1;exact VF (VD (X:=X.wish E)) N.inv rx #[_,rfl,finB N K]
 |str y=>
  have e1:xv=.str y:=qx;subst e1;dsimp only[tru]at K;split at K
  ·rename_i hz;exact VF (VD (X:=X.wish E)) N.inv rx #[_,#[hz,rfl],finB N K]
  ·exact Zf K
 |tup xs=>obtain⟨a,vs,e1,sa,ra⟩:=qx;subst e1;exact VF (VD (X:=X.wish E)) N.inv rx #[!xs.isEmpty,.inr (.inl #[vs,sa,by rw[ra.empty]]),finB N K]
 |rol xs=>obtain⟨a,vs,e1,sa,ra⟩:=qx;subst e1;exact VF (VD (X:=X.wish E)) N.inv rx #[!xs.isEmpty,.inl #[vs,sa.sq,by rw[ra.empty]],finB N K]
 |ref i=>
  obtain⟨a,e1,ha⟩:=qx;subst e1;dsimp only[tru]at K;cases hi:h[i]? with|none=>rw[hi]at K;exact Zf K|some oi=>rw[hi]at K;cases oi with|lst xs=>obtain⟨vs,e1,r1⟩:=N.at hi ha;exact VF (VD (X:=X.wish E)) N.inv rx #[!xs.isEmpty,.inl #[vs,SqL.of e1,by rw[r1.empty]],finB N K]|dct kvs=>obtain⟨vs,e1,r1⟩:=N.at hi ha;exact VF (VD (X:=X.wish E)) N.inv rx #[!kvs.isEmpty,.inr (.inr #[vs,e1,by rw[r1.empty]]),finB N K]|_=>exact Zf K
def eTup(a:A1):E1:=λσ h=>(a σ h).bind λxs h1=>if xs.length<=sizeLine then .ok (.tup xs) h1 else .stuck
def eLst(a:A1):E1:=λσ h=>(a σ h).bind λxs h1=>if xs.length<=sizeLine then .ok (.ref h1.length) (h1++[.lst xs])else .stuck
variable{es:Td}{mr:A1}{pos:Pos}
theorem J4b{x1}(hr:PAi ce X es mr):PEi ce X (.Tuple es x1 pos) (eTup mr):=λpj s σ H ι σi h Q E N K=>by
 refine wpAny_Tuple_spliced<|(hr pos).run N K λxs h1 us s1 H1 ι1 N1 n1 r1 K1=>?_
 change Kont ce X RU pj ι1 σi σ H1 (if xs.length<=sizeLine then _ else _) Q E at K1;split at K1
 ·rename_i hz;obtain⟨vs,rv,qs⟩:=r1;have hl:=rv.length;have hl2:=qs.length;have hf:H1 s1.heap.objs.size=Zd:=N1.inv.hok.fresh<|Zm _;refine#[by rw[<-hl,hl2];exact hz,?_];exact finT N1 K1 s1.heap.objs.size hf qs _ _ (N1.inv.laid (t':=s1.toks) (λb u e=>Ze _ e) (Zm _) #[by rw[hl2];exact hz,us,rv,#[_,Zv _ rfl,rfl,_,rfl]]) rfl
 ·exact Zf K1
theorem J4a(hr:PAi ce X es mr):PEi ce X (.List es pos) (eLst mr):=λpj s σ H ι σi h Q E N K=>by
 refine wpAny_List_spliced<|(hr pos).run N K λxs h1 us s1 H1 ι1 N1 n1 r1 K1=>?_
 change Kont ce X RU pj ι1 σi σ H1 (if xs.length<=sizeLine then _ else _) Q E at K1;split at K1
 ·rename_i hz;obtain⟨vs,rv,qs⟩:=r1;have hl:=rv.length;have hl2:=qs.length;have hf:H1 s1.heap.objs.size=Zd:=N1.inv.hok.fresh<|Zm _;refine#[by rw[<-hl,hl2];exact hz,?_];exact finA N1 K1 s1.heap.objs.size hf #[_,Jz,RVs.new hf qs] _ _ (N1.inv.laid (t':=s1.toks) (λb u e=>Ze _ e) (Zm _) #[by rw[hl2];exact hz,us,0,rv,Zv _ rfl]) rfl
 ·exact Zf K1
end
section
variable{prog:ZD}{w:ZV}{A:ZH}{E:QvT}{s:Zk}
theorem Ji9(hne:t≠it):∀(n i:Nat)(s:Zk)(Q:Tv->Zk->Prop),s.heap.IsListIter it t i->s.heap.IsList t items->i+n<=items.size ->(∀h',h'.IsListIter it t (i+n)->ZbB it s.heap h'->Q ((items.toList.drop i).take n) {s with heap:=h'})->Zt (Zz prog w) A (draw (.ref it) n) Q E s
 |0,i,s,Q,hit,_,_,hQ=>by show Zt _ _ (pure []) Q E s;exact Zn<|by simpa using hQ s.heap hit<|Heap.SameBut.refl ..
 |n+1,i,s,Q,hit,ht,hle,hQ=>by
  have hlt:i<items.size:=05;show Zt _ _ (ZbP (.ref it)>>=_) Q E s;refine Zc (ZeU hit ht (x:=items[i]) (by simp[hlt]) λh₁ hit₁ hs₁=>?_);refine Zc<|ZT<|Ji9 hne n (i+1) _ _ hit₁ (ht.extBut hs₁.extBut hne) 05 λh₂ hit₂ hs₂=>Zn ?_
  have hd:items.toList.drop i=items[i]::items.toList.drop (i+1):=by simp[Zb4,hlt]
  have:=hQ h₂ (by rw[show i+(n+1)=i+1+n by lia];exact hit₂)<|hs₁.trans hs₂;rw[hd,List.take_succ_cons]at this;exact this
theorem Jez{Q:Tv->Zk->Prop}(hh:A.handled=Zd)(ht:s.heap.IsList t items)
  (hQ:∀h',Zdv s.heap.objs.size s.heap h'->Q items.toList {s with heap:=h'}):Zt (Zz prog w) A (unpackItems (.ref t) items.size Zd) Q E s:=by
 have hlt:t≠s.heap.objs.size:=by obtain⟨o,ho,_⟩:=ht;exact Z5<|Z0 ho
 unfold unpackItems;refine Zc ?_
 ·unfold notIterableAtAll;refine Zc<|wpAny_specialOf ht.typeIs slot_list_iter.lookup ?_;refine Zn ?_;simp only[Zad,if_false];refine Zc<|ZT<|Zbk ht ?_;refine Zc<|ZT<|Ji9 hlt items.size 0 _ _ #[_,Zv _ rfl,rfl,rfl] (ht.push _) 05 λh₁ hit₁ hs₁=>?_
  have hall:List.take items.size (List.drop 0 items.toList)=items.toList:=by rw[List.drop_zero];exact Zb0 03
  rw[hall];rw[if_neg 03];have ht₁:h₁.IsList t items:=(ht.push _).extBut hs₁.extBut hlt;refine Zc<|ZT<|Zfp hh hit₁ ht₁ 03 λh₂ he₂=>?_
  simp only[Option.isSome_none,Zad,if_false];refine Zn<|hQ h₂ λb o hb e=>he₂ b o hb<|hs₁.extBut b o hb<|Ze _ e
theorem Jd7{env:Env}{elts:Td}{x1}{pos:Pos}{t:Zo}{items:Tj}{Q:Unit->Zk->Prop}(hh:A.handled=Zd)(ht:s.heap.IsList t items)
  (hn:(Zbf elts env).length=items.size)(hstar:(Zbf elts env).findIdx? (·.1)=Zd)
  (h:∀h',Zdv s.heap.objs.size s.heap h'->Zt (Zz prog w) A (ZfN ((Zbf elts env).map (·.2)) items.toList) Q E {s with heap:=h'}):
  Zt (Zz prog w) A (Ze4 (.Tuple elts x1 pos) env<|.ref t) Q E s:=by
 rw[assign_Tuple];refine Zc<|ZbT ?_;unfold unpack;rw[hn,hstar];exact Zc<|ZT<|Jez hh ht h
end
abbrev S1:=ISt->IH->SRes
structure Noted(L:Zo)(fs:Tw)(e:Zo)(h h3:Zaw):Prop where
 ex:∃oe vs T ts,h.get? e=Za oe/\oe.data=.fields vs/\1<vs.size/\h3.get? e=Za (Zau (·.setIfInBounds 1 (.ref T)) oe)/\T≠e/\h.get? T=Zd/\h3.get? T=Za {cls:=.type "traceback",dict:=Zd,data:=.fields ts}/\ts[3]?=Za (ZaB L)
 slot:∀b o,h.get? b=Za o->b≠e->∃sl,h3.get? b=Za {o with slots:=sl}
 keep:∀b o,h.get? b=Za o->b≠e->b∉fs->h3.get? b=Za o
def Fly(L:Zo)(fs:Tw)(e:Zo)(s s1:Zk):Prop:=s1=s∨∃h',s1={s with heap:=h'}/\Noted L fs e s.heap h'
def J8(ce:CeT)(X:Cx)(pj:PnT)(ι:Tw)(H:Hp)(r:SRes)(Q:Flow->Zk->Prop)(E:QvT):Prop:=match r with|.next σi' h'=>∀s' σ' H' ι',Now ce X pj ι' σi' h' σ' H' s'->Nxt ι H ι' H'->Q .next s'|.brk σi' h'=>∀s' σ' H' ι',Now ce X pj ι' σi' h' σ' H' s'->Nxt ι H ι' H'->Q .brk s'|.cont σi' h'=>∀s' σ' H' ι',Now ce X pj ι' σi' h' σ' H' s'->Nxt ι H ι' H'->Q .cont s'|.ret v h'=>∀u s' σi' σ' H' ι',Now ce X pj ι' σi' h' σ' H' s'->Nxt ι H ι' H'->RU X.K ι' H' v u->Q (.ret u) s'|.exc n σi' h'=>∀pl a s' σ' H' ι',Now ce X (pj++pl) ι' σi' h' σ' H' s'->Nxt ι H ι' H'->ι'[n]?=Za a->∀s1,Fly X.env.locals (frs X.stack) a s' s1->E (.ref a) s1|.stuck=>False
theorem J8.mono(k:J8 ce X pj ι H r Q E)(n:Nxt ι H ι' H'):J8 ce X pj ι' H' r Q E:=by cases r with|next σ h=>exact λs' σ' H2 ι2 N n2=>k s' σ' H2 ι2 N<|n.trans n2|brk σ h=>exact λs' σ' H2 ι2 N n2=>k s' σ' H2 ι2 N<|n.trans n2|cont σ h=>exact λs' σ' H2 ι2 N n2=>k s' σ' H2 ι2 N<|n.trans n2|ret v h=>exact λu s' σi' σ' H2 ι2 N n2=>k u s' σi' σ' H2 ι2 N<|n.trans n2|exc m σ h=>exact λpl a s' σ' H2 ι2 N n2=>k pl a s' σ' H2 ι2 N<|n.trans n2|stuck=>exact k
def PSi(ce:CeT)(X:Cx)(t:Sem Flow)(m:S1):Prop:=∀(pj:PnT)(s:Zk)(σ:L2.St)(H:Hp)(ι:Tw)(σi:ISt)(h:IH)(Q:Flow->Zk->Prop)(E:QvT),Now ce X pj ι σi h σ H s->J8 ce X pj ι H (m σi h) Q E->Zt (Zz X.prog X.w) X.A t Q E s
abbrev PS1(ce:CeT)(X:Cx)(st:ZcZ)(m:S1):Prop:=PSi ce X (exec st X.env) m
abbrev PS2(ce:CeT)(X:Cx)(sts:Tn)(m:S1):Prop:=PSi ce X (execs sts X.env) m
noncomputable def Jq:S1:=λσ h=>.next σ h
def Jf(a b:S1):S1:=λσ h=>match a σ h with|.next σ' h'=>b σ' h'|r=>r
noncomputable def J2h:S1:=λσ h=>.next σ h
def Jv6:S1:=λσ h=>.brk σ h
def J2g:S1:=λσ h=>.cont σ h
noncomputable def rS {α:Type}(σ:ISt)(r:Res α)(k:α->IH->SRes):SRes:=match r with|.ok a h=>k a h|.exc n h=>.exc n σ h|.stuck=>.stuck
def JC(e:E1):S1:=λσ h=>rS σ (e σ h) λ_ h'=>.next σ h'
def Jm(e:E1):S1:=λσ h=>rS σ (e σ h) λv h'=>.ret v h'
noncomputable def J2i:S1:=λ_ h=>.ret .non h
def sIf(t:T1)(a b:S1):S1:=λσ h=>rS σ (t σ h) λc h'=>if c then a σ h' else b σ h'
def Jk(i:Nat)(e:E1):S1:=λσ h=>rS σ (e σ h) λv h'=>.next (σ.set i<|Za v) h'
section
variable{ce:CeT}{X:Cx}{st:ZcZ}{rest:Tn}{m m1 m2:S1}{e:Expr}{me:E1}{pos:Pos}
theorem krun{α β:Type}{R:REL α β}{t:Sem β}{mm:ISt->IH->Res α}(p:PX ce X R t mm){pj:PnT}{s:Zk}{σ:L2.St}{H:Hp}{ι:Tw}{σi:ISt}{h:IH}(N:Now ce X pj ι σi h σ H s){g:α->IH->SRes}{Q:Flow->Zk->Prop}{E:QvT}{Q1:β->Zk->Prop} (K:J8 ce X pj ι H (rS σi (mm σi h) g) Q E) (step:∀x h1 u s1 H1 ι1,Now ce X pj ι1 σi h1 σ H1 s1->Nxt ι H ι1 H1->R X.K ι1 H1 x u->J8 ce X pj ι1 H1 (g x h1) Q E->Q1 u s1):Zt (Zz X.prog X.w) X.A t Q1 E s:=by refine p pj s σ H ι σi h Q1 E N ?_;cases e:mm σi h with|ok v h'=>rw[e]at K;exact λu s' H' ι' N' n' r=>step v h' u s' H' ι' N' n' r<|J8.mono (r:=g v h') K n'|exc n h'=>rw[e]at K;exact λpl a s' H' ι' N' n' q=>K pl a s' σ H' ι' N' n' q s'<|.inl rfl|stuck=>rw[e]at K;exact K
theorem J2e:PS2 ce X [] Jq:=λ_ s σ H ι _ _ _ _ N K=>Zdk<|K s σ H ι N .refl
theorem Jyl(h1:PS1 ce X st m1)(h2:PS2 ce X rest m2):PS2 ce X (st::rest) (Jf m1 m2):=by intro pj s σ H ι σi h Q E N K;refine wpAny_execs_cons<|h1 pj s σ H ι σi h _ E N ?_;unfold Jf at K;cases e:m1 σi h with|next σ' h'=>rw[e]at K;exact λs' σ2 H' ι' N' n'=>h2 pj s' σ2 H' ι' σ' h' Q E N'<|J8.mono (r:=m2 σ' h') K n'|brk σ' h'=>rw[e]at K;exact K|cont σ' h'=>rw[e]at K;exact K|ret v h'=>rw[e]at K;exact K|exc n σ' h'=>rw[e]at K;exact K|stuck=>rw[e]at K;exact K
theorem J2f(h1:PS1 ce X st m1):PS2 ce X [st] m1:=by intro pj s σ H ι σi h Q E N K;refine wpAny_execs_cons<|h1 pj s σ H ι σi h _ E N ?_;cases e:m1 σi h with|next σ' h'=>rw[e]at K;exact λs' σ2 H' ι' N' n'=>Zdk<|K s' σ2 H' ι' N' n'|brk σ' h'=>rw[e]at K;exact K|cont σ' h'=>rw[e]at K;exact K|ret v h'=>rw[e]at K;exact K|exc n σ' h'=>rw[e]at K;exact K|stuck=>rw[e]at K;exact K
theorem J2n:PS1 ce X (.Pass pos) J2h:=λ_ s σ H ι _ _ _ _ N K=>wpAny_Pass<|K s σ H ι N .refl
theorem Jyn:PS1 ce X (.Break pos) Jv6:=λ_ s σ H ι _ _ _ _ N K=>wpAny_Break<|K s σ H ι N .refl
theorem J2l:PS1 ce X (.Continue pos) J2g:=λ_ s σ H ι _ _ _ _ N K=>wpAny_Continue<|K s σ H ι N .refl
theorem J2m(he:PEi ce X e me)(hs:Zeh e Zd pos.line X.env=pure Zj:=by rfl):PS1 ce X (.Expr e pos) (JC me):=λpj s σ H ι σi h Q E N K=>
 wpAny_Expr_any (krun he N K λx h1 u s1 H1 ι1 N1 n1 r1 K1=>K1 s1 σ H1 ι1 N1 .refl) N.inv.quiet hs
theorem J46(he:PEi ce X e me):PS1 ce X (.Return (Za e) pos) (Jm me):=λpj s σ H ι σi h Q E N K=>
 wpAny_Return_some (krun he N K λx h1 u s1 H1 ι1 N1 n1 r1 K1=>K1 u s1 σi σ H1 ι1 N1 .refl r1)
theorem J2o:PS1 ce X (.Return Zd pos) J2i:=λpj s σ H ι σi h Q E N K=>wpAny_Return_none<|K .none s σi σ H ι N .refl #[.non,rfl,rfl]
theorem s_if{c:Expr}{a b:Tn}{mt:T1}(hc:PTi ce X c mt)(ha:PS2 ce X a m1)(hb:PS2 ce X b m2):PS1 ce X (.If c a b pos) (sIf mt m1 m2):=λpj s σ H ι σi h Q E N K=>
 wpAny_If (krun hc N K λx h1 u s1 H1 ι1 N1 n1 r1 K1=>by have r':u=x:=r1;subst r';cases u with|true=>exact ha pj s1 σ H1 ι1 σi h1 Q E N1 K1|false=>exact hb pj s1 σ H1 ι1 σi h1 Q E N1 K1)
theorem Jyp{i:Nat}{x:Str}{pos':Pos}(hN:X.N.Nodup)(he:PEi ce X e me)(hi:X.N[i]?=Za x:=by rfl)(hx:Loc X.env.scope x:=by assumption)(hs:Zeh e (Za<|.Name x pos') pos.line X.env=pure Zj:=by rfl) (hf:X.fn x=Zh∨X.env.scope.names.lookup x=Za .local:=by assumption):PS1 ce X (.Assign [.Name x pos'] e pos) (Jk i me):=λpj s σ H ι σi h Q E N K=>
 wpAny_Assign_Name (krun he N K λv h1 u s1 H1 ι1 N1 n1 r1 K1=>by obtain⟨w,rw',q⟩:=r1;exact Yu N1.inv hN hi hx rw' (λs2 I2=>K1 s2 _ H1 ι1 #[I2,N1.rel,N1.st.set i q] .refl) hf) hs
abbrev G1:=IV->ISt->IH->SRes
def PGi(ce:CeT)(X:Cx)(tg:Expr)(g:G1):Prop:=∀(pj:PnT)(s:Zk)(σ:L2.St)(H:Hp)(ι:Tw)(σi:ISt)(h:IH)(v:IV)(u:Zg)(Q:Flow->Zk->Prop)(E:QvT),Now ce X pj ι σi h σ H s->RU X.K ι H v u->J8 ce X pj ι H (g v σi h) Q E ->Zt (Zz X.prog X.w) X.A (Ze4 tg X.env u) (λ_ s'=>Q .next s') E s
noncomputable def gNm (i:Nat):G1:=λv σ h=>.next (σ.set i<|Za v) h
theorem g_nm(hN:X.N.Nodup)(hi:X.N[i]?=Za x:=by rfl)(hx:Loc X.env.scope x:=by assumption)(hf:X.fn x=Zh∨X.env.scope.names.lookup x=Za .local:=by assumption):PGi ce X (.Name x pos) (gNm i):=by intro pj s σ H ι σi h v u Q E N r K;obtain⟨w,rw',q⟩:=r;exact wpAny_assign_Name<|Yu N.inv hN hi hx rw' (λs2 I2=>K s2 _ H ι #[I2,N.rel,N.st.set i q] .refl) hf
def PGsi(ce:CeT)(X:Cx)(ts:Td)(g:Tx->ISt->IH->SRes):Prop:=∀(pj:PnT)(s:Zk)(σ:L2.St)(H:Hp)(ι:Tw)(σi:ISt)(h:IH)(vs:Tx)(us:Tv)(Q:Flow->Zk->Prop)(E:QvT),Now ce X pj ι σi h σ H s->RUs X.K ι H vs us->J8 ce X pj ι H (g vs σi h) Q E ->Zt (Zz X.prog X.w) X.A (ZfN ((Zbf ts X.env).map (·.2)) us) (λ_ s'=>Q .next s') E s
noncomputable def gN:Tx->ISt->IH->SRes|[],σ,h=>.next σ h|_::_,_,_=>.stuck
def gC(g:G1)(r:Tx->ISt->IH->SRes):Tx->ISt->IH->SRes
 |v::vs,σ,h=>match g v σ h with
  |.next σ' h'=>r vs σ' h'
  |.exc n σ' h'=>.exc n σ' h'
  |_=>.stuck
 |[],_,_=>.stuck
theorem J0l:PGsi ce X [] gN:=by intro pj s σ H ι σi h vs us Q E N r K;cases vs with|nil=>obtain⟨xs,rv,q⟩:=r;have e1:xs=[]:=q;subst e1;cases rv;exact assignInOrder_nil<|K s σ H ι N .refl|cons v vs=>exact Zf K
theorem Jxi{tg:Expr}{ts:Td}{g:G1}{r:Tx->ISt->IH->SRes}(h1:PGi ce X tg g)(h2:PGsi ce X ts r) (hs:(Zbf (tg::ts) X.env).map (·.2)=Ze4 tg X.env::(Zbf ts X.env).map (·.2):=by rfl):PGsi ce X (tg::ts) (gC g r):=by
 intro pj s σ H ι σi h vs us Q E N ru K;cases vs with|nil=>exact Zf K|cons v vs=>
  obtain⟨xs,rv,x,xr,e1,q,qs⟩:=ru;subst e1;cases rv with|cons r1 r2=>rw[hs];refine assignInOrder_cons (h1 pj s σ H ι σi h v _ (λf s'=>Zt (Zz X.prog X.w) X.A (ZfN ((Zbf ts X.env).map (·.2)) _) (λ_ s'=>Q .next s') E s') E N #[x,r1,q] ?_);have K':J8 ce X pj ι H (match g v σi h with|.next σ' h'=>r vs σ' h'|.exc n σ' h'=>.exc n σ' h'|_=>.stuck) Q E:=K;cases e:g v σi h with|next σ' h'=>rw[e]at K';exact λs' σ2 H' ι' N' n'=>h2 pj s' σ2 H' ι' σ' h' vs _ Q E N' #[xr,r2,RVs.mono n' _ _ qs]<|J8.mono (r:=r vs σ' h') K' n'|exc n σ' h'=>rw[e]at K';exact K'|_=>rw[e]at K';exact(show False from K').elim
noncomputable def gTp (n:Nat)(g:Tx->ISt->IH->SRes):G1:=λv σ h=>match v with|.tup xs=>if xs.length=n then g xs σ h else .stuck|.ref i=>(match h[i]? with|some (.lst xs)=>if xs.length=n then g xs σ h else .stuck|_=>.stuck)|_=>.stuck
theorem J30{es:Td}{k n:Nat}{g:Tx->ISt->IH->SRes}(hc:X.calm=Zh)(hg:PGsi ce X es g)(hn:(Zbf es X.env).length=n:=by rfl)(hst:(Zbf es X.env).findIdx? (·.1)=Zd:=by rfl):PGi ce X (.Tuple es k pos) (gTp n g):=by
 intro pj s σ H ι σi h v u Q E N r K;obtain⟨w,rw',q⟩:=r;cases v with
 |tup xs=>
  obtain⟨a,vs,e1,sa,ra⟩:=q;subst e1;cases rw';unfold gTp at K;dsimp only at K;split at K
  ·rename_i hl;obtain⟨its,rv,ht,hz⟩:=N.inv.tuple sa;have l1:=ra.length;have l2:=rv.length;refine assign_Tuple_tuple (N.inv.ok.hd hc) ht (by simp only[Zx];lia) hst λh' hx=>?_
   have I1:Inv X pj σ H {s with heap:=h'}:=N.inv.kept (t':=s.toks) λb o e=>hx b o (Z5<|Z0 e) e
   exact hg pj _ σ H ι σi h xs _ Q E #[I1,N.rel,N.st] #[vs,by simpa using rv,ra] K
  ·exact Zf K
 |ref i=>
  obtain⟨a,e1,ha⟩:=q;subst e1;cases rw';unfold gTp at K;dsimp only at K;cases hi:h[i]? with|none=>rw[hi]at K;exact Zf K|some ob=>
   rw[hi]at K;cases ob with
   |lst xs=>
    dsimp only at K;split at K
    ·rename_i hl;obtain⟨vs,g1,ra⟩:=N.at hi ha;obtain⟨its,rv,ht,hz⟩:=N.inv.list<|SqL.of g1;have l1:=ra.length;have l2:=rv.length;refine Jd7 (N.inv.ok.hd hc) ht.isList (by simp only[Zx];lia) hst λh' hx=>?_
     have I1:Inv X pj σ H {s with heap:=h'}:=N.inv.kept (t':=s.toks) λb o e=>hx b o (Z5<|Z0 e) e
     exact hg pj _ σ H ι σi h xs _ Q E #[I1,N.rel,N.st] #[vs,by simpa using rv,ra] K
    ·exact Zf K
   |_=>exact Zf K
 |_=>exact Zf K
def sAsg(e:E1)(g:G1):S1:=λσ h=>rS σ (e σ h) λv h'=>g v σ h'
theorem J42{tg:Expr}{g:G1}(he:PEi ce X e me)(hg:PGi ce X tg g)(hs:swapsWithSole [tg] e pos.line X.env=pure Zj:=by rfl)(hw:swappedStores [tg] e X.env=pure Zd:=by rfl) (h1:(Zbf [tg] X.env).map (·.2)=[Ze4 tg X.env]:=by rfl):PS1 ce X (.Assign [tg] e pos) (sAsg me g):=λpj s σ H ι σi h Q E N K=>
 wpAny_Assign_stores (krun he N K λv h2 u s1 H1 ι1 N1 n1 r1 K1=>by rw[h1];exact hg pj s1 σ H1 ι1 σi h2 v u Q E N1 r1 K1) hs hw
end
theorem ExF.ok{h:Zaw}(e:h.get? a=Za oe)(c:oe.cls=.ref C)(d:oe.data=.fields vs)(v:vs[1]?=Za tv)(v2:vs[2]?=Za .none)(v3:oe.dict=dd):JG P w H h a (ExF a C tv dd):=#[#[oe,vs,e,c,d,v,v2,v3],#[oe,e],λ_ _ ⟨o,us,e1,r⟩ k=>#[o,us,k _ e1,r]]
theorem ExF.get(x:HOk P w H h)(e:H a=Za (ExF a C tv d)):∃oe vs,h.get? a=Za oe/\oe.cls=.ref C/\oe.data=.fields vs/\vs[1]?=Za tv/\vs[2]?=Za .none/\oe.dict=d:=(x a _ e).1
theorem Jpj(o:Obj)(f:Tj->Tj):(o.mapFields f).dict=o.dict:=by unfold Zau;split<;>rfl
theorem Js4(x:HOk P w H h)(e1:H a=Za (ExF a C tv d))(e2:H a=Za (ExF a C' tv' d')):d=d':=by obtain⟨o,_,g,_,_,_,_,q⟩:=ExF.get x e1;obtain⟨o',_,g',_,_,_,_,q'⟩:=ExF.get x e2;cases g.symm.trans g';exact q.symm.trans q'
theorem Jv3:∀{o:HO},JG P w H h a o->∃u,h.get? a=Za u:=λ{o} q=>by cases o with|lst _=>obtain⟨_,_,_,_,e⟩:=q;exact#[_,e]|tup _=>obtain⟨_,_,_,⟨_,e,_⟩⟩:=q;exact#[_,e]|dK _=>obtain⟨_,_,_,_,o,_,_,e,_⟩:=q;exact#[o,e]|dT _=>obtain⟨_,_,_,_,o,_,_,e,_⟩:=q;exact#[o,e]|set _ _=>obtain⟨o,_,_,_,e,_⟩:=q;exact#[o,e]|ins _ _ _=>obtain⟨_,_,_,e,_⟩:=q;exact#[_,e]|own _=>obtain⟨_,e⟩:=q;exact#[_,e]|xd _=>obtain⟨_,⟨_,_,_,e,_⟩,_⟩:=q;exact#[_,e]|rng _ _=>obtain⟨_,_,_,e⟩:=q;exact#[_,e]|frz _ _=>obtain⟨e,_⟩:=q;exact#[_,e]|tbl _=>exact#[_,(show h.get? a=Za _ from q)]|met _ _=>exact#[_,(show h.get? a=Za _ from q)]|ext _=>obtain⟨_,⟨_,e⟩,_⟩:=q;exact#[_,e]
theorem Jlg{h:Zaw}{T:Zo}{oT:Obj}{ts:Tj}{v:Zg}(e:h.get? T=Za oT)(d:oT.data=.fields ts)(q:ts[3]?=Za v):(h.update T (Zau (·.setIfInBounds 3 v))).get? T=Za oT:=by
 have es:ts.setIfInBounds 3 v=ts:=by
  refine Array.ext 03 λi h1 h2=>?_
  rw[Array.getElem_setIfInBounds];split
  ·rename_i z;subst z;rw[Zbd h2]at q;exact(Zam q).symm
  ·rfl
 have eo:Zau (·.setIfInBounds 3 v) oT=oT:=by obtain⟨c,dd,dt,sl⟩:=oT;have d:dt=.fields ts:=d;subst d;simp only[Zau,es]
 rw[Zat _ e (by rw[eo];exact Zbo d),eo]
section
variable{X:Cx}{pj:PnT}{σ:L2.St}{H:Hp}{s:Zk}{M:Model}{E:QvT}{Q:Unit->Zk->Prop}{a C:Zo}{tv:Zg}{d:Tc}{h3:Zaw}{s1:Zk}
structure Past(X:Cx)(H:Hp)(h:Zaw)(a C:Zo)(d:Tc)(T:Zo)(oT:Obj)(h':Zaw):Prop where
 new:H T=Zd
 ne:T≠a
 fld:∃ts,oT.data=.fields ts/\ts[3]?=Za .none
 un:Un (frs X.stack) [] H (upd (upd H T<|.frz oT<|.own 0) a<|ExF a C (.ref T) d) h h'
 hok:HOk X.prog X.w (upd (upd H T<|.frz oT<|.own 0) a<|ExF a C (.ref T) d) h'
theorem Jib(I:Inv X pj σ H s)(hs:X.stack=X.env::X.outer)(hf:X.env.frame=Za X.env.locals)(ha:H a=Za (ExF a C tv d))(ht:TvOk H tv)
  (k:∀h3,Noted X.env.locals (frs X.stack) a s.heap h3->Q () {s with heap:=h3}):Zt M X.A (ZeK (.ref a) X.env) Q E s:=by
 obtain⟨oe,vs,e1,e2,e3,e4,e5,e6⟩:=ExF.get I.hok ha;have hfa:a∉frs X.stack:=λz=>by rw[I.stkFree a z]at ha;cases ha
 have fr:=I.ok.frames;have ff:s.heap.FunFrames X.base X.stack:=I.stack;have len1:1<vs.size:=(ZaS.mp e4).1;have go:∀(h:Zaw){head:Zg}{hn:Bool},(∀b,h.get? b=s.heap.get? b)->Zt M X.A (do let f<-frameOf X.env;let pl<-entryPlaceOf X.env.locals hn;let b<-EntryCells.newEntry head f .none (ZaB X.env.locals) .none pl;Zgb (.ref a) 1 b) Q E {s with heap:=h}:=by
  intro h head hn hh;have ffh:h.FunFrames X.base X.stack:=ff.of_keeps λb o q _=>#[o,(hh b).trans q,rfl]
  rw[hs]at fr ffh;refine Zc (wpAny_frameOf_fun (s:={s with heap:=h}) fr ffh hf λh1 so=>?_);have he1:h1.get? a=Za oe:=(so.2.1 a<|by rw[hs]at hfa;exact hfa).trans<|(hh a).trans e1;refine Zc<|wpAny_entryPlaceOf λpl hpl=>?_
  unfold EntryCells.newEntry newFields;refine Zc<|Zcf ?_<|hpl.sizeOk5 _ _ _ _ _;have t3:([head,Zeg X.env.locals,Zac,ZaB X.env.locals,Zac]++(if pl.isEmpty then Zab 6 Zac else pl)).toArray[3]?=Za (ZaB X.env.locals):=03;generalize ([head,Zeg X.env.locals,Zac,ZaB X.env.locals,Zac]++(if pl.isEmpty then Zab 6 Zac else pl)).toArray=ts at t3 ⊢;have lt2:∀b o,h1.get? b=Za o->b≠h1.objs.size:=λb o q=>Z5<|Z0 q
  have nT:h1.objs.size≠a:=ZP<|lt2 a _ he1;have up2:∀b o,h1.get? b=Za o->(h1.push {cls:=.type "traceback",dict:=Zd,data:=.fields ts}).get? b=Za o:=λb o q=>Ze _ q
  have gT2:(h1.push {cls:=.type "traceback",dict:=Zd,data:=.fields ts}).get? h1.objs.size=Za {cls:=.type "traceback",dict:=Zd,data:=.fields ts}:=Zv h1 rfl;refine Zbp (up2 _ _ he1) e3 len1<|k _ #[#[oe,vs,h1.objs.size,ts,e1,e3,len1,Zat _ (up2 _ _ he1)<|Zbo<|Zag e3 _,nT,?_,(Z1 _ _<|ZP nT).trans gT2,t3],λb o q n=>?_,λb o q n m=>?_]
  ·cases q:s.heap.get? h1.objs.size with|none=>rfl|some o=>obtain⟨sl,z⟩:=so.2.2 _ _<|(hh _).trans q;exact absurd rfl (lt2 _ _ z)
  ·obtain⟨sl,z⟩:=so.2.2 _ _<|(hh b).trans q;exact#[sl,(Z1 _ _<|ZP n).trans<|up2 _ _ z]
  ·exact(Z1 _ _<|ZP n).trans (up2 _ _<|(so.2.1 b<|by rw[hs]at m;exact m).trans<|(hh b).trans q)
 unfold ZeK;rw[hf];refine Zc<|ZcK e1 e3 e4 ?_;rcases ht with rfl|⟨T,oT,ts,rfl,q1,q2,q3⟩
 ·rw[if_neg 01];exact go s.heap λ_=>rfl
 ·have gT:s.heap.get? T=Za oT:=(I.hok T _ q1).1;rw[if_pos 03];refine Zc<|ZcK gT q2 q3 ?_;rw[if_neg<|by simp[ZaB]];refine Zc<|Zbp gT q2 (ZaS.mp q3).1 ?_;refine go _ λb=>?_
  by_cases z:b=T
  ·subst z;exact(Jlg gT q2 q3).trans gT.symm
  ·exact Z1 _ _<|ZP z
theorem Jc1{env:Env}(hf:env.frame=Za env.locals)(n:Noted env.locals fs a h h3)(q:Q () {s with heap:=h3}):Zt M A (ZeK (.ref a) env) Q E {s with heap:=h3}:=by obtain⟨⟨oe,vs,T,ts,g1,g2,g3,g4,g5,g6,g7,g8⟩,_,_⟩:=n;unfold ZeK;rw[hf];refine Zc (ZcK (x:=.ref T) g4 (Zag g2 _) (by simp[g3]) ?_);rw[if_pos 03];refine Zc<|ZcK g7 rfl g8 ?_;rw[if_pos 03];exact Zn q
theorem Jg2{env:Env}(hf:env.frame=Za env.locals)(n:Noted env.locals fs a h h3)(k:∀h4,Noted env.locals fs a h h4->E (.ref a) {s with heap:=h4}):ZfQ M A env E (.ref a) {s with heap:=h3}:=by
 obtain⟨⟨oe,vs,T,ts,g1,g2,g3,g4,g5,g6,g7,g8⟩,sl,kp⟩:=n;unfold ZfQ;refine Zc (ZcK (x:=.ref T) g4 (Zag g2 _) (by simp[g3]) ?_);rw[if_neg 03];rw[hf];unfold ZeL;refine Zc (ZcK (x:=.ref T) g4 (Zag g2 _) (by simp[g3]) ?_);rw[if_pos 03];refine Zbp g7 rfl (ZaS.mp g8).1 ?_;have up:∀b o,h3.get? b=Za o->(h3.update T (Zau (·.setIfInBounds 3 (ZaB env.locals)))).get? b=Za o:=λb o q=>by
  by_cases z:b=T
  ·subst z;rw[g7]at q;cases q;exact Jlg g7 rfl g8
  ·exact(Z1 _ _<|ZP z).trans q
 exact k _ #[#[oe,vs,T,ts,g1,g2,g3,up _ _ g4,g5,g6,up _ _ g7,g8],λb o q n=>let ⟨s',z⟩:=sl b o q n;#[s',up _ _ z],λb o q n m=>up _ _<|kp b o q n m]
theorem Jg3(I:Inv X pj σ H s)(ha:H a=Za (ExF a C tv d))(n:Noted L (frs X.stack) a s.heap h3)(k:∀T oT h',Past X H s.heap a C d T oT h'->Q () {s with heap:=h'}):Zt M X.A (ZeL (.ref a) Zd) Q E {s with heap:=h3}:=by
 obtain⟨⟨oe,vs,T,ts,g1,g2,g3,g4,g5,nT,g7,g8⟩,sl,kp⟩:=n;obtain⟨oe',vs',x1,x2,x3,x4,x5,x6⟩:=ExF.get I.hok ha;rw[g1]at x1;cases x1;rw[g2]at x3;cases x3;have hok:=I.hok;have hfr:∀b∈frs X.stack,H b=Zd:=I.stkFree;have hT:H T=Zd:=by cases q:H T with|none=>rfl|some u=>obtain⟨o,z⟩:=Jv3<|hok T u q;rw[nT]at z;cases z
 have tz:3<ts.size:=(ZaS.mp g8).1;unfold ZeL;refine Zc (ZcK (x:=.ref T) g4 (Zag g2 _) (by simp[g3]) ?_);rw[if_pos 03];refine Zbp g7 rfl tz ?_;have e1:=(Z1 h3 (Zau (·.setIfInBounds 3 ((Zd:Tc).elim Zac λf=>ZaB f))) g5).trans g4;have e7:=Zat (Zau (·.setIfInBounds 3 ((Zd:Tc).elim Zac λf=>ZaB f))) g7<|Zbo<|Zag rfl _;have d7:=Zag (o:={cls:=.type "traceback",dict:=Zd,data:=.fields ts}) rfl (·.setIfInBounds 3 ((Zd:Tc).elim Zac λf=>ZaB f));have lt:∀b o,s.heap.get? b=Za o->T≠b:=λb o q z=>by rw[z,q]at nT;cases nT
 have keep:∀b o,s.heap.get? b=Za o->b≠a->b∉frs X.stack->(h3.update T (Zau (·.setIfInBounds 3 ((Zd:Tc).elim Zac λf=>ZaB f)))).get? b=Za o:=λb o q n1 n2=>(Z1 _ _<|lt b o q).trans<|kp b o q n1 n2
 have slot:∀b o,s.heap.get? b=Za o->b≠a->∃sl,(h3.update T (Zau (·.setIfInBounds 3 ((Zd:Tc).elim Zac λf=>ZaB f)))).get? b=Za {o with slots:=sl}:=λb o q n1=>let ⟨s',z⟩:=sl b o q n1;#[s',(Z1 _ _<|lt b o q).trans z]
 generalize h3.update T (Zau (·.setIfInBounds 3 ((Zd:Tc).elim Zac λf=>ZaB f)))=h' at e1 e7 keep slot;generalize Zau (·.setIfInBounds 3 ((Zd:Tc).elim Zac λf=>ZaB f)) {cls:=.type "traceback",dict:=Zd,data:=.fields ts}=oT at e7 d7;have na:∀{b:Zo}{u:HO},H b=Za u->(∀φ,u≠.ext φ)->b≠a:=λ{b u} q n z=>by subst z;rw[ha]at q;cases q;exact n _ rfl
 have nTb:∀{b:Zo}{u:HO},H b=Za u->b≠T:=λ{b u} q z=>by subst z;rw[hT]at q;cases q
 have up:∀{b:Zo}{u:HO},H b=Za u->(∀φ,u≠.ext φ)->upd (upd H T<|.frz oT<|.own 0) a (ExF a C (.ref T) d) b=Za u:=λ{b u} q n=>by rw[Jn<|na q n,Jn<|nTb q];exact q
 have fa:a∉frs X.stack:=λz=>by rw[hfr a z]at ha;cases ha
 refine k T oT h' #[hT,g5,#[_,d7,by simp[tz]],#[λb o q n hb _=>keep b o q (λz=>by subst z;rw[ha]at n;cases n) hb,λb o q _ hb _=>slot b o q λz=>fa<|z▸hb,λb o q n _=>?_,λb o q _=>?_,λb xs q=>up q nofun,λb o u q=>up q nofun,λb ps q=>#[#[],by rw[up q nofun];simp]],λb u q=>?_]
 ·rw[Jn (λz=>by subst z;rw[ha]at n;cases n),Jn λz=>by subst z;rw[nT]at q;cases q];exact n
 ·by_cases z:b=a
  ·subst z;exact#[_,e1]
  ·obtain⟨sl,w⟩:=slot b o q z;exact#[_,w]
 ·by_cases z:b=a
  ·subst z;rw[Jz]at q;cases q;exact ExF.ok e1 ((Zd3 _ _).trans x2) (Zag g2 _) (by simp[g3]) (by rw[Array.getElem?_setIfInBounds_ne 01];exact x5)<|(Jpj _ _).trans x6
  ·rw[Jn z]at q;by_cases y:b=T
   ·subst y;rw[Jz]at q;cases q;exact#[e7,#[oT,e7]]
   ·rw[Jn y]at q;refine(hok b u q).stay (λc v hc p=>?_) (λc p=>up p nofun) λc xs p=>up p nofun
    refine keep c v p ?_ ?_
    ·rcases hc with rfl|hc
     ·exact z
     ·exact na hc nofun
    ·intro m;rcases hc with rfl|hc
     ·rw[hfr _ m]at q;cases q
     ·rw[hfr _ m]at hc;cases hc
theorem Jl9(I:Inv X pj σ H s)(fl:Fly X.env.locals (frs X.stack) a s s1)(hs:X.stack=X.env::X.outer)(hf:X.env.frame=Za X.env.locals)(ha:H a=Za (ExF a C tv d))(ht:TvOk H tv) (k:∀T oT h',Past X H s.heap a C d T oT h'->Q () {s with heap:=h'}):Zt M X.A (ZeK (.ref a) X.env) (λ_ s'=>Zt M X.A (ZeL (.ref a) Zd) Q E s') E s1:=by
 rcases fl with rfl|⟨h',rfl,n⟩
 ·exact Jib I hs hf ha ht λh3 n=>Jg3 I ha n k
 ·exact Jc1 hf n<|Jg3 I ha n k
theorem Jqt(I:Inv X pj σ H s)(fl:Fly X.env.locals (frs X.stack) a s s1)(hs:X.stack=X.env::X.outer)(hf:X.env.frame=Za X.env.locals)(ha:H a=Za (ExF a C tv d))(ht:TvOk H tv) (k:∀T oT h',Past X H s.heap a C d T oT h'->Q () {s with heap:=h'}):Zt M X.A (leaving X.env<|.ref a) Q E s1:=by unfold leaving;exact Zc<|Jl9 I fl hs hf ha ht k
end
def CXI(P:ZD)(w:ZV):CXT:=λouter H s E e s'=>∃H',s'.os=s.os/\Zea s'.gens/\Un (frs outer) [] H H' s.heap s'.heap/\HOk P w H' s'.heap/\E e Zd H'
theorem Un.tail(a:Un fs [] H H1 h h1)(b:Un (L::fs) [] H1 H2 h1 h2)(n:h.get? L=Zd):Un fs [] H H2 h h2 where
 keep:=λc o q m hc _=>b.keep c o (a.keep c o q m hc 03) (a.free c o q m 03) (λz=>(ZB.mp z).elim (λy=>by subst y;rw[n]at q;cases q) hc) 03
 slot:=λc o q m hc _=>by obtain⟨sl,e1⟩:=a.slot c o q m hc 03;obtain⟨sl',e2⟩:=b.any e1 (a.free c o q m 03) 03;exact#[sl',e2]
 free:=λc o q m _=>by obtain⟨o',e1⟩:=a.there c o q 03;exact b.free c o' e1 (a.free c o q m 03) 03
 there:=λc o q _=>by obtain⟨o',e1⟩:=a.there c o q 03;exact b.there c o' e1 03
 tups:=λc xs q=>b.tups c xs<|a.tups c xs q
 frzs:=λc o u q=>b.frzs c o u<|a.frzs c o u q
 tbls:=λc ps q=>by obtain⟨m1,e1⟩:=a.tbls c ps q;obtain⟨m2,e2⟩:=b.tbls c _ e1;exact#[m1++m2,by rw[e2,Array.append_assoc]]
section
variable{X:Cx}{pj:PnT}{σ:L2.St}{H:Hp}{s:Zk}{k:Nat}{f C:Zo}{fd:Zbc}{ps:Tk}{sp:Sp}{dvs:Ud}{ds:Tv}{E:XK}{Q:VK}{us:Tv}{vs:Ud}{W:QvT}
theorem Jwb(I:Inv X pj σ H s)(h:CXI X.prog X.w X.stack H s E e s'):∃H',Inv X pj σ H' s'/\E e Zd H':=by obtain⟨H',os,bare,un,hok,q⟩:=h;exact#[H',I.call' os un hok bare λb z=>absurd z 03,q]
theorem Jyk(F:FnOk X.prog X.w X.K X.mg X.base (CXI X.prog X.w) k f fd ps sp)(hr:Room k X.A)(hb:Qh X.K fd ps ds)(hd:Vals dvs ds)(I:Inv X pj σ H s)(r:Vals vs us)(h:sp (vs++dvs) H Q E) (hx:∀e s' H',Inv X pj σ H' s'->E e Zd H'->W e s'):Zt (Zz X.prog X.w) X.A (call (.ref f) us) (EP X pj σ Q) W s:=by
 have ra:Vals (vs++dvs) (us++ds):=r.append hd;have la:=ra.length;have lf:=F.len _ _ _ _ h;refine ZeY<|Zc3 (F.run _ _ _ _ #[us,[]] _ _ _ _ hr I.env0 (hb s us I.kIn 05) ra h) λres s' q=>?_
 match res,q with|.error e,q=>obtain⟨H',I',z⟩:=Jwb I q;exact hx e s' H' I' z|.ok (.ret u),q=>exact I.after q|.ok .next,q=>exact ZbM q|.ok .brk,q=>exact ZbM q|.ok .cont,q=>exact ZbM q
theorem Jrh(M:Mk X.K C f)(F:FnOk X.prog X.w X.K X.mg X.base (CXI X.prog X.w) k f fd ps sp)(hr:Room (k+1) X.A)(hb:Qh X.K fd ps ds)(hd:Vals dvs ds)(I:Inv X pj σ H s)(r:Vals vs us) (h:∀x dx,H x=Zd->H dx=Zd->dx≠x->sp (.ref x::(vs++dvs)) (upd (upd H dx<|.own x) x<|.ins C dx []) (λv H2=>v=.non/\Q (.ref x) H2) E) (hx:∀e s' H',Inv X pj σ H' s'->E e Zd H'->W e s'):Zt (Zz X.prog X.w) X.A (call (.ref C) us) (EP X pj σ Q) W s:=by
 have z0:=s.heap.objs.size;have hq:=h (s.heap.objs.size+1) s.heap.objs.size (I.hok.fresh<|ZaR _) (I.hok.fresh<|Zm _)<|Z5<|Za4 _;have J:=Inv.made (C:=C) I;have ra:Vals (V.ref (s.heap.objs.size+1)::(vs++dvs)) (Zeg (s.heap.objs.size+1)::(us++ds)):=.cons rfl (r.append hd);have la:=ra.length;have lf:=F.len _ _ _ _ hq;have hl:(Zeg (s.heap.objs.size+1)::us++ds).length=ps.length:=by rw[ZaK];lia
 refine ZeY<|Jt3 (f:=f) I.kIn M.makes M.init (beq_iff_eq.mp M.fn)<|Zc3 (F.run _ _ _ _ #[.ref (s.heap.objs.size+1)::us,[]] _ _ _ _ (hr.make C us []) (J.env0.make C us []) (hb _ (.ref (s.heap.objs.size+1)::us) J.kIn hl) ra hq) λres s' q=>?_
 match res,q with|.error e,q=>obtain⟨H',I',z⟩:=Jwb J q;exact hx e s' H' I' z|.ok (.ret u),q=>obtain⟨v,H',J3,rv,ev,q3⟩:=J.after q;subst ev;exact#[rv,#[V.ref<|s.heap.objs.size+1,H',J3,rfl,q3]]|.ok .next,q=>exact ZbM q|.ok .brk,q=>exact ZbM q|.ok .cont,q=>exact ZbM q
end
structure ItI where
 xs:Tx
 chk:IH->Prop
open Classical in
def JY(chk:IH->Prop)(g:G1)(b:S1):Tx->ISt->IH->SRes|[],σ,h=>if chk h then .next σ h else .stuck|x::xs,σ,h=>if chk h then(match g x σ h with|.next σ1 h1=>(match b σ1 h1 with|.next σ2 h2=>JY chk g b xs σ2 h2|.cont σ2 h2=>JY chk g b xs σ2 h2|.brk σ2 h2=>.next σ2 h2|.ret v h2=>.ret v h2|.exc n σ2 h2=>(match h2[n]? with|some (.exc _ _)=>.exc n σ2 h2|_=>.stuck)|_=>.stuck)|_=>.stuck)else .stuck
abbrev I1:=ISt->IH->Res ItI
def sFor(it:I1)(g:G1)(b:S1):S1:=λσ h=>rS σ (it σ h) λJ h'=>JY J.chk g b J.xs σ h'
structure ItOk(ce:CeT)(K:W.Frag)(ι:Tw)(H₀:Hp)(J:It)(I:ItI):Prop where
 go:∀(k:Nat)(x:IV)(h:IH)(H:Hp)(ι':Tw),Nxt ι H₀ ι' H->Rel ce K ι' h H->I.chk h->I.xs[k]?=Za x ->J.go k H/\∀y H',J.yld k H y H'->Rel ce K ι' h H'/\Nxt ι' H ι' H'/\RV K ι' H' x y
 stop:∀(k:Nat)(h:IH)(H:Hp)(ι':Tw),Nxt ι H₀ ι' H->Rel ce K ι' h H->I.chk h->I.xs.length<=k->J.stop k H
theorem Rel.get{ce:CeT}{K:W.Frag}{ι:Tw}{h:IH}{H:Hp}(R:Rel ce K ι h H){i:Nat}{o:IX}(e:h[i]?=Za o){a:Zo}(ha:ι[i]?=Za a):RO ce K ι H a o:=by obtain⟨b,e1,r⟩:=R.at_ i o e;rw[ha]at e1;cases e1;exact r
def RIt(ce:CeT)(X:Cx)(tg:Expr)(pj:PnT)(ι':Tw)(I:ItI)(itv:Zg)(s2:Zk)(H':Hp):Prop:=∃(it:Zo)(fp:Tw)(tn:Nat->Zaw->Prop)(J:It),itv=.ref it/\Turn X.prog X.w X.K tg J fp it tn/\tn 0 s2.heap/\(∀b∈fp,FpOk X pj H' b)/\ItOk ce X.K ι' H' J I
def PIi(ce:CeT)(X:Cx)(tg iter:Expr)(m:I1):Prop:=∀(pj:PnT)(s:Zk)(σ:L2.St)(H:Hp)(ι:Tw)(σi:ISt)(h:IH)(Q:QvT)(E:QvT),Now ce X pj ι σi h σ H s ->(match m σi h with|.ok I h'=>∀itv s' H' ι',Now ce X pj ι' σi h' σ H' s'->Nxt ι H ι' H'->RIt ce X tg pj ι' I itv s' H'->Q itv s'|.exc n h'=>∀pl a s' H' ι',Now ce X (pj++pl) ι' σi h' σ H' s'->Nxt ι H ι' H'->ι'[n]?=Za a->E (.ref a) s'|.stuck=>False) ->
  Zt (Zz X.prog X.w) X.A (Zby iter X.env) (λv s1=>Zt (Zz X.prog X.w) X.A (Zel v) Q E s1) E s
section
variable{ce:CeT}{X:Cx}
theorem nof{M:Model}{A:ZH}{α:Type}{t:Sem α}{Q:α->Zk->Prop}{E:QvT}{s:Zk}(h:Zt M A t Q (λ_ _=>False) s):Zt M A t Q E s:=Zar h (λ_ _ x=>x) λ_ _ z=>z.elim
theorem Now.pins{pj pl:PnT}{ι:Tw}{σi:ISt}{h:IH}{σ:L2.St}{H:Hp}{s:Zk}(N:Now ce X (pj++pl) ι σi h σ H s):Now ce X pj ι σi h σ H s:=#[N.inv.unpinned,N.rel,N.st]
theorem J45{tg iter:Expr}{body:Tn}{mi:I1}{g:G1}{mb:S1}{pos:Pos}(hc:X.calm=Zh)(hst:X.stack=X.env::X.outer)(hf:X.env.frame=Za X.env.locals)(hi:PIi ce X tg iter mi)(hg:PGi ce X tg g)(hb:PS2 ce X body mb)
  (hs:∀x,ZcG iter X.env x=pure x:=by intro _;rfl):PS1 ce X (.For tg iter body [] pos) (sFor mi g mb):=by
 intro pj s σ H ι σi h Q E N K;refine wpAny_For (hi pj s σ H ι σi h _ E N ?_) hs;unfold sFor at K;cases e0:mi σi h with|exc n h'=>rw[e0]at K;exact λpl a s' H' ι' N' n' q=>K pl a s' σ H' ι' N' n' q s'<|.inl rfl|stuck=>rw[e0]at K;exact K|ok I h'=>
  rw[e0]at K;intro itv s2 H2 ι2 N2 n2 R;obtain⟨it,fp,tn,J,e,T,st2,f2,OK⟩:=R;subst e;have stat:∀{H':Hp},(∀b∈fp,H' b=Zd)->∀b∈fp,FpOk X pj H' b:=λhn b hb=>#[hn b hb,(f2 b hb).2]
  have K2:J8 ce X pj ι2 H2 (JY I.chk g mb I.xs σi h') Q E:=J8.mono (r:=JY I.chk g mb I.xs σi h') K n2;refine codeAny_forLoop_any (λn s'=>∃k ιk σk hk σ' H',Now ce X pj ιk σk hk σ' H' s'/\Nxt ι2 H2 ιk H'/\tn k s'.heap/\(∀b∈fp,H' b=Zd)/\n=I.xs.length-k/\k<=I.xs.length/\J8 ce X pj ιk H' (JY I.chk g mb (I.xs.drop k) σk hk) Q E) ?_ I.xs.length
   #[0,ι2,σi,h',σ,H2,N2,.refl,st2,λb hb=>(f2 b hb).1,03,ZA _,by simpa using K2]
  rintro n s3 ⟨k,ιk,σk,hk,σ3,H3,N3,n3,st3,fr3,rfl,hkl,K3⟩;by_cases hlt:k<I.xs.length
  ·-- a turn
   have hd:I.xs.drop k=I.xs[k]::I.xs.drop (k+1):=Zb4 hlt;rw[hd]at K3;unfold JY at K3;split at K3
   ·rename_i hck;obtain⟨go,yl⟩:=OK.go k I.xs[k] hk H3 ιk n3 N3.rel hck<|Zb hlt;refine nof<|thn (T.item X rfl rfl rfl hc k pj s3 σ3 H3 (λ_ _=>False) N3.inv (stat fr3) st3 go) λr s4 ⟨u,hr,h4⟩=>?_
    subst hr;refine nof<|thn h4 λ_ s5 ⟨x,H5,I5,r5,y5,st5,fr5⟩=>?_
    obtain⟨R5,n5,q5⟩:=yl x H5 y5;have I5':=I5.pinned (stat fr5)<|T.obj _ _ st5;have N5:Now ce X (pj++Q9 fp s5.heap) ιk σk hk σ3 H5 s5:=#[I5',R5,N3.st.mono n5];cases eg:g I.xs[k] σk hk with
    |next σg hgg=>
     rw[eg]at K3;dsimp only at K3;refine nof<|hg _ s5 σ3 H5 ιk σk hk _ u (λ_ s6=>Zt (Zz X.prog X.w) X.A (execs body X.env) _ _ s6) (λ_ _=>False) N5 #[x,r5,q5] ?_;rw[eg];intro s6 σ6 H6 ι6 N6 n6;refine hb _ s6 σ6 H6 ι6 σg hgg _ _ N6 ?_;have Zgc:∀{σ7:L2.St}{H7:Hp}{s7:Zk}{σ7i:ISt}{h7:IH}{ι7:Tw},Now ce X (pj++Q9 fp s5.heap) ι7 σ7i h7 σ7 H7 s7->Nxt ι6 H6 ι7 H7->J8 ce X pj ιk H3 (JY I.chk g mb (I.xs.drop<|k+1) σ7i h7) Q E ->
       ∃m,m<I.xs.length-k/\∃k ιk σk hk σ' H',Now ce X pj ιk σk hk σ' H' s7/\Nxt ι2 H2 ιk H'/\tn k s7.heap/\(∀b∈fp,H' b=Zd)/\m=I.xs.length-k/\k<=I.xs.length/\J8 ce X pj ιk H' (JY I.chk g mb (I.xs.drop k) σk hk) Q E:=
      λ{σ7 H7 s7 σ7i h7 ι7} N7 n7 K7=>by have nn:Nxt ιk H3 ι7 H7:=(n5.trans n6).trans n7;refine#[I.xs.length-(k+1),00,k+1,ι7,σ7i,h7,σ7,H7,N7.pins,n3.trans nn,T.keep _ _ _ st5 λb hb o e=>(N7.inv.pin (b,o)<|Zq _<|Zq _<|Yj hb e).1,λb hb=>?_,rfl,hlt,K7.mono nn];obtain⟨o,e,d⟩:=T.obj _ _ st5 b hb;exact(N7.inv.pin (b,o)<|Zq _<|Zq _<|Yj hb e).2.1
     cases eb:mb σg hgg with
     |next σ7i h7=>rw[eb]at K3;exact λs7 σ7 H7 ι7 N7 n7=>Zgc N7 n7 K3
     |cont σ7i h7=>rw[eb]at K3;exact λs7 σ7 H7 ι7 N7 n7=>Zgc N7 n7 K3
     |brk σ7i h7=>rw[eb]at K3;exact λs7 σ7 H7 ι7 N7 n7=>K3 s7 σ7 H7 ι7 N7.pins<|(n5.trans n6).trans n7
     |ret v h7=>rw[eb]at K3;exact λu s7 σ7i σ7 H7 ι7 N7 n7 r=>K3 u s7 σ7i σ7 H7 ι7 N7.pins ((n5.trans n6).trans n7) r
     |exc n σ7i h7=>
      rw[eb]at K3;dsimp only at K3;cases hj:h7[n]? with|none=>rw[hj]at K3;exact Zf K3|some ob=>
       cases ob with
       |exc c fs=>
        rw[hj]at K3;intro pl a s7 σ7 H7 ι7 N7 n7 q s8 fl;obtain⟨C,tv,d,fe,hC,ha,ht⟩:=N7.rel.get hj q;have back:∀h8,Noted X.env.locals (frs X.stack) a s7.heap h8->ZfQ (Zz X.prog X.w) X.A X.env E (.ref a) {s7 with heap:=h8}:=λh8 n8=>
         Jg2 hf n8 λh9 n9=>K3 (Q9 fp s5.heap++pl) a s7 σ7 H7 ι7 (by rw[<-Zae];exact N7) ((n5.trans n6).trans n7) q _<|.inr #[h9,rfl,n9]
        rcases fl with rfl|⟨h8,rfl,n8⟩
        ·exact Jib N7.inv hst hf ha ht back
        ·exact Jc1 hf n8<|back h8 n8
       |_=>rw[hj]at K3;exact Zf K3
     |stuck=>rw[eb]at K3;exact Zf K3
    |_=>rw[eg]at K3;exact Zf K3
   ·exact Zf K3
  ·have hke:I.xs.drop k=[]:=Zd4 00;rw[hke]at K3;unfold JY at K3;split at K3
   ·rename_i hck;have stop:=OK.stop k hk H3 ιk n3 N3.rel hck 00;refine nof<|thn (T.done X rfl rfl rfl hc k pj s3 σ3 H3 (λ_ _=>False) N3.inv (stat fr3) st3 stop) λr s4 ⟨hr,I4⟩=>?_
    subst hr;exact Zdk<|K3 s4 σ3 H3 ιk #[I4,N3.rel,N3.st] .refl
   ·exact Zf K3
noncomputable def itOf:IV->IH->Res ItI
 |.ref i,h=>match h[i]? with
  |some (.lst xs)=>.ok #[xs,λh'=>h'[i]?=Za (.lst xs)] h
  |_=>.stuck
 |.rol xs,h=>.ok #[xs,λ_=>True] h
 |.tup xs,h=>.ok #[xs,λ_=>True] h
 |_,_=>.stuck
def iVal(e:E1):I1:=λσ h=>(e σ h).bind itOf
variable{tg:Expr}
theorem J03{a:Zo}{i:Nat}{xs:Tx}{ι:Tw}{H₀:Hp}(ha:ι[i]?=Za a):ItOk ce X.K ι H₀ (Itl X.K a) #[xs,λh'=>h'[i]?=Za (.lst xs)]:=by
 refine#[λk x h H ι' hp R hck hx=>?_,λk h H ι' hp R hck hx=>?_]
 ·obtain⟨vs,e1,r1⟩:=R.get hck<|hp.at ha;obtain⟨v,hv,qv⟩:=r1.get hx;refine#[#[vs,v,SqL.of e1,hv],λy H' hy=>?_];obtain⟨rfl,hy⟩:=hy;have:=hy vs<|SqL.of e1;rw[hv]at this;cases this;exact#[R,.refl,qv]
 ·obtain⟨vs,e1,r1⟩:=R.get hck<|hp.at ha;exact#[vs,SqL.of e1,by rw[r1.length];exact hx]
theorem J04{a:Zo}{xs:Tx}{vs:Ud}{ι:Tw}{H₀:Hp}(sa:SqR X.K H₀ a vs)(ra:RVs X.K ι H₀ xs vs):ItOk ce X.K ι H₀ (Itl X.K a) #[xs,λ_=>True]:=by
 refine#[λk x h H ι' hp R hck hx=>?_,λk h H ι' hp R hck hx=>?_]
 ·obtain⟨v,hv,qv⟩:=ra.get hx;have sq:=(hp.ext.sqR sa).sq;refine#[#[vs,v,sq,hv],λy H' hy=>?_];obtain⟨rfl,hy⟩:=hy;have:=hy vs sq;rw[hv]at this;cases this;exact#[R,.refl,RV.mono hp _ _ qv]
 ·exact#[vs,(hp.ext.sqR sa).sq,by rw[ra.length];exact hx]
theorem J05{a:Zo}{xs:Tx}{vs:Ud}{ι:Tw}{H₀:Hp}(sa:SqT X.K H₀ a vs)(ra:RVs X.K ι H₀ xs vs):ItOk ce X.K ι H₀ (Itt X.K a) #[xs,λ_=>True]:=by
 refine#[λk x h H ι' hp R hck hx=>?_,λk h H ι' hp R hck hx=>?_]
 ·obtain⟨v,hv,qv⟩:=ra.get hx;have sq:=hp.ext.sqT sa;refine#[#[vs,v,sq,hv],λy H' hy=>?_];obtain⟨rfl,hy⟩:=hy;have:=hy vs sq;rw[hv]at this;cases this;exact#[R,.refl,RV.mono hp _ _ qv]
 ·exact#[vs,hp.ext.sqT sa,by rw[ra.length];exact hx]
theorem Jp9{l:Expr}{ml:E1}(hl:PEi ce X l ml):PIi ce X tg l (iVal ml):=by
 intro pj s σ H ι σi h Q E N K;refine hl pj s σ H ι σi h _ E N ?_;unfold iVal at K;cases e0:ml σi h with|exc n h'=>rw[e0]at K;exact K|stuck=>rw[e0]at K;exact K|ok v h'=>
  rw[e0]at K;intro u s1 H1 ι1 N1 n1 r1;obtain⟨w,rw',q⟩:=r1;have fresh:∀b∈[s1.heap.objs.size],FpOk X pj H1 b:=λb hb=>by
   have e:b=s1.heap.objs.size:=by simpa using hb
   subst e;exact N1.inv.fpOk (Zm _)<|N1.inv.hok.fresh<|Zm _
  cases v with
  |ref i=>
   obtain⟨a,e1,ha⟩:=q;subst e1;cases rw';cases hi:h'[i]? with|none=>simp only[Res.bind,itOf,hi]at K|some o=>cases o with|lst xs=>simp only[Res.bind,itOf,hi]at K;obtain⟨vs,e1,r1⟩:=N1.at hi ha;obtain⟨its,rv,p,hz⟩:=N1.inv.list<|SqL.of e1;refine Zbk p.isList<|K _ _ H1 ι1 #[N1.inv.kept (t':=s1.toks) λb o e=>Ze _ e,N1.rel,N1.st] n1 ?_;exact#[s1.heap.objs.size,[s1.heap.objs.size],_,Itl X.K a,rfl,Jke a _,#[_,Zv _ rfl,rfl,rfl],fresh,J03 ha]|_=>simp only[Res.bind,itOf,hi]at K
  |rol xs=>obtain⟨a,vs,e1,sa,ra⟩:=q;subst e1;cases rw';simp only[Res.bind,itOf]at K;obtain⟨its,rv,p,hz⟩:=N1.inv.list sa.sq;refine Zbk p.isList<|K _ _ H1 ι1 #[N1.inv.kept (t':=s1.toks) λb o e=>Ze _ e,N1.rel,N1.st] n1 ?_;exact#[s1.heap.objs.size,[s1.heap.objs.size],_,Itl X.K a,rfl,Jke a _,#[_,Zv _ rfl,rfl,rfl],fresh,J04 sa ra]
  |tup xs=>obtain⟨a,vs,e1,sa,ra⟩:=q;subst e1;cases rw';simp only[Res.bind,itOf]at K;obtain⟨its,rv,p,hz⟩:=N1.inv.tuple sa;refine wpAny_pyIter_tuple (show s1.heap.IsTuple a its.toArray from p)<|K _ _ H1 ι1 #[N1.inv.kept (t':=s1.toks) λb o e=>Ze _ e,N1.rel,N1.st] n1 ?_;exact#[s1.heap.objs.size,[s1.heap.objs.size],_,Itt X.K a,rfl,Joi a _,#[_,Zv _ rfl,rfl,rfl],fresh,J05 sa ra]
  |_=>simp only[Res.bind,itOf]at K
noncomputable def rngI (lo hi:Int):Tx:=(ZU (hi-lo).toNat).map λk=>.int<|lo+(k:Nat)
def Qd:Tx->IH->Res ItI|[.int j],h=>if -(2^62)<=j/\j<2^62 then .ok #[rngI 0 j,λ_=>True] h else .stuck|_,_=>.stuck
def iRg(f:Tx->IH->Res ItI)(a:A1):I1:=λσ h=>(a σ h).bind f
theorem J19{lo hi:Int}{ι:Tw}{H₀:Hp}:ItOk ce X.K ι H₀ (Itr lo (hi-lo).toNat) #[rngI lo hi,λ_=>True]:=by
 refine#[λk x h H ι' hp R hck hx=>?_,λk h H ι' hp R hck hx=>?_]
 ·have hk:k<(hi-lo).toNat:=by have:=(Zs.mp hx).1;simpa[rngI]using this
  refine#[hk,λy H' hy=>?_];obtain⟨rfl,rfl⟩:=hy;simp only[rngI,Zy,Zda hk]at hx;cases hx;exact#[R,.refl,rfl]
 ·have:(rngI lo hi).length=(hi-lo).toNat:=by simp[rngI]
  show(hi-lo).toNat<=k;rw[<-this];exact hx
theorem Jrd{pj:PnT}{σ:L2.St}{H:Hp}{ι:Tw}{σi:ISt}{h:IH}{s:Zk}{Q E:QvT}{lo hi:Int}{t u v:Tok}{tk:Nat}(N:Now ce X pj ι σi h σ H s)
  (h1: -(2^62)<=lo)(h2:lo<2^62)(h3: -(2^62)<=hi)(h4:hi<2^62)
  (K:∀itv s' H' ι',Now ce X pj ι' σi h σ H' s'->Nxt ι H ι' H'->RIt ce X tg pj ι' #[rngI lo hi,λ_=>True] itv s' H'->Q itv s'):
  Zt (Zz X.prog X.w) X.A (Zel<|.ref s.heap.objs.size) Q E {s with heap:=s.heap.push {cls:=.type "range",data:=.fields (Zay [.int lo t,.int hi u,.int 1 v])},toks:=tk}:=by
 have:=Jue (X:=X) (tg:=tg) (E:=E) (R:=λJ H'=>J=Itr lo (hi-lo).toNat/\H'=H) (t:=t) (u:=u) (v:=v) (tk:=tk) N.inv h1 h2 h3 h4 #[rfl,rfl];refine Zar this (λitv s' hq=>?_) λ_ _ z=>z
 obtain⟨it,fp,tn,J,H',e,I',T,st,f,rfl,rfl⟩:=hq;exact K itv s' _ ι #[I',N.rel,N.st] .refl #[it,fp,tn,_,e,T,st,f,J19]
theorem Jtg{a:Expr}{ma:A1}{p pos:Pos}(hg:Gl X "range")(hm:X.mg "range"=Zd)(ha:PAi ce X [a] ma)(hs:ZG [a] X.env=[(Zj,Zby a X.env)]:=by rfl):PIi ce X tg (.Call (.Name "range" p) [a] [] pos) (iRg Qd ma):=by
 intro pj s σ H ι σi h Q E N K;refine Call_<|Qp N.inv hg hm boot_range<|ZaP ?_ hs rfl;refine ha pos pj s σ H ι σi h _ E N ?_;unfold iRg at K;cases e0:ma σi h with|exc n h'=>rw[e0]at K;exact K|stuck=>rw[e0]at K;exact K|ok vs h'=>
  rw[e0]at K;intro us s1 H1 ι1 N1 n1 r1;obtain⟨xs,rv,qs⟩:=r1;match vs,K with
  |[.int j],K=>
   obtain⟨w,r,e1,q,q2⟩:=qs;have e2:r=[]:=q2;subst e1 e2;have e3:w=.int j:=q;subst e3;cases rv with|cons r rr=>
    cases rr;obtain⟨t,rfl⟩:=r;simp only[Res.bind,Qd]at K;by_cases hb: -(2^62)<=j/\j<2^62
    ·rw[if_pos hb]at K;exact call_range_1<|Jrd N1 00 00 hb.1 hb.2 λitv s' H' ι' N' n' R=>K itv s' H' ι' N' (n1.trans n') R
    ·rw[if_neg hb]at K;exact K.elim
  |[],K=>exact Zf K
  |.non::_,K=>exact Zf K
  |.bl _::_,K=>exact Zf K
  |.str _::_,K=>exact Zf K
  |.tup _::_,K=>exact Zf K
  |.rol _::_,K=>exact Zf K
  |.ref _::_,K=>exact Zf K
  |.int _::_::_,K=>exact Zf K
end
end L3
namespace L3
open PySem PySem.Spec PySem.Calls PyProof.Rows L2
section
variable{prog:ZD}{w:ZV}{A:ZH}{E:QvT}{s:Zk}{K:W.Frag}{x D:Zo}{ox:Obj}
open PySem.W PySem.Builtin PySem.Builtin.ObjectAttr PySem.Builtin.Getset_descriptor in
end
structure ExI(K:W.Frag)(C:Zo):Prop where
 ga:W.findIn K (.ref C) "__getattribute__"=Za (Za<|.builtin "BaseException.__getattribute__")
 mb:W.mroIn K C (.type "BaseException")=Za Zh
 gn:W.findIn K (.ref C) "__getattr__"=Za Zd
 ca:W.findIn K (.ref C) "__class__"=Za (Za<|.builtin "object.__class__")
 mo:W.mroIn K C (.type "object")=Za Zh
 hd:W.hasDictIn K C=Zh
end L3
namespace L3
open PySem PySem.Spec PyProof.Rows L2
noncomputable def XB (n:Nat)(vs:Tx):ISt:=vs.map Za++Zab (n-vs.length) Zd
noncomputable def SRes.fin (r:SRes):Res IV:=match r with|.next _ h'=>.ok .non h'|.ret v h'=>.ok v h'|.exc n _ h'=>(match h'[n]? with|some (.exc _ _)=>.exc n h'|_=>.stuck)|_=>.stuck
noncomputable def fnI (n:Nat)(m:S1):Tx->IH->Res IV:=λvs h=>(m (XB n vs) h).fin
def spI(ce:CeT)(K:W.Frag)(ps:Tk)(f:Tx->IH->Res IV):Sp:=λvs H Q E=>
 vs.length=ps.length/\∃ι h ivs,Rel ce K ι h H/\RVs K ι H ivs vs /\ match f ivs h with|.ok v h'=>∀x H' ι',Rel ce K ι' h' H'->Nxt ι H ι' H'->RV K ι' H' v x->Q x H'|.exc n h'=>∀a H' ι',Rel ce K ι' h' H'->Nxt ι H ι' H'->ι'[n]?=Za a->E (.ref a) Zd H'|.stuck=>False
theorem RVs.start{K:W.Frag}{ι:Tw}{H:Hp}{N:Tk}{ivs:Tx}{vs:Ud}(r:RVs K ι H ivs vs):RSt K ι H (XB N.length ivs) (L2.start N vs):=by
 have hl:=r.length;refine#[by simp[XB,L2.start,hl],λj v e=>?_];unfold XB at e;unfold L2.start;by_cases hj:j<ivs.length
 ·rw[ZI (by simpa using hj),Zy]at e;rw[ZI (by simp;lia),Zy];cases e1:ivs[j]? with|none=>rw[e1]at e;cases e|some w=>rw[e1]at e;cases e;obtain⟨u,hu,q⟩:=r.get e1;exact#[u,by rw[hu];rfl,q]
 ·rw[ZE (by simpa using hj),Zcq]at e;split at e<;>cases e
theorem Jil{α:Type}:∀{l:List α}{i:Nat}{x:α},l[i]?=Za x->l.set i x=l|[],_,_,e=>by simp at e|a::l,0,x,e=>by cases e;rfl|a::l,i+1,x,e=>by show a::l.set i x=a::l;rw[Jil (l:=l) e]
theorem Jug{ce:CeT}{K:W.Frag}{ι:Tw}{h:IH}{H:Hp}{i:Nat}{o:IX}{a:Zo}(R:Rel ce K ι h H)(e:h[i]?=Za o)(q:ι[i]?=Za a):RO ce K ι H a o:=by obtain⟨b,e1,r⟩:=R.at_ i o e;rw[q]at e1;cases e1;exact r
structure FunD(K:W.Frag)(x qual:Str)(st:ZcZ)(f:Zo)(fd:Zbc)(dV:Zg):Prop where
 ex:∃(oc:Zg)(od:Tc)(kV doc pm:Zg)(an:Tc)(cdv ct:Zg)(osl:Wc),fd=W.fnOf x qual (QE st) (Qo st) (JP st) dV kV doc pm an cdv ct/\K.lookup f=Za #[oc,od,.func fd,osl]/\W.codeIn K cdv qual=Zh
 kp:W.keepIn K (.ref f)=Zh
section
variable{P:ZD}{w:ZV}{K:W.Frag}{mg:Str->Wz}{base:Zaw}{ce:CeT}
theorem FunD.fn{x qual:Str}{st:ZcZ}{f:Zo}{fd:Zbc}{dV:Zg}{N ps:Tk}{k n:Nat}{m:S1}(F:FunD K x qual st f fd dV)(S:FnScope N ps<|JP st)
  (hbody:∀(cdv:Zg)(A:ZH)(outer:Tl)(s:Zk)(H:Hp)(E:XK),W.codeIn K cdv qual=Zh->Room k (A.deeper<|Zf1 qual (JP st) s.heap.objs.size f cdv)->PS2 ce (cxOf (CXI P w) P w K mg base N qual (JP st) f cdv A outer s H E).nox (Qo st) m)(hn:N.length=n:=by rfl):
  FnOk P w K mg base (CXI P w) (k+1) f fd ps (spI ce K ps<|fnI n m):=by
 subst hn;obtain⟨oc,od,kV,doc,pm,an,cdv,ct,osl,rfl,lk,hcd⟩:=F.ex;refine J3y lk hcd S (λvs H Q E h=>h.1) λA outer s H vs Q E hr hsp=>?_
 obtain⟨hl,ι,h,ivs,R,rv,hk⟩:=hsp;refine#[λD σ H=>∃ι σi h,Rel ce K ι h H/\RSt K ι H σi σ/\match m σi h with|.next σi' h'=>∀σ' H' ι',Rel ce K ι' h' H'->RSt K ι' H' σi' σ'->Nxt ι H ι' H'->D.nx σ' H'|.ret v h'=>∀x H' ι',Rel ce K ι' h' H'->Nxt ι H ι' H'->RV K ι' H' v x->D.rt x H'|.exc n _ h'=>(∃c fs,h'[n]?=Za (.exc c fs))/\∀a H' ι',Rel ce K ι' h' H'->Nxt ι H ι' H'->ι'[n]?=Za a->E (.ref a) Zd H'|_=>False,λpj s' σ' H' D I ht=>?_,ι,XB N.length ivs,h,R,rv.start,?_]
 ·obtain⟨ι,σi,h,R,rs,hm⟩:=ht;refine Zar (hbody cdv A outer s H E hcd hr pj s' σ' H' ι σi h (SP _ pj D) _ #[I.wish _,R,rs] ?_) (λ_ _ z=>z) λ_ _ z=>z
  cases e:m σi h with
  |next σ2 h2=>rw[e]at hm;exact λs3 σ3 H3 ι3 N3 n3=>#[σ3,H3,N3.inv.unwish,hm σ3 H3 ι3 N3.rel N3.st n3]
  |ret v h2=>rw[e]at hm;exact λu s3 σ3i σ3 H3 ι3 N3 n3 ⟨z,rz,q⟩=>#[z,σ3,H3,N3.inv.unwish,rz,hm z H3 ι3 N3.rel n3 q]
  |exc j σ2 h2=>
   rw[e]at hm;obtain⟨⟨c,fs,hj⟩,hm⟩:=hm;intro pl a s3 σ3 H3 ι3 N3 n3 hi s4 fl;have I3:=N3.inv.unwish;obtain⟨C,tv,d,fe,hC,ha,ht⟩:=Jug N3.rel hj hi;refine Jqt I3 fl rfl rfl ha ht λT oT h' p=>?_
   have nl:s.heap.get? s.heap.objs.size=Zd:=Heap.get?_none_of_le<|Zm _;obtain⟨R4,n4⟩:=N3.rel.grow (o:=.frz oT<|.own 0) p.new;have ha4:upd H3 T (.frz oT<|.own 0) a=Za (ExF a C tv d):=by rw[Jn<|ZP p.ne];exact ha
   obtain⟨R5,n5⟩:=R4.write hi ha4 (by rw[ha4];trivial) (o:=ExF a C (.ref T) d) (io:=.exc c fs) #[C,.ref T,d,fe.mono p.un.frzs,hC,Jz,.inr #[T,oT,_,rfl,by rw[Jn p.ne,Jz],p.fld.choose_spec]];rw[Jil hj]at R5;exact#[_,I3.os,I3.bare,Un.tail I3.base p.un nl,p.hok,hm a _ ι3 R5 ((n3.trans n4).trans n5) hi]
  |_=>rw[e]at hm;exact hm.elim
 ·unfold fnI SRes.fin at hk;cases e:m (XB N.length ivs) h with
  |next σ2 h2=>rw[e]at hk;exact λσ3 H3 ι3 R3 _ n3=>hk .non H3 ι3 R3 n3 rfl
  |ret v h2=>rw[e]at hk;exact hk
  |exc j σ2 h2=>
   rw[e]at hk;dsimp only at hk;cases q:h2[j]? with|none=>rw[q]at hk;exact hk.elim|some o=>cases o with|exc c fs=>rw[q]at hk;exact#[#[c,fs,q],hk]|_=>rw[q]at hk;exact hk.elim
  |_=>rw[e]at hk;exact hk.elim
end
noncomputable def Res.nx {α:Type}:Res α->Res α|.ok a h=>.ok a h|_=>.stuck
def Jl(f:Tx->IH->Res IV)(dvs:Tx)(a:A1):E1:=λσ h=>(a σ h).bind λvs h1=>f (vs++dvs) h1
def Q5(c:Str)(f:Tx->IH->Res IV)(dvs:Tx)(a:A1):E1:=λσ h=>(a σ h).bind λvs h1=>(f (.ref h1.length::(vs++dvs))<|h1++[.ins c []]).bind λr h2=>match r with|.non=>.ok (.ref h1.length) h2|_=>.stuck
def Js1(m:Str)(disp:Str->Option ((Tx->IH->Res IV)×Tx))(o:E1)(a:A1):E1:=λσ h=>(o σ h).bind λv h1=>match v with|.ref i=>(match h1[i]? with|some (.ins c fs)=>(match disp c,fs.lookup m with|some (f,dvs),Zd=>(a σ h1).bind λvs h2=>f (.ref i::(vs++dvs)) h2|_,_=>.stuck)|_=>.stuck)|_=>.stuck
section
variable{ce:CeT}{X:Cx}{k:Nat}{fa C:Zo}{fd:Zbc}{ps:Tk}{f:Tx->IH->Res IV}{dvs:Tx}{ds:Tv}{x m:Str}{p pos apos:Pos}{e o:Expr}{es:Td}{mo:E1}{ma:A1}
theorem Yp{pj:PnT}{σ:L2.St}{H:Hp}{ι:Tw}{σi:ISt}{h:IH}{s:Zk}{Q E:QvT}{us:Tv}{xs:Tx}(F:FnOk X.prog X.w X.K X.mg X.base (CXI X.prog X.w) k fa fd ps<|spI ce X.K ps f)(hr:Room k X.A)(hb:Qh X.K fd ps ds) (hd:∃vs,Vals vs ds/\∀ι H,RVs X.K ι H dvs vs)(hlen:us.length+ds.length=ps.length)(N:Now ce X pj ι σi h σ H s)(r:RUs X.K ι H xs us)(K:Kont ce X RU pj ι σi σ H (f (xs++dvs) h) Q E):Zt (Zz X.prog X.w) X.A (call (.ref fa) us) Q E s:=by
 obtain⟨vs,rv,q⟩:=r;obtain⟨dv,rd,qd⟩:=hd;have hl1:=rv.length;have hl2:=rd.length;refine Zar (Jyk (Q:=λz H'=>∀u s',Inv X pj σ H' s'->RelV z u->Q u s') (E:=λv _ H'=>∀s',Inv X pj σ H' s'->E v s') F hr hb rd N.inv rv #[by rw[Z7];lia,ι,h,xs++dvs,N.rel,q.append<|qd ι H,?_] λ_ s' _ I' z=>z s' I') (λu s' ⟨z,H',I',r',k'⟩=>k' u s' I' r') λ_ _ z=>z
 cases e:f (xs++dvs) h with|ok v h'=>rw[e]at K;exact λz H' ι' R' n' qz u s' I' ru=>K u s' H' ι' #[I',R',N.st.mono n'] n' #[z,ru,qz]|exc n h'=>rw[e]at K;exact λa H' ι' R' n' hi s' I'=>K [] a s' H' ι' #[by simpa using I',R',N.st.mono n'] n' hi|stuck=>rw[e]at K;exact K
theorem J0p(F:FnOk X.prog X.w X.K X.mg X.base (CXI X.prog X.w) k fa fd ps<|spI ce X.K ps f)(hr:Room k X.A)(hg:Gl X x)(hm:X.mg x=Za (.ref fa))(hk:W.keepIn X.K (.ref fa)=Zh)(hb:Qh X.K fd ps ds)(hd:∃vs,Vals vs ds/\∀ι H,RVs X.K ι H dvs vs) (ha:PAi ce X (e::es) ma)(hlen:∀σ h xs h',ma σ h=.ok xs h'->xs.length+ds.length=ps.length)(hdb:(x==("__debug__":Str))=Zj:=by decide)(he:ZG (e::es) X.env=(Zj,Zby e X.env)::ZG es X.env:=by rfl)(hpl:(Zbz pos<|ZG es X.env).any (·.1)=Zj:=by rfl):PEi ce X (.Call (.Name x p) (e::es) [] pos) (Jl f dvs ma):=by
 intro pj s σ H ι σi h Q E N K;refine Zal<|V4 N.inv hg hm ?_ hdb;refine W.callWith_K (h₀:=X.base) N.inv.ok.mod.kin hk ?_ he hpl;have K':=K;unfold Jl at K';refine ha pos pj s σ H ι σi h _ E N ?_;cases e0:ma σi h with|exc n h'=>rw[e0]at K';exact K'|stuck=>rw[e0]at K';exact K'|ok xs h'=>
  rw[e0]at K';intro us s1 H1 ι1 N1 n1 r1;have hl:xs.length=us.length:=by obtain⟨vs,rv,q⟩:=r1;rw[<-rv.length,q.length]
  exact#[N1.inv.kIn,Yp (us:=us) F hr hb hd (by have:=hlen σi h xs h' e0;lia) N1 r1<|Kont.mono (r:=(f (xs++dvs) h')) K' n1]
theorem Jxl(F:FnOk X.prog X.w X.K X.mg X.base (CXI X.prog X.w) k fa fd ps<|spI ce X.K ps f)(hr:Room k X.A)(hg:Gl X x)(hm:X.mg x=Za (.ref fa))(hk:W.keepIn X.K (.ref fa)=Zh)(hb:Qh X.K fd ps ds)(hd:∃vs,Vals vs ds/\∀ι H,RVs X.K ι H dvs vs) (hlen:ds.length=ps.length)(hdb:(x==("__debug__":Str))=Zj:=by decide):PEi ce X (.Call (.Name x p) [] [] pos) (Jl f dvs Jd):=by intro pj s σ H ι σi h Q E N K;refine Zal<|V4 N.inv hg hm ?_ hdb;exact W.callWith_K0 N.inv.kIn hk (Yp (xs:=[]) F hr hb hd (by simpa using hlen) N .nil K)
theorem Jjw{c:Str}{pj:PnT}{σ:L2.St}{H:Hp}{ι:Tw}{σi:ISt}{h:IH}{s:Zk}{Q E:QvT}{us:Tv}{xs:Tx}(M:Mk X.K C fa)(F:FnOk X.prog X.w X.K X.mg X.base (CXI X.prog X.w) k fa fd ps<|spI ce X.K ps f)(hC:ce c=Za C)(hr:Room (k+1) X.A)(hb:Qh X.K fd ps ds) (hd:∃vs,Vals vs ds/\∀ι H,RVs X.K ι H dvs vs)(hlen:us.length+ds.length+1=ps.length)(N:Now ce X pj ι σi h σ H s)(r:RUs X.K ι H xs us) (K:Kont ce X RU pj ι σi σ H ((f (.ref h.length::(xs++dvs))<|h++[.ins c []]).bind λr h2=>match r with|.non=>.ok (.ref h.length) h2|_=>.stuck) Q E):Zt (Zz X.prog X.w) X.A (call (.ref C) us) Q E s:=by
 obtain⟨vs,rv,q⟩:=r;obtain⟨dv,rd,qd⟩:=hd;have hl1:=rv.length;have hl2:=rd.length;refine Zar (Jrh (Q:=λz H'=>∀u s',Inv X pj σ H' s'->RelV z u->Q u s') (E:=λv _ H'=>∀s',Inv X pj σ H' s'->E v s') M F hr hb rd N.inv rv (λx dx hx hdx hne=>#[by rw[ZN,Z7];lia,?_]) λ_ s' _ I' z=>z s' I') (λu s' ⟨z,H',I',r',k'⟩=>k' u s' I' r') λ_ _ z=>z
 -- the new instance in the reading's heap
 obtain⟨R1,n1⟩:=N.rel.grow (o:=.own x) hdx;have hx1:upd H dx (.own x) x=Zd:=by rw[Jn<|ZP hne];exact hx
 obtain⟨R2,n2⟩:=R1.alloc (o:=.ins C dx []) (io:=.ins c []) hx1 #[C,dx,[],hC,Jz,rfl];have n12:=n1.trans n2;have hat:(ι++[x])[h.length]?=Za x:=by rw[<-N.rel.len,ZE<|Zm _];simp
 refine#[ι++[x],h++[.ins c []],.ref h.length::(xs++dvs),R2,#[_,_,rfl,#[x,rfl,hat],(RVs.mono n12 _ _ q).append<|qd _ _],?_];cases e:f (.ref h.length::(xs++dvs)) (h++[.ins c []])with
 |ok v h'=>rw[e]at K;intro z H' ι' R' n' qz;cases v with|non=>have ez:z=.non:=qz;subst ez;exact#[rfl,λu s' I' ru=>K u s' H' ι' #[I',R',N.st.mono<|n12.trans n'] (n12.trans n') #[.ref x,ru,x,rfl,n'.at hat]]|_=>exact Zf K
 |exc n h'=>rw[e]at K;exact λa H' ι' R' n' hi s' I'=>K [] a s' H' ι' #[by simpa using I',R',N.st.mono<|n12.trans n'] (n12.trans n') hi
 |stuck=>rw[e]at K;exact Zf K
theorem J0u{c:Str}(M:Mk X.K C fa)(F:FnOk X.prog X.w X.K X.mg X.base (CXI X.prog X.w) k fa fd ps<|spI ce X.K ps f)(hC:ce c=Za C)(hr:Room (k+1) X.A)(hg:Gl X x)(hm:X.mg x=Za (.ref C))(hb:Qh X.K fd ps ds)(hd:∃vs,Vals vs ds/\∀ι H,RVs X.K ι H dvs vs) (ha:PAi ce X (e::es) ma)(hlen:∀σ h xs h',ma σ h=.ok xs h'->xs.length+ds.length+1=ps.length)(hdb:(x==("__debug__":Str))=Zj:=by decide)(he:ZG (e::es) X.env=(Zj,Zby e X.env)::ZG es X.env:=by rfl)(hpl:(Zbz pos<|ZG es X.env).any (·.1)=Zj:=by rfl):PEi ce X (.Call (.Name x p) (e::es) [] pos) (Q5 c f dvs ma):=by
 intro pj s σ H ι σi h Q E N K;refine Zal<|V4 N.inv hg hm ?_ hdb;refine W.callWith_K (h₀:=X.base) N.inv.ok.mod.kin M.kp ?_ he hpl;have K':=K;unfold Q5 at K';refine ha pos pj s σ H ι σi h _ E N ?_;cases e0:ma σi h with|exc n h'=>rw[e0]at K';exact K'|stuck=>rw[e0]at K';exact K'|ok xs h'=>
  rw[e0]at K';intro us s1 H1 ι1 N1 n1 r1;have hl:xs.length=us.length:=by obtain⟨vs,rv,q⟩:=r1;rw[<-rv.length,q.length]
  exact#[N1.inv.kIn,Jjw (us:=us) M F hC hr hb hd (by have:=hlen σi h xs h' e0;lia) N1 r1<|Kont.mono (r:=(f (IV.ref h'.length::(xs++dvs))<|h'++[.ins c []]).bind λr h2=>match r with|IV.non=>Res.ok (IV.ref h'.length) h2|_=>Res.stuck) K' n1]
theorem Jxo(M:Mk X.K C fa)(F:FnOk X.prog X.w X.K X.mg X.base (CXI X.prog X.w) k fa fd ps<|spI ce X.K ps f)(hC:ce c=Za C)(hr:Room (k+1) X.A)(hg:Gl X x)(hm:X.mg x=Za (.ref C))(hb:Qh X.K fd ps ds)(hd:∃vs,Vals vs ds/\∀ι H,RVs X.K ι H dvs vs) (hlen:ds.length+1=ps.length)(hdb:(x==("__debug__":Str))=Zj:=by decide):PEi ce X (.Call (.Name x p) [] [] pos) (Q5 c f dvs Jd):=by intro pj s σ H ι σi h Q E N K;refine Zal<|V4 N.inv hg hm ?_ hdb;exact W.callWith_K0 N.inv.kIn M.kp (Jjw (xs:=[]) M F hC hr hb hd (by simpa using hlen) N .nil K)
def Jol(ce:CeT)(X:Cx)(m:Str)(n:Nat)(disp:Str->Option ((Tx->IH->Res IV)×Tx)):Prop:=∀c f dvs,disp c=Za (f,dvs)->∃(C fa:Zo)(fd:Zbc)(k:Nat)(ps:Tk)(ds:Tv),ce c=Za C/\Cls X.K C/\Meth X.K C m fa/\FnOk X.prog X.w X.K X.mg X.base (CXI X.prog X.w) k fa fd ps (spI ce X.K ps f)/\Room k X.A/\Qh X.K fd ps ds/\(∃vs,Vals vs ds/\∀ι H,RVs X.K ι H dvs vs)/\n+ds.length+1=ps.length
theorem J0w{n:Nat}{disp:Str->Option ((Tx->IH->Res IV)×Tx)}{pl:Sem Bool}(ho:PEi ce X o mo)(hd:Jol ce X m n disp)(ha:PAi ce X (e::es) ma)(hlen:∀σ h xs h',ma σ h=.ok xs h'->xs.length=n) (hst:ZG (e::es) X.env=(Zj,Zby e X.env)::ZG es X.env:=by rfl)(hpl:(Zbz pos<|ZG es X.env).any (·.1)=Zj:=by rfl) (ht:Zby (.Call (.Attribute o m apos) (e::es) [] pos) X.env=(do
   let ov<-Zby o X.env
   ZfJ apos.atName
   let (f,first)<-Zce [ov] (ZeF ov m pl)
   callWith pos f first (Zbz pos<|ZG (e::es) X.env) (ZeM pos<|Zdw [] X.env)):=by rfl):
  PEi ce X (.Call (.Attribute o m apos) (e::es) [] pos) (Js1 m disp mo ma):=by
 intro pj s σ H ι σi h Q E N K;refine W.methodCall_KW (pl:=pl) (ho.run N K λv h1 u s1 H1 ι1 N1 n1 r1 K1=>?_) ht;cases v with
 |ref i=>
  obtain⟨w,rw',a,e1,hi⟩:=r1;subst e1;cases rw';dsimp only at K1;cases hh:h1[i]? with|none=>rw[hh]at K1;exact Zf K1|some ob=>
   cases ob with
   |ins c fs=>
    rw[hh]at K1;dsimp only at K1;cases hd1:disp c with|none=>rw[hd1]at K1;exact Zf K1|some fd1=>
     obtain⟨f,dvs⟩:=fd1;cases hl:fs.lookup m with|some z=>rw[hd1,hl]at K1;exact Zf K1|none=>
      rw[hd1,hl]at K1;dsimp only at K1;obtain⟨C,fa,fd,k,ps,ds,hC,cl,hm,F,hr,hb,hdv,hn⟩:=hd c f dvs hd1;obtain⟨C',dx,vs,hC',hH,rp⟩:=N1.at hh hi;rw[hC]at hC';cases hC';refine Jgz N1.inv hH cl hm ((RPs.lookup rp).2 hl) ?_;refine W.callWith_K (first:=[.ref a]) (h₀:=X.base) N1.inv.ok.mod.kin hm.kp ?_ hst hpl;refine ha pos pj s1 σ H1 ι1 σi h1 _ E N1 ?_;cases e0:ma σi h1 with|exc n h'=>rw[e0]at K1;exact K1|stuck=>rw[e0]at K1;exact K1|ok xs h'=>
       rw[e0]at K1;intro us s2 H2 ι2 N2 n2 r2;have hl:xs.length=us.length:=by obtain⟨vs,rv,q⟩:=r2;rw[<-rv.length,q.length]
       have hl2:=hlen σi h1 xs h' e0;refine#[N2.inv.kIn,Yp (us:=.ref a::us) (xs:=.ref i::xs) F hr hb hdv (by rw[ZN];lia) N2 (.cons #[.ref a,rfl,a,rfl,n2.at hi] r2) ?_];exact Kont.mono (r:=(f (.ref i::(xs++dvs)) h')) K1 n2
   |_=>rw[hh]at K1;exact Zf K1
 |_=>exact Zf K1
theorem Jxp{disp:Str->Option ((Tx->IH->Res IV)×Tx)}{pl:Sem Bool}(ho:PEi ce X o mo)(hd:Jol ce X m 0 disp) (ht:Zby (.Call (.Attribute o m apos) [] [] pos) X.env=(do
   let ov<-Zby o X.env
   ZfJ apos.atName
   let (f,first)<-Zce [ov] (ZeF ov m pl)
   callWith pos f first (Zbz pos<|ZG [] X.env) (ZeM pos<|Zdw [] X.env)):=by rfl):
  PEi ce X (.Call (.Attribute o m apos) [] [] pos) (Js1 m disp mo Jd):=by
 intro pj s σ H ι σi h Q E N K;refine W.methodCall_KW (pl:=pl) (ho.run N K λv h1 u s1 H1 ι1 N1 n1 r1 K1=>?_) ht;cases v with
 |ref i=>
  obtain⟨w,rw',a,e1,hi⟩:=r1;subst e1;cases rw';dsimp only at K1;cases hh:h1[i]? with|none=>rw[hh]at K1;exact Zf K1|some ob=>
   cases ob with
   |ins c fs=>
    rw[hh]at K1;dsimp only at K1;cases hd1:disp c with|none=>rw[hd1]at K1;exact Zf K1|some fd1=>obtain⟨f,dvs⟩:=fd1;cases hl:fs.lookup m with|some z=>rw[hd1,hl]at K1;exact Zf K1|none=>rw[hd1,hl]at K1;dsimp only at K1;obtain⟨C,fa,fd,k,ps,ds,hC,cl,hm,F,hr,hb,hdv,hn⟩:=hd c f dvs hd1;obtain⟨C',dx,vs,hC',hH,rp⟩:=N1.at hh hi;rw[hC]at hC';cases hC';refine Jgz N1.inv hH cl hm ((RPs.lookup rp).2 hl) ?_;exact W.callWith_K0 (first:=[.ref a]) N1.inv.kIn hm.kp (Yp (us:=[.ref a]) (xs:=[.ref i]) F hr hb hdv (by rw[ZN,ZbZ];lia) N1 (.cons #[.ref a,rfl,a,rfl,hi] .nil) K1)
   |_=>rw[hh]at K1;exact Zf K1
 |_=>exact Zf K1
def Jj(f:Str)(o:E1):E1:=λσ h=>(o σ h).bind λv h1=>match v with|.ref i=>(match h1[i]? with|some (.ins _ fs)=>(match fs.lookup f with|some x=>.ok x h1|none=>.stuck)|_=>.stuck)|_=>.stuck
def XQ(ce:CeT)(K:W.Frag)(f:Str):Prop:=∀c C,ce c=Za C->Cls K C/\Qz K C f
theorem J38(ho:PEi ce X o mo)(hf:XQ ce X.K fl)(hb:ZdL o fl X.env (Zby o X.env)=Zby o X.env:=by rfl):PEi ce X (.Attribute o fl pos) (Jj fl mo):=by
 intro pj s σ H ι σi h Q E N K;refine Jwu hb<|ho.run N K λv h1 u s1 H1 ι1 N1 n1 r1 K1=>?_
 cases v with
 |ref i=>
  obtain⟨w,rw',a,e1,hi⟩:=r1;subst e1;cases rw';dsimp only at K1;cases hh:h1[i]? with|none=>rw[hh]at K1;exact Zf K1|some ob=>
   cases ob with
   |ins c fs=>rw[hh]at K1;dsimp only at K1;cases hl:fs.lookup fl with|none=>rw[hl]at K1;exact Zf K1|some z=>rw[hl]at K1;obtain⟨C,dx,vs,hC,hH,rp⟩:=N1.at hh hi;obtain⟨cl,na⟩:=hf c C hC;obtain⟨y,hy,q⟩:=(RPs.lookup rp).1 z hl;exact Jgy N1.inv hH cl na hy λu' s2 I2 ru=>K1 u' s2 H1 ι1 #[I2,N1.rel,N1.st] .refl #[y,ru,q]
   |_=>rw[hh]at K1;exact Zf K1
 |_=>exact Zf K1
noncomputable def putI (f:Str)(v:IV):Wl->Wl|[]=>[(f,v)]|(g,x)::r=>if g=f then(g,v)::r else(g,x)::putI f v r
theorem RPs.put{K:W.Frag}{ι:Tw}{H:Hp}{fl:Str}{v:IV}{y:V}(q:RV K ι H v y):∀{fs:Wl}{vs:Wr},RPs K ι H fs vs->RPs K ι H (putI fl v fs) (putF fl y vs)
 |[],_,h=>by have e:_=[]:=h;subst e;exact#[y,[],rfl,q,rfl]
 |(g,x)::r,_,h=>by
  obtain⟨w,vr,e,qx,t⟩:=h;subst e;show RPs K ι H (if g=fl then(g,v)::r else(g,x)::putI fl v r) (if g=fl then(g,y)::vr else(g,w)::putF fl y vr);by_cases hg:g=fl
  ·rw[if_pos hg,if_pos hg];exact#[y,vr,rfl,q,t]
  ·rw[if_neg hg,if_neg hg];exact#[w,_,rfl,qx,RPs.put q t]
def JN(f:Str)(o e:E1):S1:=λσ h=>rS σ (e σ h) λv h1=>rS σ (o σ h1) λov h2=>match ov with
 |.ref i=>(match h2[i]? with
  |some (.ins c fs)=>if fs.length<1000 then .next σ (h2.set i<|.ins c<|putI f v fs)else .stuck
  |_=>.stuck)
 |_=>.stuck
theorem J44{fl:Str}{value:Expr}{mv:E1}{pos':Pos}(ho:PEi ce X o mo)(hv:PEi ce X value mv)(hf:XQ ce X.K fl)(hs:Zeh value (Za<|.Attribute o fl pos') pos.line X.env=pure Zj:=by rfl):PS1 ce X (.Assign [.Attribute o fl pos'] value pos) (JN fl mo mv):=by
 intro pj s σ H ι σi h Q E N K;refine plainObj_wpAny_Assign_Attribute (krun hv N K λv h1 u s1 H1 ι1 N1 n1 r1 K1=>krun ho N1 K1 λov h2 w s2 H2 ι2 N2 n2 r2 K2=>?_) hs;cases ov with
 |ref i=>
  obtain⟨w,rw',a,e1,hi⟩:=r2;subst e1;cases rw';dsimp only at K2;cases hh:h2[i]? with|none=>rw[hh]at K2;exact Zf K2|some ob=>
   cases ob with
   |ins c fs=>
    rw[hh]at K2;dsimp only at K2;split at K2
    ·rename_i hz;obtain⟨C,dx,vs,hC,hH,rp⟩:=N2.at hh hi;obtain⟨cl,na⟩:=hf c C hC;obtain⟨y,ry,q⟩:=r1;refine Jg4 N2.inv hH cl na (by rw[rp.length];exact hz) ry λs3 I3=>?_
     have n3:Nxt ι2 H2 ι2 (upd H2 a<|.ins C dx<|putF fl y vs):=#[#[[],03],Ext.upd_mut hH<|by rw[hH];exact Za8];obtain⟨R3,_⟩:=N2.rel.write (o:=.ins C dx<|putF fl y vs) (io:=.ins c<|putI fl v fs) hi hH (by rw[hH];exact Za8) #[C,dx,_,hC,Jz,RPs.put (RV.mono (n2.trans n3) _ _ q)<|RPs.mono n3 _ _ rp];exact K2 s3 σ _ ι2 #[I3,R3,N2.st.mono n3] n3
    ·exact Zf K2
   |_=>rw[hh]at K2;exact Zf K2
 |_=>exact Zf K2
end
section
variable{ce:CeT}{X:Cx}{a b c:Expr}{ma mb mc:E1}{pos:Pos}
def Jg:IV->IV->IH->Res IV
 |.ref i,.int k,h=>match h[i]? with
  |some (.lst xs)=>(match atI xs k with
   |some v=>.ok v h
   |none=>.stuck)
  |_=>.stuck
 |.rol xs,.int k,h=>match atI xs k with
  |some v=>.ok v h
  |none=>.stuck
 |.tup xs,.int k,h=>match atI xs k with
  |some v=>.ok v h
  |none=>.stuck
 |.str x,.int k,h=>if x.length<=sizeLine then(match atI x.cps.toList k with
  |some c=>.ok (.str ⟨#[c]⟩) h
  |none=>.stuck)else .stuck
 |_,_,_=>.stuck
theorem Jhh{K:W.Frag}{ι:Tw}{H:Hp}{xs:Tx}{vs:Ud}{k:Int}{v:IV}(r:RVs K ι H xs vs)(e:atI xs k=Za v):∃u,atI vs k=Za u/\RV K ι H v u:=by unfold atI at e ⊢;rw[r.length];cases q:ixN xs.length k with|none=>rw[q]at e;cases e|some j=>rw[q]at e;exact r.get e
def IxI(ce:CeT)(X:Cx)(g:IV->IV->IH->Res IV):Prop:=∀(value slice:Expr)(pj:PnT)(s:Zk)(σ:L2.St)(H:Hp)(ι:Tw)(σi:ISt)(h:IH)(x y:IV)(v u:Zg)(Q:QvT)(E:QvT),Now ce X pj ι σi h σ H s->RU X.K ι H x v->RU X.K ι H y u ->Kont ce X RU pj ι σi σ H (g x y h) Q E->Zf3 slice Zj v u=operate [v,u] (ZeX v u)->Zt (Zz X.prog X.w) X.A (Ze3 value slice v u) Q E s
theorem Jmt{pj:PnT}{s:Zk}{σ:L2.St}{H:Hp}{Q E:QvT}{r:R2}{value slice:Expr}{x y:V}{v u:Zg}(p:IxR (X.wish E) r)(I:Inv X pj σ H s)(rx:RelV x v)(ry:RelV y u) (k:r x y H λz H'=>∀u s',Inv X pj σ H' s'->RelV z u->Q u s')(hs:Zf3 slice Zj v u=operate [v,u] (ZeX v u)):Zt (Zz X.prog X.w) X.A (Ze3 value slice v u) Q E s:=Zar (p value slice pj s σ H x y v u _ (I.wish E) rx ry k hs) (λu s' ⟨_,_,I',r,q⟩=>q u s' I'.unwish r) λ_ _ z=>z
theorem x_ix:IxI ce X Jg:=by
 intro value slice pj s σ H ι σi h x y v u Q E N rx ry K hs;obtain⟨xv,rx,qx⟩:=rx;obtain⟨yv,ry,qy⟩:=ry;cases y with
 |int k=>
  have e2:yv=.int k:=qy;subst e2;cases x with
  |ref i=>
   obtain⟨a,e1,ha⟩:=qx;subst e1;dsimp only[Jg]at K;cases hi:h[i]? with|none=>rw[hi]at K;exact Zf K|some ob=>
    rw[hi]at K;cases ob with
    |lst xs=>dsimp only at K;cases hk:atI xs k with|none=>rw[hk]at K;exact Zf K|some z=>rw[hk]at K;obtain⟨vs,e1,r1⟩:=N.at hi ha;obtain⟨w,hw,qw⟩:=Jhh r1 hk;exact Jmt (Jqk (X:=X.wish E)) N.inv rx ry #[a,vs,k,w,rfl,rfl,SqL.of e1,hw,fin0 N K qw] hs
    |_=>exact Zf K
  |rol xs=>obtain⟨a,vs,e1,sa,ra⟩:=qx;subst e1;dsimp only[Jg]at K;cases hk:atI xs k with|none=>rw[hk]at K;exact Zf K|some z=>rw[hk]at K;obtain⟨w,hw,qw⟩:=Jhh ra hk;exact Jmt (Jqk (X:=X.wish E)) N.inv rx ry #[a,vs,k,w,rfl,rfl,sa.sq,hw,fin0 N K qw] hs
  |tup xs=>obtain⟨a,vs,e1,sa,ra⟩:=qx;subst e1;dsimp only[Jg]at K;cases hk:atI xs k with|none=>rw[hk]at K;exact Zf K|some z=>rw[hk]at K;obtain⟨w,hw,qw⟩:=Jhh ra hk;exact Jmt (J07 (X:=X.wish E)) N.inv rx ry #[a,vs,k,w,rfl,rfl,sa,hw,fin0 N K qw] hs
  |str x=>
   have e1:xv=.str x:=qx;subst e1;dsimp only[Jg]at K;split at K
   ·rename_i hz;cases hk:atI x.cps.toList k with|none=>rw[hk]at K;exact Zf K|some z=>rw[hk]at K;exact Jmt (J06 (X:=X.wish E)) N.inv rx ry #[x,k,z,rfl,rfl,hz,hk,fin0 N K rfl] hs
   ·exact Zf K
  |_=>exact Zf K
 |_=>cases x<;>exact Zf K
theorem i_ix(hg:IxI ce X g)(ha:PEi ce X a ma)(hb:PEi ce X b mb)(hs:Jom b:=by intro _ _;rfl):PEi ce X (.Subscript a b pos) (Jc g ma mb):=λpj s σ H ι σi h Q E N K=>
 Subscript_ (ha.run N K λx h1 u s1 H1 ι1 N1 n1 r1 K1=>hb.run N1 K1 λy h2 w s2 H2 ι2 N2 n2 r2 K2=>hg a b pj s2 σ H2 ι2 σi h2 x y u w Q E N2 (r1.mono n2) r2 K2<|hs _ _)
abbrev O1:=ISt->IH->Res (Wx)
def J3k:REL (Wx) Zg:=λ_ _ _ o u=>Zgl u o
def PPi(ce:CeT)(X:Cx)(e:Wt)(m:O1):Prop:=PX ce X J3k (evalPart e X.env) m
noncomputable def Jx9:O1:=λ_ h=>.ok Zd h
def Vn(e:E1):O1:=λσ h=>(e σ h).bind λv h1=>match v with|.int i=>.ok (Za i) h1|_=>.stuck
theorem J12:PPi ce X Zd Jx9:=by intro pj s σ H ι σi h Q E N K;rw[evalPart_none];exact Zn<|K _ s H ι N .refl .none
theorem J13(ha:PEi ce X a ma):PPi ce X (Za a) (Vn ma):=by
 intro pj s σ H ι σi h Q E N K;rw[evalPart_some];refine ha.run N K λx h1 u s1 H1 ι1 N1 n1 r1 K1=>?_
 cases x with|int i=>obtain⟨w,rw',q⟩:=r1;have e:w=.int i:=q;subst e;obtain⟨t,rfl⟩:=rw';exact K1 _ s1 H1 ι1 N1 .refl<|.int i t|_=>exact Zf K1
def cutI{α:Type}(xs:List α)(lo hi:Wx):List α:=(xs.drop<|HT.sIx xs.length 0 lo).take<|HT.sIx xs.length xs.length hi-HT.sIx xs.length 0 lo
def slI:IV->Wx->Wx->IH->Res IV
 |.ref i,lo,hi,h=>match h[i]? with
  |some (.lst xs)=>.ok (.ref h.length)<|h++[.lst<|cutI xs lo hi]
  |_=>.stuck
 |.rol xs,lo,hi,h=>.ok (.ref h.length)<|h++[.lst<|cutI xs lo hi]
 |_,_,_,_=>.stuck
theorem RVs.cut{K:W.Frag}{ι:Tw}{H:Hp}{xs:Tx}{vs:Ud}(r:RVs K ι H xs vs)(lo hi:Wx):RVs K ι H (cutI xs lo hi) (cutV vs lo hi):=by unfold cutI cutV;rw[r.length];exact(r.drop _).take _
def eSl(f:IV->Wx->Wx->IH->Res IV)(e:E1)(lo hi:O1):E1:=λσ h=>(e σ h).bind λx h1=>(lo σ h1).bind λl h2=>(hi σ h2).bind λu h3=>f x l u h3
def SlI(ce:CeT)(X:Cx)(g:IV->Wx->Wx->IH->Res IV):Prop:=∀(pj:PnT)(s:Zk)(σ:L2.St)(H:Hp)(ι:Tw)(σi:ISt)(h:IH)(x:IV)(v vl vu:Zg)(lo hi:Wx)(sl:Zo)(Q:QvT)(E:QvT),Now ce X pj ι σi h σ H s->RU X.K ι H x v->s.heap.IsSliceOf sl vl vu .none->Zgl vl lo->Zgl vu hi ->Kont ce X RU pj ι σi σ H (g x lo hi h) Q E->∃T id,ZfP (.type T) "__getitem__"=pure (Za<|.builtin id)/\s.TypeIs v T/\Zt (Zz X.prog X.w) X.A (ZeX v<|.ref sl) Q E s
theorem Jwj{pj:PnT}{s:Zk}{σ:L2.St}{H:Hp}{Q E:QvT}{r:V->Wx->Wx->Hp->VK->Prop}{x:V}{v vl vu:Zg}{lo hi:Wx}{sl:Zo}(p:SlR (X.wish E) r)(I:Inv X pj σ H s)(rx:RelV x v) (hs:s.heap.IsSliceOf sl vl vu .none)(pl:Zgl vl lo)(pu:Zgl vu hi)(k:r x lo hi H λz H'=>∀u s',Inv X pj σ H' s'->RelV z u->Q u s'):∃T id,ZfP (.type T) "__getitem__"=pure (Za<|.builtin id)/\s.TypeIs v T/\Zt (Zz X.prog X.w) X.A (ZeX v<|.ref sl) Q E s:=by obtain⟨T,id,h1,h2,h3⟩:=p pj s σ H x v vl vu lo hi sl _ (I.wish E) rx hs pl pu k;exact#[T,id,h1,h2,Zar h3 (λu s' ⟨_,_,I',r,q⟩=>q u s' I'.unwish r) λ_ _ z=>z]
theorem Jxq{g:IV->Wx->Wx->IH->Res IV}{lo hi:Wt}{ml mh:O1}{p2:Pos}(hr:SlI ce X g)(he:PEi ce X a ma)(hl:PPi ce X lo ml)(hu:PPi ce X hi mh):PEi ce X (.Subscript a (.Slice lo hi Zd p2) pos) (eSl g ma ml mh):=by
 intro pj s σ H ι σi h Q E N K;refine Subscript_<|he.run N K λx h1 v s1 H1 ι1 N1 n1 r1 K1=>?_
 refine wpAny_Slice<|PX.run hl N1 K1 λl h2 vl s2 H2 ι2 N2 n2 pl K2=>PX.run hu N2 K2 λu h3 vu s3 H3 ι3 N3 n3 pu K3=>?_
 rw[evalPart_none];refine Zn ?_;have I4:Inv X pj σ H3 {s3 with heap:=s3.heap.push {cls:=.type "slice",data:=.fields (Zay [vl,vu,.none])} }:=N3.inv.kept (t':=s3.toks) λb ob q=>Ze _ q
 obtain⟨T,id,hT,ht,hg⟩:=hr pj {s3 with heap:=s3.heap.push {cls:=.type "slice",data:=.fields (Zay [vl,vu,.none])} } σ H3 ι3 σi h3 x v vl vu l u s3.heap.objs.size Q E #[I4,N3.rel,N3.st] ((r1.mono n2).mono n3) (Heap.IsSliceOf.new ..) pl pu K3;show Zt (Zz X.prog X.w) X.A (Ze3 a (.Slice lo hi Zd p2) v<|.ref s3.heap.objs.size) Q E {s3 with heap:=s3.heap.push {cls:=.type "slice",data:=.fields (Zay [vl,vu,.none])} };exact tail_any (ops:=[.ref s3.heap.objs.size,v]) ht hT hg<|by with_unfolding_all rfl
def eCB(f:Tx->IH->Res IV)(a:A1):E1:=λσ h=>(a σ h).bind f
variable{es:Td}{mr:A1}{x:Str}{p:Pos}{id T:String}{g:Tx->IH->Res IV}
theorem V3(hc:Qr ce X (.builtin id) g)(hg:Gl X x)(hm:X.mg x=Zd)(hv:ZbO x=Za (.builtin id))(ha:PAi ce X (a::es) mr)(hn:x≠"__name__":=by decide)(hdb:(x==("__debug__":Str))=Zj:=by decide) (he:ZG (a::es) X.env=(Zj,Zby a X.env)::ZG es X.env:=by rfl)(hpl:(Zbz pos<|ZG es X.env).any (·.1)=Zj:=by rfl):PEi ce X (.Call (.Name x p) (a::es) [] pos) (eCB g mr):=λpj s σ H ι σi h Q E N K=>
 Zal (Qp N.inv hg hm hv (Zb8 ((ha pos).run N K λxs h1 us s1 H1 ι1 N1 n1 r1 K1=>hc pj s1 σ H1 ι1 σi h1 xs us Q E N1 r1 K1) he hpl) hn hdb)
theorem Jp8(hc:Qr ce X (.type T) g)(hg:Gl X x)(hm:X.mg x=Zd)(hv:ZbO x=Za (.type T))(ha:PAi ce X (a::es) mr)(hn:x≠"__name__":=by decide)(hdb:(x==("__debug__":Str))=Zj:=by decide) (he:ZG (a::es) X.env=(Zj,Zby a X.env)::ZG es X.env:=by rfl)(hpl:(Zbz pos<|ZG es X.env).any (·.1)=Zj:=by rfl):PEi ce X (.Call (.Name x p) (a::es) [] pos) (eCB g mr):=λpj s σ H ι σi h Q E N K=>
 Zal (Qp N.inv hg hm hv (ZaP ((ha pos).run N K λxs h1 us s1 H1 ι1 N1 n1 r1 K1=>hc pj s1 σ H1 ι1 σi h1 xs us Q E N1 r1 K1) he hpl) hn hdb)
def on1(f:IV->IH->Res IV):Tx->IH->Res IV|[x],h=>f x h|_,_=>.stuck
def on2(f:IV->IV->IH->Res IV):Tx->IH->Res IV|[x,y],h=>f x y h|_,_=>.stuck
theorem RVs.one_of{K:W.Frag}{ι:Tw}{H:Hp}{x:IV}{vs:Ud}(r:RVs K ι H [x] vs):∃v,vs=[v]/\RV K ι H x v:=by obtain⟨v,r',e,q,q2⟩:=r;have e2:r'=[]:=q2;subst e2;exact#[v,e,q]
theorem RVs.two_of{K:W.Frag}{ι:Tw}{H:Hp}{x y:IV}{vs:Ud}(r:RVs K ι H [x,y] vs):∃v w,vs=[v,w]/\RV K ι H x v/\RV K ι H y w:=by obtain⟨v,r',e,q,r2⟩:=r;obtain⟨w,e2,q2⟩:=r2.one_of;subst e2;exact#[v,w,e,q,q2]
theorem Vy{fv:Zg}{f:IV->IH->Res IV}(hh:∀(pj:PnT)(s:Zk)(σ:L2.St)(H:Hp)(ι:Tw)(σi:ISt)(h:IH)(x:IV)(xv:V)(u:Zg)(Q E:QvT),Now ce X pj ι σi h σ H s->RelV xv u->RV X.K ι H x xv ->Kont ce X RU pj ι σi σ H (f x h) Q E->Zt (Zz X.prog X.w) X.A (call fv [u]) Q E s):Qr ce X fv (on1 f):=by intro pj s σ H ι σi h xs us Q E N r K;obtain⟨vs,rv,q⟩:=r;match xs,K with|[x],K=>obtain⟨v,e,qx⟩:=q.one_of;subst e;obtain⟨u,rfl,ru⟩:=QP rv;exact hh pj s σ H ι σi h x v u Q E N ru qx K|[],K=>exact Zf K|_::_::_,K=>exact Zf K
noncomputable def lenI:IV->IH->Res IV
 |.str x,h=>if x.length<=sizeLine then .ok (.int x.length) h else .stuck
 |.tup xs,h=>.ok (.int xs.length) h
 |.rol xs,h=>.ok (.int xs.length) h
 |.ref i,h=>match h[i]? with
  |some (.lst xs)=>.ok (.int xs.length) h
  |_=>.stuck
 |_,_=>.stuck
theorem J3o:Qr ce X (.builtin "len") (on1 lenI):=Vy λpj s σ H ι σi h x xv u Q E N ru qx K=>by
 cases x with
 |str y=>
  have e:xv=.str y:=qx;subst e;dsimp only[lenI]at K;split at K
  ·rename_i hz;exact QO (Je1 (X:=X.wish E)) N.inv (.cons ru .nil) #[_,_,rfl,#[hz,rfl],fin0 N K rfl]
  ·exact Zf K
 |tup xs=>obtain⟨a,vs,e1,sa,ra⟩:=qx;subst e1;exact QO (Je1 (X:=X.wish E)) N.inv (.cons ru .nil) #[_,xs.length,rfl,.inr #[vs,sa,ra.length.symm],fin0 N K rfl]
 |rol xs=>obtain⟨a,vs,e1,sa,ra⟩:=qx;subst e1;exact QO (Je1 (X:=X.wish E)) N.inv (.cons ru .nil) #[_,xs.length,rfl,.inl #[vs,sa.sq,ra.length.symm],fin0 N K rfl]
 |ref i=>
  obtain⟨a,e1,ha⟩:=qx;subst e1;dsimp only[lenI]at K;cases hi:h[i]? with|none=>rw[hi]at K;exact Zf K|some ob=>rw[hi]at K;cases ob with|lst xs=>obtain⟨vs,e1,r1⟩:=N.at hi ha;exact QO (Je1 (X:=X.wish E)) N.inv (.cons ru .nil) #[_,xs.length,rfl,.inl #[vs,SqL.of e1,r1.length.symm],fin0 N K rfl]|_=>exact Zf K
 |_=>exact Zf K
end
def ALen(n:Nat)(m:A1):Prop:=∀σ h xs h',m σ h=.ok xs h'->xs.length=n
theorem Jsn:ALen 0 Jd:=λ_ _ xs _ e=>by unfold Jd at e;cases e;rfl
theorem Jon(hr:ALen n r):ALen (n+1) (Jb e r):=λσ h xs h' q=>by
 unfold Jb at q;cases e1:e σ h with
 |ok x h1=>rw[e1]at q;change (r σ h1).bind (λxs h2=>.ok (x::xs) h2)=_ at q;cases e2:r σ h1 with|ok ys h2=>rw[e2]at q;cases q;rw[ZN,hr σ h1 ys _ e2]|exc n h2=>rw[e2]at q;cases q|stuck=>rw[e2]at q;cases q
 |exc n h1=>rw[e1]at q;cases q
 |stuck=>rw[e1]at q;cases q
def X9(K:W.Frag)(x:Str)(f:Tx->IH->Res IV):Sp:=λvs H Q E=>∀ce,spI ce K [x] f vs H Q E
theorem Js5{P:ZD}{w:ZV}{K:W.Frag}{mg:Str->Wz}{base:Zaw}{k:Nat}{fa:Zo}{fd:Zbc}{x:Str}{f:Tx->IH->Res IV}{ce:CeT}(F:FnOk P w K mg base (CXI P w) k fa fd [x]<|spI ce K [x] f):FnOk P w K mg base (CXI P w) k fa fd [x] (X9 K x f):=F.imp λ_ _ _ _ h=>h ce
noncomputable def toD (h:IH):Nat->IV->Option Zgm
 |0=>λv=>match v with
  |.non=>Za .none
  |.bl b=>Za<|.bool b
  |.int i=>Za<|.int i
  |.str x=>Za<|.str x
  |_=>Zd
 |n+1=>λv=>match v with
  |.non=>Za .none
  |.bl b=>Za<|.bool b
  |.int i=>Za<|.int i
  |.str x=>Za<|.str x
  |.tup xs=>(xs.mapM<|toD h n).map .tuple
  |.rol xs=>(xs.mapM<|toD h n).map .list
  |.ref i=>match h[i]? with
   |some (.lst xs)=>(xs.mapM<|toD h n).map .list
   |_=>Zd
section
variable{ce:CeT}{X:Cx}
theorem Jbv{n:Nat}(N:Now ce X pj ι σi h σ H s) (ih:∀(v:IV)(d:Zgm)(x:V)(u:Zg),toD h n v=Za d->RV X.K ι H v x->RelV x u->∃as,Reads s.heap u d as):∀(xs:Tx)(ds:List Zgm)(vs:Ud)(us:Tv),xs.mapM (toD h n)=Za ds->RVs X.K ι H xs vs->Vals vs us->∃as,ReadsAll s.heap us ds as
 |[],ds,vs,us,e,q,r=>by have e1:vs=[]:=q;subst e1;cases r;simp at e;subst e;exact#[_,.nil]
 |x::xs,ds,vs,us,e,q,r=>by
  obtain⟨v,vr,e1,q1,q2⟩:=q;subst e1;cases r with
  |cons r1 r2=>
   rw[List.mapM_cons]at e;cases e2:toD h n x with
   |none=>rw[e2]at e;cases e
   |some d=>
    rw[e2]at e;cases e3:xs.mapM (toD h n)with
    |none=>rw[e3]at e;cases e
    |some dr=>rw[e3]at e;cases e;obtain⟨as,h1⟩:=ih x d v _ e2 q1 r1;obtain⟨bs,h2⟩:=Jbv N ih xs dr vr _ e3 q2 r2;exact#[_,.cons h1 h2]
theorem Je8(N:Now ce X pj ι σi h σ H s):∀(n:Nat)(v:IV)(d:Zgm)(x:V)(u:Zg),toD h n v=Za d->RV X.K ι H v x->RelV x u->∃as,Reads s.heap u d as:=by
 have flat:∀(v:IV)(d:Zgm)(x:V)(u:Zg),toD h 0 v=Za d->RV X.K ι H v x->RelV x u->∃as,Reads s.heap u d as:=by
  intro v d x u e q r;cases v with
  |non=>cases e;have e1:x=.non:=q;subst e1;cases r;exact#[_,.none]
  |bl b=>cases e;have e1:x=.bl b:=q;subst e1;cases r;exact#[_,.bool b]
  |int i=>cases e;have e1:x=.int i:=q;subst e1;obtain⟨t,rfl⟩:=r;exact#[_,.int i t]
  |str z=>cases e;have e1:x=.str z:=q;subst e1;obtain⟨t,rfl⟩:=r;exact#[_,.str z t]
  |_=>cases e
 intro n;induction n with
 |zero=>exact flat
 |succ n ih=>
  intro v d x u e q r;cases v with
  |non=>exact flat .non d x u e q r
  |bl b=>exact flat (.bl b) d x u e q r
  |int i=>exact flat (.int i) d x u e q r
  |str z=>exact flat (.str z) d x u e q r
  |tup xs=>obtain⟨a,vs,e1,sa,ra⟩:=q;subst e1;cases r;obtain⟨ds,e2,rfl⟩:=Z8.mp<|show(xs.mapM<|toD h n).map PyData.tuple=Za d from e;obtain⟨its,rv,⟨o,ho,hc,m,hd⟩,hz⟩:=N.inv.tuple sa;obtain⟨as,h1⟩:=Jbv N ih xs ds vs its e2 ra rv;exact#[_,.tuple ho hc hd h1]
  |rol xs=>obtain⟨a,vs,e1,sa,ra⟩:=q;subst e1;cases r;obtain⟨ds,e2,rfl⟩:=Z8.mp<|show(xs.mapM<|toD h n).map ZdO=Za d from e;obtain⟨its,rv,⟨o,m,ho,hc,_,hd⟩,hz⟩:=N.inv.list sa.sq;obtain⟨as,h1⟩:=Jbv N ih xs ds vs its e2 ra rv;exact#[_,.list ho hc hd h1]
  |ref i=>
   obtain⟨a,e1,ha⟩:=q;subst e1;cases r;have e':(match h[i]? with|some (.lst xs)=>(xs.mapM<|toD h n).map ZdO|_=>Zd)=Za d:=e;cases hi:h[i]? with
   |none=>rw[hi]at e';cases e'
   |some ob=>
    rw[hi]at e';cases ob with
    |lst xs=>obtain⟨ds,e2,rfl⟩:=Z8.mp e';obtain⟨vs,e1,r1⟩:=N.at hi ha;obtain⟨its,rv,⟨o,m,ho,hc,_,hd⟩,hz⟩:=N.inv.list<|SqL.of e1;obtain⟨as,h1⟩:=Jbv N ih xs ds vs its e2 r1 rv;exact#[_,.list ho hc hd h1]
    |_=>cases e'
theorem Jbt(hf:∀v d,f v=Za d->d.depth<=n):∀(xs:Tx)(ds:List Zgm),xs.mapM f=Za ds->PyData.depthAll ds<=n
 |[],ds,e=>by simp at e;subst e;exact ZA _
 |x::xs,ds,e=>by
  rw[List.mapM_cons]at e;cases e2:f x with
  |none=>rw[e2]at e;cases e
  |some d=>
   rw[e2]at e;cases e3:xs.mapM f with
   |none=>rw[e3]at e;cases e
   |some dr=>rw[e3]at e;cases e;have h1:=hf x d e2;have h2:=Jbt hf xs dr e3;show max d.depth (PyData.depthAll dr)<=n;lia
theorem Jkd:∀(n:Nat)(v:IV)(d:Zgm),toD h n v=Za d->d.depth<=n:=by
 intro n;induction n with
 |zero=>intro v d e;cases v<;>cases e<;>exact Zm _
 |succ n ih=>
  intro v d e;cases v with
  |non=>cases e;exact ZA _
  |bl b=>cases e;exact ZA _
  |int i=>cases e;exact ZA _
  |str z=>cases e;exact ZA _
  |tup xs=>obtain⟨ds,e2,rfl⟩:=Z8.mp<|show(xs.mapM<|toD h n).map PyData.tuple=Za d from e;exact ZcU<|Jbt ih xs ds e2
  |rol xs=>obtain⟨ds,e2,rfl⟩:=Z8.mp<|show(xs.mapM<|toD h n).map ZdO=Za d from e;exact ZcU<|Jbt ih xs ds e2
  |ref i=>
   have e':(match h[i]? with|some (.lst xs)=>(xs.mapM<|toD h n).map ZdO|_=>Zd)=Za d:=e;cases hi:h[i]? with
   |none=>rw[hi]at e';cases e'
   |some ob=>
    rw[hi]at e';cases ob with
    |lst xs=>obtain⟨ds,e2,rfl⟩:=Z8.mp e';exact ZcU<|Jbt ih xs ds e2
    |_=>cases e'
noncomputable def X7:IV->IV->Wu|.non,.non=>Za Zh|.int i,.int j=>Za<|decide (i=j)|.str i,.str j=>Za<|decide (i=j)|.bl i,.bl j=>Za<|decide (i=j)|_,_=>Zd
noncomputable def Vz (x y:IV)(h:IH):Wu:=match toD h 6 x,toD h 6 y with|some a,Za b=>if a.canLay0=Zh/\b.canLay0=Zh then Za (PyData.eqv a b)else Zd|_,_=>Zd
noncomputable def cEq (x y:IV)(h:IH):Res IV:=match X7 x y with|some b=>.ok (.bl b) h|none=>match Vz x y h with|some b=>.ok (.bl b) h|none=>.stuck
noncomputable def cNe (x y:IV)(h:IH):Res IV:=match X7 x y with|some b=>.ok (.bl (!b)) h|none=>match Vz x y h with|some b=>.ok (.bl (!b)) h|none=>.stuck
theorem Jl0(e:Vz x y h=Za b):∃da db,toD h 6 x=Za da/\toD h 6 y=Za db/\da.canLay0=Zh/\db.canLay0=Zh/\b=PyData.eqv da db:=by
 unfold Vz at e;cases e1:toD h 6 x with|none=>rw[e1]at e;cases e|some da=>
  cases e2:toD h 6 y with|none=>rw[e1,e2]at e;cases e|some db=>
   rw[e1,e2]at e;dsimp only at e;split at e
   ·rename_i hz;cases e;exact#[da,db,rfl,rfl,hz.1,hz.2,rfl]
   ·cases e
theorem Jka{K:W.Frag}{ι:Tw}{H:Hp}{x y:IV}{b:Bool}{xv yv:V}(e:X7 x y=Za b)(qx:RV K ι H x xv)(qy:RV K ι H y yv):scal xv yv=Zh/\decide (xv=yv)=b:=by
 cases x with
 |non=>cases y with|non=>cases e;cases (show xv=.non from qx);cases (show yv=.non from qy);exact#[rfl,rfl]|_=>cases e
 |int i=>cases y with|int j=>cases e;cases (show xv=.int i from qx);cases (show yv=.int j from qy);exact#[rfl,03]|_=>cases e
 |str i=>cases y with|str j=>cases e;cases (show xv=.str i from qx);cases (show yv=.str j from qy);exact#[rfl,03]|_=>cases e
 |bl i=>cases y with|bl j=>cases e;cases (show xv=.bl i from qx);cases (show yv=.bl j from qy);exact#[rfl,03]|_=>cases e
 |_=>cases y<;>cases e
theorem o_eq(hu:X.A.units+64<cLine):OpI ce X (ZaC .Eq) cEq:=by
 intro pj s σ H ι σi h x y v u Q E N rx ry K;obtain⟨xv,rx,qx⟩:=rx;obtain⟨yv,ry,qy⟩:=ry;unfold cEq at K;cases es:X7 x y with|some b=>rw[es]at K;obtain⟨h1,h2⟩:=Jka es qx qy;exact JZ (J4r (X:=X.wish E)) N.inv rx ry #[h1,by rw[h2];exact fin0 N K rfl]|none=>rw[es]at K;dsimp only at K;cases ed:Vz x y h with|none=>rw[ed]at K;exact Zf K|some b=>rw[ed]at K;obtain⟨da,db,e1,e2,c1,c2,rfl⟩:=Jl0 ed;obtain⟨as,r1⟩:=Je8 N 6 x da xv v e1 qx rx;obtain⟨bs,r2⟩:=Je8 N 6 y db yv u e2 qy ry;have d1:=Jkd 6 x da e1;exact PySem.SeqAt.compareEq_reads r1 r2 c1 c2 05<|fin0 N K rfl _ s N.inv rfl
theorem o_ne(hu:X.A.units+64<cLine):OpI ce X (ZaC .NotEq) cNe:=by
 intro pj s σ H ι σi h x y v u Q E N rx ry K;obtain⟨xv,rx,qx⟩:=rx;obtain⟨yv,ry,qy⟩:=ry;unfold cNe at K;cases es:X7 x y with|some b=>rw[es]at K;obtain⟨h1,h2⟩:=Jka es qx qy;exact JZ (J4w (X:=X.wish E)) N.inv rx ry #[h1,by rw[h2];exact fin0 N K rfl]|none=>rw[es]at K;dsimp only at K;cases ed:Vz x y h with|none=>rw[ed]at K;exact Zf K|some b=>rw[ed]at K;obtain⟨da,db,e1,e2,c1,c2,rfl⟩:=Jl0 ed;obtain⟨as,r1⟩:=Je8 N 6 x da xv v e1 qx rx;obtain⟨bs,r2⟩:=Je8 N 6 y db yv u e2 qy ry;have d1:=Jkd 6 x da e1;exact PySem.SeqAt.compareNe_reads r1 r2 c1 c2 05<|fin0 N K rfl _ s N.inv rfl
noncomputable def isI:IV->IV->Wu|.non,.non=>Za Zh|.bl a,.bl b=>Za<|a==b|.bl _,.non=>Za Zj|.int _,.non=>Za Zj|.str _,.non=>Za Zj|.tup _,.non=>Za Zj|.rol _,.non=>Za Zj|.ref _,.non=>Za Zj|.non,.bl _=>Za Zj|.int _,.bl _=>Za Zj|.str _,.bl _=>Za Zj|.tup _,.bl _=>Za Zj|.rol _,.bl _=>Za Zj|.ref _,.bl _=>Za Zj|_,_=>Zd
theorem isR:isI (.ref i) .non=Za Zj:=rfl
theorem isD:isI (.int i) .non=Za Zj:=rfl
theorem isN:isI .non .non=Za Zh:=rfl
noncomputable def cIs (x y:IV)(h:IH):Res IV:=match isI x y with|some b=>.ok (.bl b) h|none=>.stuck
noncomputable def Jlv (x y:IV)(h:IH):Res IV:=match isI x y with|some b=>.ok (.bl (!b)) h|none=>.stuck
theorem Jvu{K:W.Frag}{ι:Tw}{H:Hp}{x y:IV}{b:Bool}{v u:Zg}(e:isI x y=Za b)(rx:RU K ι H x v)(ry:RU K ι H y u):plainIs v u=Zh/\(v==u)=b:=by
 obtain⟨xv,rx,qx⟩:=rx;obtain⟨yv,ry,qy⟩:=ry;cases y with
 |non=>cases (show yv=.non from qy);cases ry;cases x with|non=>cases e;cases (show xv=.non from qx);cases rx;exact#[rfl,rfl]|bl c=>cases e;cases (show xv=.bl c from qx);cases rx;exact#[rfl,rfl]|int c=>cases e;cases (show xv=.int c from qx);obtain⟨t,rfl⟩:=rx;exact#[rfl,rfl]|str c=>cases e;cases (show xv=.str c from qx);obtain⟨t,rfl⟩:=rx;exact#[rfl,rfl]|tup c=>cases e;obtain⟨a,vs,rfl,_⟩:=qx;cases rx;exact#[rfl,rfl]|rol c=>cases e;obtain⟨a,vs,rfl,_⟩:=qx;cases rx;exact#[rfl,rfl]|ref c=>cases e;obtain⟨a,rfl,_⟩:=qx;cases rx;exact#[rfl,rfl]
 |bl d=>cases (show yv=.bl d from qy);cases ry;cases x with|non=>cases e;cases (show xv=.non from qx);cases rx;exact#[rfl,rfl]|bl c=>cases e;cases (show xv=.bl c from qx);cases rx;cases c<;>cases d<;>exact#[rfl,rfl]|int c=>cases e;cases (show xv=.int c from qx);obtain⟨t,rfl⟩:=rx;exact#[rfl,rfl]|str c=>cases e;cases (show xv=.str c from qx);obtain⟨t,rfl⟩:=rx;exact#[rfl,rfl]|tup c=>cases e;obtain⟨a,vs,rfl,_⟩:=qx;cases rx;exact#[rfl,rfl]|rol c=>cases e;obtain⟨a,vs,rfl,_⟩:=qx;cases rx;exact#[rfl,rfl]|ref c=>cases e;obtain⟨a,rfl,_⟩:=qx;cases rx;exact#[rfl,rfl]
 |_=>cases x<;>cases e
theorem o_is:OpI ce X (ZaC .Is) cIs:=by intro pj s σ H ι σi h x y v u Q E N rx ry K;unfold cIs at K;cases ei:isI x y with|none=>rw[ei]at K;exact Zf K|some b=>rw[ei]at K;obtain⟨h1,h2⟩:=Jvu ei rx ry;exact wpAny_is_plain h1<|by rw[h2];exact fin0 N K rfl _ s N.inv rfl
theorem Jya:OpI ce X (ZaC .IsNot) Jlv:=by intro pj s σ H ι σi h x y v u Q E N rx ry K;unfold Jlv at K;cases ei:isI x y with|none=>rw[ei]at K;exact Zf K|some b=>rw[ei]at K;obtain⟨h1,h2⟩:=Jvu ei rx ry;exact wpAny_isNot_plain h1<|by rw[h2];exact fin0 N K rfl _ s N.inv rfl
inductive Ty where|non|bl|int|str|lst|tup|dct|ins (c:Str)|exc (c:Str)
noncomputable def tyI:IV->IH->Option Ty|.non,_=>Za .non|.bl _,_=>Za .bl|.int _,_=>Za .int|.str _,_=>Za .str|.tup _,_=>Za .tup|.rol _,_=>Za .lst|.ref i,h=>match h[i]? with|some (.lst _)=>Za .lst|some (.dct _)=>Za .dct|some (.ins c _)=>Za<|.ins c|_=>Zd
structure ClsI(K:W.Frag)(C:Zo):Prop where
 cl:Cls K C
 ha:W.findIn K (.ref C) "__class__"=Za (Za<|.builtin "object.__class__")
 hn:W.specialIn K (.builtin "object.__class__") "__get__"=Za (Za<|.builtin "getset_descriptor.__get__")
 htk:W.takesIn K (.builtin "object.__class__")=Za Zh
 hm:W.mroIn K C (.type "object")=Za Zh
structure IsOk(ce:CeT)(K:W.Frag)(c:Zg)(ans:Ty->Wu):Prop where
 non:∀b,ans .non=Za b->W.kitOne K (.type "NoneType") c=Za b
 bl:∀b,ans .bl=Za b->W.kitOne K (.type "bool") c=Za b
 int:∀b,ans .int=Za b->W.kitOne K (.type "int") c=Za b
 str:∀b,ans .str=Za b->W.kitOne K (.type "str") c=Za b
 lst:∀b,ans .lst=Za b->W.kitOne K (.type "list") c=Za b
 tup:∀b,ans .tup=Za b->W.kitOne K (.type "tuple") c=Za b
 dct:∀b,ans .dct=Za b->W.kitOne K (.type "dict") c=Za b
 ins:∀k C b,ans (.ins k)=Za b->ce k=Za C->ClsI K C/\W.kitOne K (.ref C) c=Za b
 exc:∀k C b,ans (.exc k)=Za b->W.nsIn K Zu k=Za (Za<|.ref C)->ExI K C/\W.kitOne K (.ref C) c=Za b
def eIsi(ans:Ty->Wu)(e:E1):E1:=λσ h=>(e σ h).bind λv h1=>match (tyI v h1).bind ans with|some b=>.ok (.bl b) h1|none=>.stuck
theorem Jxs{b:Bool}{Q E:QvT}{A:ZH}(N:Now ce X pj ι σi h σ H s)(rx:RU X.K ι H x u)(O:IsOk ce X.K c ans) (e:(tyI x h).bind ans=Za b)(hq:∀tk,Q (.bool b) {s with toks:=tk}):Zt (Zz X.prog X.w) A (call (.builtin "isinstance") [u,c]) Q E s:=by
 obtain⟨xv,rx,qx⟩:=rx;cases x with|non=>cases (show xv=.non from qx);cases rx;exact W.kia_one W.kitx_none N.inv.kIn Za8 (O.non b e) (λz=>nomatch z) hq|bl i=>cases (show xv=.bl i from qx);cases rx;exact W.kia_one W.kitx_bool N.inv.kIn Za8 (O.bl b e) (λz=>nomatch z) hq|int i=>cases (show xv=.int i from qx);obtain⟨t,rfl⟩:=rx;exact W.kia_one W.kitx_int N.inv.kIn Za8 (O.int b e) (λz=>nomatch z) hq|str i=>cases (show xv=.str i from qx);obtain⟨t,rfl⟩:=rx;exact W.kia_one W.kitx_str N.inv.kIn Za8 (O.str b e) (λz=>nomatch z) hq|tup xs=>obtain⟨a,vs,rfl,sa,_⟩:=qx;cases rx;obtain⟨its,rv,⟨o,ho,hc,m,hd⟩,hz⟩:=N.inv.tuple sa;exact W.kia_one W.kitx_tuple N.inv.kIn #[o,ho,hc] (O.tup b e) (λz=>nomatch z) hq|rol xs=>obtain⟨a,vs,rfl,sa,_⟩:=qx;cases rx;obtain⟨its,rv,⟨o,m,ho,hc,_,hd⟩,hz⟩:=N.inv.list sa.sq;exact W.kia_one W.kitx_list N.inv.kIn #[o,ho,hc] (O.lst b e) (λz=>nomatch z) hq|ref i=>
  obtain⟨a,rfl,ha⟩:=qx;cases rx;cases hi:h[i]? with|none=>simp[tyI,hi]at e|some ob=>cases ob with|lst xs=>simp only[tyI,hi]at e;obtain⟨vs,e1,r1⟩:=N.at hi ha;obtain⟨its,rv,⟨o,m,ho,hc,_,hd⟩,hz⟩:=N.inv.list<|SqL.of e1;exact W.kia_one W.kitx_list N.inv.kIn #[o,ho,hc] (O.lst b e) (λz=>nomatch z) hq|dct kvs=>simp only[tyI,hi]at e;obtain⟨vs,e1,r1⟩:=N.at hi ha;obtain⟨_,_,ws,_,p⟩:=(show JG X.prog X.w H s.heap a (.dK vs)from N.inv.hok a _ e1);obtain⟨o,es,ep,h1,h2,_⟩:=p;exact W.kia_one W.kitx_dict N.inv.kIn #[o,h1,h2.1] (O.dct b e) (λz=>nomatch z) hq|ins c fs=>simp only[tyI,hi]at e;obtain⟨C,dx,vs,hC,hH,rp⟩:=N.at hi ha;obtain⟨I,hk⟩:=O.ins c C b e hC;obtain⟨mA,Ob,_⟩:=Jh6 N.inv.hok hH;obtain⟨od,J,_⟩:=Ob.look;exact W.kia_one (W.kitx_own (I.cl.get _) I.cl.hd I.ha I.hn I.htk I.hm) N.inv.kIn J hk (λz=>nomatch z) hq|exc c fs=>simp[tyI,hi]at e|hld c fs=>simp[tyI,hi]at e|tab q=>simp[tyI,hi]at e
variable{a cx:Expr}{ma:E1}{pos p:Pos}
def ClsE(X:Cx)(cx:Expr)(c:Zg):Prop:=∀(pj:PnT)(σ:L2.St)(H:Hp)(s:Zk)(Q E:QvT),Inv X pj σ H s->Q c s->Zt (Zz X.prog X.w) X.A (Zby cx X.env) Q E s
theorem Xe(hg:Gl X x)(hm:X.mg x=Zd)(hv:ZbO x=Za c)(hn:x≠"__name__":=by decide)(hdb:(x==("__debug__":Str))=Zj:=by decide):ClsE X (.Name x p) c:=λ_ _ _ _ _ _ I q=>Qp I hg hm hv q hn hdb
theorem Jpa(hg:Gl X x)(hm:X.mg x=Za c)(hdb:(x==("__debug__":Str))=Zj:=by decide):ClsE X (.Name x p) c:=λ_ _ _ _ _ _ I q=>V4 I hg hm q hdb
theorem J39{ans:Ty->Wu}{c:Zg}(hc:ClsE X cx c)(O:IsOk ce X.K c ans)(ha:PEi ce X a ma)(hg:Gl X "isinstance")(hm:X.mg "isinstance"=Zd)(hv:ZbO "isinstance"=Za (.builtin "isinstance"):=by rfl) (he:ZG [a,cx] X.env=(Zj,Zby a X.env)::ZG [cx] X.env:=by rfl)(he2:ZG [cx] X.env=(Zj,Zby cx X.env)::ZG [] X.env:=by rfl)(hpl:(Zbz pos<|ZG [cx] X.env).any (·.1)=Zj:=by rfl):PEi ce X (.Call (.Name "isinstance" p) [a,cx] [] pos) (eIsi ans ma):=by
 intro pj s σ H ι σi h Q E N K;refine Zal<|Qp N.inv hg hm hv ?_ 01 01;refine Zb8 ?_ he hpl;rw[he];show Zt _ _ (spliced<|(Zj,Zby a X.env)::Zbz pos (ZG [cx] X.env)) _ _ s;refine Zen<|ha.run N K λx h1 u s1 H1 ι1 N1 n1 r1 K1=>?_
 rw[he2];show Zt _ _ (spliced<|(Zj,Zby cx X.env)::Zbz pos (ZG [] X.env)) _ _ s1;refine Zen<|hc pj σ H1 s1 _ E N1.inv ?_;refine Calls.spliced_nil ?_;cases e:(tyI x h1).bind ans with|none=>rw[e]at K1;exact Zf K1|some b=>rw[e]at K1;exact Jxs N1 r1 O e λtk=>K1 _ _ H1 ι1 #[N1.inv.tok tk,N1.rel,N1.st] .refl #[.bl b,rfl,rfl]
def Jop:Ty->Wu|.int=>Za Zh|.bl=>Za Zh|.ins _=>Zd|.exc _=>Zd|_=>Za Zj
def Jhb:Ty->Wu|.bl=>Za Zh|.ins _=>Zd|.exc _=>Zd|_=>Za Zj
def Xc:Ty->Wu|.str=>Za Zh|.ins _=>Zd|.exc _=>Zd|_=>Za Zj
def QT:Ty->Wu|.lst=>Za Zh|.ins _=>Zd|.exc _=>Zd|_=>Za Zj
def Joq:Ty->Wu|.tup=>Za Zh|.ins _=>Zd|.exc _=>Zd|_=>Za Zj
theorem Jqi{K:W.Frag}:IsOk ce K (.type "bool") Jhb:=by refine#[?_,?_,?_,?_,?_,?_,?_,(λk C b e=>by cases e),(λk C b e=>by cases e)]<;>(intro b e;cases e;first|rfl|with_unfolding_all rfl|kernel_rfl)
theorem Jtk{K:W.Frag}:IsOk ce K (.type "str") Xc:=by refine#[?_,?_,?_,?_,?_,?_,?_,(λk C b e=>by cases e),(λk C b e=>by cases e)]<;>(intro b e;cases e;first|rfl|with_unfolding_all rfl|kernel_rfl)
theorem Jjp{K:W.Frag}:IsOk ce K (.type "list") QT:=by refine#[?_,?_,?_,?_,?_,?_,?_,(λk C b e=>by cases e),(λk C b e=>by cases e)]<;>(intro b e;cases e;first|rfl|with_unfolding_all rfl|kernel_rfl)
theorem Jtl{K:W.Frag}:IsOk ce K (.type "tuple") Joq:=by refine#[?_,?_,?_,?_,?_,?_,?_,(λk C b e=>by cases e),(λk C b e=>by cases e)]<;>(intro b e;cases e;first|rfl|with_unfolding_all rfl|kernel_rfl)
theorem Jtj{K:W.Frag}:IsOk ce K (.type "int") Jop:=by refine#[?_,?_,?_,?_,?_,?_,?_,(λk C b e=>by cases e),(λk C b e=>by cases e)]<;>(intro b e;cases e;first|rfl|with_unfolding_all rfl|kernel_rfl)
end
noncomputable def clOf (cells:Wn):Wh->Wn->Wn|[],acc=>acc|(n,k)::r,acc=>clOf cells r (if (k==ZaL)=Zh then(match cells.lookup n with|some c=>(n,c)::acc|none=>acc)else acc)
theorem Jgg{env:Env}(names:Wh)(acc:Wn)(h:∀x∈names,x.2=.free->∃c,env.cells.lookup x.1=Za c):
  (forIn names acc (λ(x:Str×Zb6)(r:Wn)=>if (x.2==ZaL)=Zh then(do let c<-cellOf env x.1;pure (Zbt ((x.1,c)::r)))else pure (Zbt r)):Sem<|Wn)=pure (clOf env.cells names acc):=by
 induction names generalizing acc with|nil=>rfl|cons x r ih=>
  obtain⟨n,k⟩:=x;have ih':=λa=>ih a λy hy=>h y<|Zl _ hy
  rw[List.forIn_cons];by_cases hk:(k==ZaL)=Zh
  ·have hk':k=.free:=by cases k<;>first|rfl|exact absurd hk 01
   obtain⟨c,hc⟩:=h (n,k) Z2 hk';have e1:cellOf env n=pure c:=by unfold cellOf;rw[hc]
   simp only[hk,if_true,e1,pure_bind];rw[ih'];simp only[clOf,hk,if_true,hc]
  ·simp only[hk,Zad,if_false,pure_bind];rw[ih'];simp only[clOf,hk,Zad,if_false]
theorem Jbi{scope:ZbF}{env:Env}(h:∀x∈scope.names,x.2=.free->∃c,env.cells.lookup x.1=Za c):Zeo scope env=pure (clOf env.cells scope.names []):=by have e:=Jgg (env:=env) scope.names [] h;have e2:Zeo scope env=((forIn scope.names [] (λ(x:Str×Zb6)(r:Wn)=>if (x.2==ZaL)=Zh then(do let c<-cellOf env x.1;pure (Zbt ((x.1,c)::r)))else pure (Zbt r)):Sem<|Wn)>>=λs=>pure s):=rfl;rw[e2,e];rfl
theorem Jhp{cells:Wn}:∀(names:Wh)(acc:Wn),(∀x c,acc.lookup x=Za c->cells.lookup x=Za c)->∀x c,(clOf cells names acc).lookup x=Za c->cells.lookup x=Za c
 |[],_,h,x,c,e=>h x c e
 |(n,k)::r,acc,h,x,c,e=>by
  refine Jhp r _ ?_ x c e;intro y d q;split at q
  ·cases hc:cells.lookup n with
   |none=>rw[hc]at q;exact h y d q
   |some a=>
    rw[hc]at q;simp only[Zao]at q;cases hb:y==n with
    |true=>rw[hb]at q;cases q;rw[beq_iff_eq.mp hb];exact hc
    |false=>rw[hb]at q;exact h y d q
  ·exact h y d q
theorem Ji4:∀(names:Wh)(acc:Wn)(x:Str),(acc.lookup x).isSome=Zh->((clOf cells names acc).lookup x).isSome=Zh
 |[],_,_,h=>h
 |(n,k)::r,acc,x,h=>by
  refine Ji4 r _ x ?_;split
  ·cases hc:cells.lookup n with
   |none=>exact h
   |some a=>
    simp only[Zao];cases hb:x==n with
    |true=>rfl
    |false=>exact h
  ·exact h
theorem XX{cells:Wn}:∀(names:Wh)(acc:Wn)(x:Str)(c:Zo),(x,ZaL)∈names->cells.lookup x=Za c->((clOf cells names acc).lookup x).isSome=Zh
 |[],_,_,_,h,_=>by simp at h
 |(n,k)::r,acc,x,c,h,hc=>by
  rcases ZB.mp h with e|e
  ·obtain⟨rfl,rfl⟩:=Prod.mk.inj e;refine Ji4 r _ _ ?_;simp[hc]
  ·exact XX r _ x c e hc
theorem Ja7{env:Env}:∀{names:Wh}{x:Str}{k:Zb6},(names.map λ(n,k)=>if (k==ZaL&&env.scope.kind==.function&&env.kindOf n==Za .cell)then(n,Ze5)else(n,k)).lookup x=Za k ->∃k0,names.lookup x=Za k0/\(k,k0)∈([(k0,k0),(.cell,.free)]:List<|Zb6×Zb6)
 |[],_,_,h=>by simp at h
 |(n,k1)::r,x,k,h=>by
  have ih:=@Ja7 env r x k;have h':Zcc x ((if (k1==ZaL&&env.scope.kind==.function&&env.kindOf n==Za .cell)=Zh then(n,Ze5)else(n,k1))::_)=Za k:=h;cases hx:x==n with
  |true=>
   refine#[k1,by simp[Zao,hx],?_];by_cases hc:(k1==ZaL&&env.scope.kind==.function&&env.kindOf n==Za .cell)=Zh
   ·rw[if_pos hc]at h';simp only[Zao,hx]at h';cases h';simp only[Zp,beq_iff_eq]at hc;rw[hc.1.1];simp
   ·rw[if_neg hc]at h';simp only[Zao,hx]at h';cases h';simp
  |false=>
   have h2:Zcc x (r.map λ(n,k)=>if (k==ZaL&&env.scope.kind==.function&&env.kindOf n==Za .cell)then(n,Ze5)else(n,k))=Za k:=by
    by_cases hc:(k1==ZaL&&env.scope.kind==.function&&env.kindOf n==Za .cell)=Zh
    ·rw[if_pos hc]at h';simpa only[Zao,hx]using h'
    ·rw[if_neg hc]at h';simpa only[Zao,hx]using h'
   obtain⟨k0,e,m⟩:=ih h2;exact#[k0,by simp only[Zao,hx];exact e,m]
theorem Jer{env:Env}:∀{names:Wh}{x:Str},names.lookup x=Za .free ->∃k,(names.map λ(n,k)=>if (k==ZaL&&env.scope.kind==.function&&env.kindOf n==Za .cell)then(n,Ze5)else(n,k)).lookup x=Za k/\(k=.cell∨k=.free)
 |[],_,h=>by simp at h
 |(n,k1)::r,x,h=>by
  have ih:=@Jer env r x;cases hx:x==n with
  |true=>
   simp only[Zao,hx]at h;cases h;by_cases hc:(ZaL==ZaL&&env.scope.kind==.function&&env.kindOf n==Za .cell)=Zh
   ·exact#[.cell,by rw[ZQ];dsimp only;rw[if_pos hc];simp only[Zao,hx],.inl rfl]
   ·exact#[.free,by rw[ZQ];dsimp only;rw[if_neg hc];simp only[Zao,hx],.inr rfl]
  |false=>
   simp only[Zao,hx]at h;obtain⟨k,e,q⟩:=ih h;refine#[k,?_,q];rw[ZQ];dsimp only;by_cases hc:(k1==ZaL&&env.scope.kind==.function&&env.kindOf n==Za .cell)=Zh
   ·rw[if_pos hc];simp only[Zao,hx];exact e
   ·rw[if_neg hc];simp only[Zao,hx];exact e
def cxC(X:Cx)(N':Tk)(scope:ZbF)(C:Zo)(s:Zk)(H:Hp)(fp:Tw):Cx:={X with N:=N',s₀:=s,H₀:=H,env:=compEnvC scope (clOf X.env.cells scope.names []) C X.env,outer:=X.stack,ex:=fp,fn:=λ_=>Zj,pn:=[]}
noncomputable def Q3 (N0 loc caps:Tk)(js:Tq)(sc₀ scope:ZbF):Bool:=decide (scope.kind=.function)&&decide (sc₀.kind=.function)&&scope.names.all (λx=>!(x.2==.cell))&&scope.names.all (λx=>!(x.2==.local)||decide (scope.names.lookup x.1=Za .local)) && scope.names.all (λx=>!(x.2==.free)||decide (sc₀.names.lookup x.1=Za .cell)||decide (sc₀.names.lookup x.1=Za .free)) && scope.names.all (λx=>!(decide (scope.names.lookup x.1=Za .free))||(x.2==.free)) && (js.zip caps).all (λp=>decide (N0[p.1]?=Za p.2)&&decide (scope.names.lookup p.2=Za .free))&&decide (js.length=caps.length)&&decide (loc++caps).Nodup && loc.all (λn=>decide (scope.names.lookup n=Za .local))
open Classical in
def JK(chk:IH->Prop)(g:G1)(t:T1)(e:E1)(i0:Nat):Tx->ISt->IH->Res IV|[],_,h=>if chk h then .ok (.ref i0) h else .stuck|x::xs,σ,h=>if chk h then(match g x σ h with|.next σ1 h1=>(match t σ1 h1 with|.ok Zh h2=>(match e σ1 h2 with|.ok v h3=>(match h3[i0]? with|some (.lst acc)=>if acc.length<sizeLine then JK chk g t e i0 xs σ1 (h3.set i0<|.lst<|acc++[v])else .stuck|_=>.stuck)|_=>.stuck)|.ok Zj h2=>JK chk g t e i0 xs σ1 h2|_=>.stuck)|_=>.stuck)else .stuck
noncomputable def stC (nloc:Nat)(js:Tq)(σ:ISt):ISt:=Zab nloc Zd++js.map λj=>(σ[j]?).join
def Js(it:I1)(nloc:Nat)(js:Tq)(g:G1)(t:T1)(e:E1):E1:=λσ h=>(it σ h).bind λJ h1=>JK J.chk g t e h1.length J.xs (stC nloc js σ)<|h1++[.lst []]
theorem Ji6{prog:ZD}{w:ZV}{A:ZH}{R:ZeV->Zk->Prop}{s:Zk}{elt target iter:Expr}{ifs:Td}{scope:ZbF}{pos:Pos}{it acc:Zg}{env:Env}(I:Nat->Zk->Prop) (turn:∀n s,I n s->Zt (Zz prog w) A (ZbP it) (λr s₁=>match r with
   |none=>R (.ok .next) s₁
   |some v=>Zt (Zz prog w) A (Zdh target it v) (λ_ s₁'=>Zt (Zz prog w) A (Ze4 target env v) (λ_ s₂=>
     Zt (Zz prog w) A (forIn ifs Zh λc r=>if r=Zh then do let ok<-isTrue c env (Zby c env);pure (Zbt ok)else pure (Zbt r)) (λok s₃=>
      if ok=Zh then Zt (Zz prog w) A (Zby elt env) (λx s₄=>
       Zt (Zz prog w) A (call (.builtin "list.append") [acc,x]) (λ_ s₅=>∃m,m<n/\I m s₅) (λ_ _=>False) s₄) (λ_ _=>False) s₃
      else ∃m,m<n/\I m s₃) (λ_ _=>False) s₂) (λ_ _=>False) s₁') (λ_ _=>False) s₁) (λ_ _=>False) s)
  (n:Nat) (h:I n s):ZcR (Zz prog w) A (.compLoop (.ListComp elt [#[target,iter,ifs,0]] scope pos) 0 it acc env) R s:=by
 refine codeAny_loop rfl I (λn s hI=>?_) n h;show Zt _ A ((compTurn (.ListComp elt [#[target,iter,ifs,0]] scope pos) 0 it acc env).onRaise λx=>do ZeK x env;theTreesLotGoes x) _ _ s;refine wpAny_noted<|nof ?_;rw[compTurn_list];refine Zc<|ZbT<|Zc<|Zar (turn n s hI) (λr s₁ h₁=>?_) λ_ _ h'=>h'
 cases r with
 |none=>exact Zn h₁
 |some v=>
  refine Zc<|Zar h₁ (λ_ s₁' h₁'=>?_) λ_ _ h'=>h'
  refine Zc<|Zar h₁' (λ_ s₂ h₂=>Zc<|Zar h₂ (λok s₃ h₃=>?_) λ_ _ h'=>h') λ_ _ h'=>h'
  cases ok with
  |false=>exact Zn #[rfl,h₃]
  |true=>exact Zc<|Zc<|Zar h₃ (λx s₄ h₄=>Zc<|Zar h₄ (λ_ s₅ h₅=>Zn<|Zn #[rfl,h₅]) λ_ _ h'=>h') λ_ _ h'=>h'
def PTsi(ce:CeT)(X:Cx)(ifs:Td)(m:T1):Prop:=PX ce X RB (forIn ifs Zh λc r=>if r=Zh then do let ok<-isTrue c X.env (Zby c X.env);pure (Zbt ok)else pure (Zbt r)) m
noncomputable def JA:T1:=λ_ h=>.ok Zh h
theorem Jwe:PTsi ce X [] JA:=λ_ s _ H ι _ _ _ _ N K=>wpAny_tests_nil<|K Zh s H ι N .refl rfl
theorem Jwf{ce:CeT}{X:Cx}{c:Expr}{m:T1}(hc:PTi ce X c m):PTsi ce X [c] m:=λpj s σ H ι σi h Q E N K=>wpAny_tests_one<|hc pj s σ H ι σi h Q E N K
def Ve(ce:CeT)(X:Cx)(use:Option<|Zg->Sem Unit)(pj:PnT)(ι:Tw)(σi:ISt)(σ:L2.St)(H:Hp)(r:Res IV)(Q E:QvT):Prop:=match r with|.ok v h'=>∀D C m s' H' ι',Now ce X pj ι' σi h' σ H' s'->Nxt ι H ι' H'->RU X.K ι' H' v (.ref D)->s'.heap.Ns C m->FpOk X pj H' C->compPost (Zz X.prog X.w) X.A E use Q (.ref D) C (.ok .next) s'|.exc n h'=>∀pl a s' H' ι',Now ce X (pj++pl) ι' σi h' σ H' s'->Nxt ι H ι' H'->ι'[n]?=Za a->E (.ref a) s'|.stuck=>False
theorem Ve.mono(k:Ve ce X use pj ι σi σ H r Q E)(n:Nxt ι H ι' H'):Ve ce X use pj ι' σi σ H' r Q E:=by cases r with|ok v h'=>exact λD C m s' H2 ι2 N n2 q=>k D C m s' H2 ι2 N (n.trans n2) q|exc m h'=>exact λpl a s' H2 ι2 N n2 q=>k pl a s' H2 ι2 N (n.trans n2) q|stuck=>exact k
def Warm(A:ZH)(H:Hp):Prop:=∃a oe u vs,A.handled=Za (.ref a)/\H a=Za (.frz oe u)/\oe.data=.fields vs/\vs[2]?=Za .none
structure TurnC(P:ZD)(w:ZV)(C:Cx->Hp->Prop)(tg:Expr)(J:It)(fp:Tw)(it:Zo)(tn:Nat->Zaw->Prop):Prop where
 obj:∀i h,tn i h->∀b∈fp,∃o,h.get? b=Za o/\∀v,o.data≠.cell v
 keep:∀i h h',tn i h->(∀b∈fp,∀o,h.get? b=Za o->h'.get? b=Za o)->tn i h'
 item:∀(X:Cx)(i:Nat)(s:Zk)(σ:L2.St)(H:Hp),C X H->Inv X [] σ H s->(∀b∈fp,FpOk X [] H b)->tn i s.heap->J.go i H ->Zt (Zz P w) X.A (ZbP<|.ref it) (λr s1=>∃u,r=Za u/\Zt (Zz P w) X.A (Zdh tg (.ref it) u) (λ_ s2=>∃x H',Inv X [] σ H' s2/\RelV x u/\J.yld i H x H'/\tn (i+1) s2.heap/\∀b∈fp,H' b=Zd) (λ_ _=>False) s1) (λ_ _=>False) s
 done:∀(X:Cx)(i:Nat)(s:Zk)(σ:L2.St)(H:Hp),C X H->Inv X [] σ H s->(∀b∈fp,FpOk X [] H b)->tn i s.heap->J.stop i H->Zt (Zz P w) X.A (ZbP<|.ref it) (λr s1=>r=Zd/\Inv X [] σ H s1) (λ_ _=>False) s
 self:∀(A:ZH)(i:Nat)(s:Zk)(Q:QvT)(E:QvT),tn i s.heap->Q (.ref it) s->Zt (Zz P w) A (Zel<|.ref it) Q E s
def J3h(X0:Cx)(X:Cx)(_:Hp):Prop:=X.prog=X0.prog/\X.w=X0.w/\X.K=X0.K/\X.calm=Zh
def RItC(C:Cx->Hp->Prop)(ce:CeT)(X:Cx)(tg:Expr)(pj:PnT)(ι':Tw)(I:ItI)(itv:Zg)(s2:Zk)(H':Hp):Prop:=∃(it:Zo)(fp:Tw)(tn:Nat->Zaw->Prop)(J:It),itv=.ref it/\TurnC X.prog X.w C tg J fp it tn/\tn 0 s2.heap/\(∀b∈fp,FpOk X pj H' b)/\ItOk ce X.K ι' H' J I
def PIc(C:Cx->Hp->Prop)(ce:CeT)(X:Cx)(tg iter:Expr)(m:I1):Prop:=∀(pj:PnT)(s:Zk)(σ:L2.St)(H:Hp)(ι:Tw)(σi:ISt)(h:IH)(Q:QvT)(E:QvT),Now ce X pj ι σi h σ H s ->(match m σi h with|.ok I h'=>∀itv s' H' ι',Now ce X pj ι' σi h' σ H' s'->Nxt ι H ι' H'->RItC C ce X tg pj ι' I itv s' H'->Q itv s'|.exc n h'=>∀pl a s' H' ι',Now ce X (pj++pl) ι' σi h' σ H' s'->Nxt ι H ι' H'->ι'[n]?=Za a->E (.ref a) s'|.stuck=>False) ->
  Zt (Zz X.prog X.w) X.A (Zby iter X.env) (λv s1=>Zt (Zz X.prog X.w) X.A (Zel v) Q E s1) E s
theorem PIi.c(p:PIi ce X tg iter m):PIc (J3h X) ce X tg iter m:=λpj s σ H ι σi h Q E N k=>p pj s σ H ι σi h Q E N (by
 cases e:m σi h with|exc n h'=>rw[e]at k;exact k|stuck=>rw[e]at k;exact k|ok I h'=>
  rw[e]at k;intro itv s' H' ι' N' n' ⟨it,fp,tn,J,e1,T,r⟩;refine k itv s' H' ι' N' n' #[it,fp,tn,J,e1,#[T.obj,T.keep,λX' i s σ H c=>?_,λX' i s σ H c=>?_,T.self],r]
  ·exact T.item X' c.1 c.2.1 c.2.2.1 c.2.2.2 i [] s σ H _
  ·exact T.done X' c.1 c.2.1 c.2.2.1 c.2.2.2 i [] s σ H _)
section
variable{ce:CeT}{X:Cx}
theorem Ji7{N0 loc caps:Tk}{js:Tq}{sc₀ scope:ZbF}{tg iter elt:Expr}{ifs:Td}{g:G1}{mt:T1}{me:E1}{pos ppos:Pos}{use:Option (Zg->Sem Unit)}(hi:PIc Cc ce X tg iter mi)
  (hg:∀C s H fp,PGi ce (cxC X (loc++caps) scope C s H fp) tg g)(ht:∀C s H fp,PTsi ce (cxC X (loc++caps) scope C s H fp) ifs mt)(he:∀C s H fp,PEi ce (cxC X (loc++caps) scope C s H fp) elt me)
  (ok:Q3 N0 loc caps js sc₀ scope=Zh)(hN0:X.N=N0:=by rfl)(hsc:X.env.scope=sc₀:=by rfl)(hs:∀x,ZcG iter X.env x=pure x:=by intro _;rfl)
  {pj:PnT}{s:Zk}{σ:L2.St}{H:Hp}{ι:Tw}{σi:ISt}{h:IH}{Q E:QvT}(hcc:∀C s H1 fp H',Ext H H'->Cc (cxC X (loc++caps) scope C s H1 fp) H')(N:Now ce X pj ι σi h σ H s)(K:Ve ce X use pj ι σi σ H (Js mi loc.length js g mt me σi h) Q E):
  Zt (Zz X.prog X.w) X.A (comprehension (.ListComp elt [#[tg,iter,ifs,0]] scope pos) scope X.env ppos (newList []) Zj (Zby iter X.env) use) Q E s:=by
 simp only[Q3,Zp,decide_eq_true_eq,Zcr,Zbl,ZaY,beq_iff_eq,beq_eq_false_iff_ne]at ok;obtain⟨⟨⟨⟨⟨⟨⟨⟨⟨kF,kF0⟩,kNC⟩,kL⟩,kFr⟩,kFx⟩,kJ⟩,kLen⟩,kNd⟩,kLo⟩:=ok;have hfree:∀x∈scope.names,x.2=.free->X.env.kindOf x.1=Za .cell∨X.env.kindOf x.1=Za .free:=λx hx hk=>by
  have e:X.env.kindOf x.1=sc₀.names.lookup x.1:=by rw[<-hsc];rfl
  rw[e];rcases kFr x hx with(z|z)|z
  ·exact absurd hk z
  ·exact .inl z
  ·exact .inr z
 have hclos:Zeo scope X.env=pure (clOf X.env.cells scope.names []):=Jbi λx hx hk=>N.inv.ok.has x.1<|hfree x hx hk
 refine wpAny_comprehension_free (use:=use) (e:=.ListComp elt [#[tg,iter,ifs,0]] scope pos) rfl hs hclos kF (λx hx hl=>(kL x hx).resolve_left λz=>z hl) ?_;refine hi pj s σ H ι σi h _ E N ?_;unfold Js at K;cases e0:mi σi h with|exc n h'=>rw[e0]at K;exact K|stuck=>rw[e0]at K;exact K|ok Jt h1=>
  rw[e0]at K;intro itv s1 H1 ι1 N1 n1 RI;obtain⟨it,fp,tn,J,e,T,st1,f1,OK⟩:=RI;subst e
  -- the list
  refine Zcf ?_;have fresh1:H1 s1.heap.objs.size=Zd:=N1.inv.hok.fresh<|Zm _;have I2:Inv X pj σ (upd H1 s1.heap.objs.size<|.lst []) {s1 with heap:=s1.heap.push {cls:=.type "list",dict:=Zd,data:=.seq ([]:Tv).toArray} }:=
   N1.inv.laid (t':=s1.toks) (λb u e=>Ze _ e) (Zm _) #[ZA _,[],0,.nil,Zv _ rfl]
  obtain⟨R2,n2⟩:=N1.rel.alloc (o:=.lst []) (io:=.lst []) fresh1 #[[],Jz,rfl];generalize hs2:({s1 with heap:=s1.heap.push {cls:=.type "list",dict:=Zd,data:=.seq ([]:Tv).toArray} }:Zk)=s2 at I2 ⊢;generalize hD:s1.heap.objs.size=D at *;generalize hH2:upd H1 D (.lst [])=H2 at *;have N2:Now ce X pj (ι1++[D]) σi (h1++[.lst []]) σ H2 s2:=#[I2,R2,N1.st.mono n2];have keep12:∀b o,s1.heap.get? b=Za o->s2.heap.get? b=Za o:=λb o q=>by rw[<-hs2];exact Ze _ q
  have st2:tn 0 s2.heap:=T.keep 0 _ _ st1 λb _ o q=>keep12 b o q
  have hat:(ι1++[D])[h1.length]?=Za D:=by rw[<-N1.rel.len,ZE<|Zm _];simp
  have f2:∀b∈fp,FpOk X pj H2 b:=λb hb=>by
   refine#[?_,(f1 b hb).2];obtain⟨o,ho,_⟩:=T.obj 0 _ st1 b hb;have:b≠D:=Z5<|by rw[<-hD];exact Z0 ho
   rw[<-hH2,Jn this];exact(f1 b hb).1
  -- the block's own dict
  refine wpAny_newFunctionEnv (λx hx=>kNC x hx) (by intro y hy;simp at hy) (λh3 hns3 hsb3=>?_) kF;generalize hC:s2.heap.objs.size=C at *;have keep23:∀b o,s2.heap.get? b=Za o->h3.get? b=Za o:=λb o q=>(hsb3.2 b<|Z5<|by rw[<-hC];exact Z0 q).trans<|Ze _ q
  have cells':∀x c,(clOf X.env.cells scope.names []).lookup x=Za c->X.env.cells.lookup x=Za c:=Jhp _ _ (λx c q=>by simp at q)
  -- the context of the block
  have okX:(cxC X (loc++caps) scope C s2 H2 fp).Ok:=by
   refine#[N.inv.ok.mod,kF,N.inv.ok.glob,N.inv.ok.blt,ZcS hC,λx y c a b=>N.inv.ok.inj x y c (cells' x c a)<|cells' y c b,λx hx=>?_,λx c z=>?_,N.inv.ok.hd,N.inv.ok.frames,.inl rfl,λb hb=>?_,λb o q=>I2.bs b o q,
    ZC N.inv.ok.bsz I2.sz,λb o q hb=>?_,λb hb z=>?_,I2.stack,I2.stkFree]
   ·have hx':(relabel scope X.env).names.lookup x=Za .cell∨(relabel scope X.env).names.lookup x=Za .free:=hx;have hfr:scope.names.lookup x=Za .free:=by
     rcases hx' with z|z
     ·obtain⟨k0,e,m⟩:=Ja7 z;simp only[ZB,Ze6,Zai,or_false]at m;rcases m with⟨m1,_⟩|⟨_,m2⟩
      ·exact absurd (kNC _<|Zap e) (by rw[<-m1];intro q;exact q rfl)
      ·rw[m2]at e;exact e
     ·obtain⟨k0,e,m⟩:=Ja7 z;simp only[ZB,Ze6,Zai,or_false]at m;rcases m with⟨m1,_⟩|⟨m1,_⟩
      ·rw[<-m1]at e;exact e
      ·cases m1
    have hm:=Zap hfr;obtain⟨c,hc'⟩:=N.inv.ok.has x<|hfree (x,.free) hm rfl;exact ZbC.mp<|XX _ _ x c hm hc'
   ·exact absurd (show Zj=Zh from z) Zw
   ·have hbD:=f2 b hb;obtain⟨o,ho,_⟩:=T.obj 0 _ st2 b hb;exact#[Z5 (by show b<C;rw[<-hC];exact Z0 ho),λx c q=>hbD.2.2.2.2.1 x c<|cells' x c q]
   ·rcases(f2 b hb).2.2.2.1 with z|z
    ·exact N.inv.ok.noex b o q z
    ·exact ZcD _<|Z4 (Z0 q)<|ZC N.inv.ok.bsz z
   ·rcases ZB.mp (I2.stkSub b z)with e|e
    ·exact(f2 b hb).2.1 e
    ·exact(f2 b hb).2.2.1 e
  -- the block's state
  have lenJ:js.length=caps.length:=kLen;have stl:(stC loc.length js σi).length=(loc++caps).length:=by simp[stC,lenJ]
  have R3:Rel ce X.K (ι1++[D]) (h1++[.lst []]) H2:=R2;have I3:Inv (cxC X (loc++caps) scope C s2 H2 fp) [] (Zab loc.length Zd++js.map λj=>(σ[j]?).join) H2 {s2 with heap:=h3,toks:=s2.toks+([]:Wk).length}:=by
   refine#[okX,rfl,I2.bare,Un.kept keep23,#[_,hns3,λi x v a b c=>?_],λx c q=>?_,I2.hok.fresh<|ZcS hC,λx c q=>I2.freeC x c<|cells' x c q,λp hp=>absurd (show p∈([]:PnT)from hp) 03,I2.hok.kept keep23,by show _=(loc++caps).length;simp[lenJ]]
   ·have hi:loc.length<=i:=by
     refine ZcW λhlt=>?_
     rw[ZI (by simpa using hlt),Zcq]at b;split at b<;>cases b
    obtain⟨k,rfl⟩:∃k,i=loc.length+k:=#[i-loc.length,00];have a':(loc++caps)[loc.length+k]?=Za x:=a;rw[ZE 00]at a';rw[ZE 03]at b;simp only[Zdx,ZbX,Zy]at a' b;cases ej:js[k]? with|none=>rw[ej]at b;cases b|some j=>
     rw[ej]at b;have b':(σ[j]?).join=Za v:=Zam b;have hσ:σ[j]?=Za (Za v):=by cases es:σ[j]? with|none=>rw[es]at b';cases b'|some o=>rw[es]at b';rw[show o=Za v from b']
     have hz:=kJ (j,x) (Zfq.mpr #[k,by rw[List.getElem?_zip_eq_some];exact#[ej,a']]);obtain⟨hx1,hx2⟩:=hz;obtain⟨m,hn,hl⟩:=I2.loc;have hk:=hfree (x,.free) (Zap hx2) rfl;obtain⟨u,ru,lk⟩:=hl j x v (by rw[hN0];exact hx1) hσ (by rcases hk with q|q;exact .inr (.inl q);exact .inr (.inr q));rcases lk with⟨q,_⟩|⟨q,c,hc',hcell⟩
     ·rcases hk with q'|q'<;>(rw[q']at q;cases q)
     ·obtain⟨kk,ek,hkk⟩:=Jer (env:=X.env) hx2;have hcl:=XX (cells:=X.env.cells) scope.names [] x c (Zap hx2) hc';obtain⟨c',hc2⟩:=ZbC.mp hcl;have:=cells' x c' hc2;rw[hc']at this;cases this;obtain⟨oc,hoc,hd⟩:=hcell;refine#[u,ru,.inr #[?_,c,hc2,oc,keep23 _ _ hoc,hd]];rcases hkk with rfl|rfl
      ·exact .inl ek
      ·exact .inr ek
   ·obtain⟨v,o,ho,hd⟩:=I2.cell x c<|cells' x c q;exact#[v,o,keep23 _ _ ho,hd]
  have N3:Now ce (cxC X (loc++caps) scope C s2 H2 fp) [] (ι1++[D]) (stC loc.length js σi) (h1++[.lst []]) (Zab loc.length Zd++js.map λj=>(σ[j]?).join) H2 {s2 with heap:=h3,toks:=s2.toks+([]:Wk).length}:=by
   refine#[I3,R3,by simp[stC],λi v q=>?_];unfold stC at q;have hi:loc.length<=i:=by
    refine ZcW λhlt=>?_
    rw[ZI (by simpa using hlt),Zcq]at q;split at q<;>cases q
   rw[ZE<|by simpa using hi]at q;simp only[ZbX,Zy]at q;cases ej:js[i-loc.length]? with|none=>rw[ej]at q;cases q|some j=>
    rw[ej]at q;have q':(σi[j]?).join=Za v:=Zam q;have hσ:σi[j]?=Za (Za v):=by cases es:σi[j]? with|none=>rw[es]at q';cases q'|some o=>rw[es]at q';rw[show o=Za v from q']
    obtain⟨u,hu,qu⟩:=N2.st.at_ j v hσ;refine#[u,?_,qu];rw[ZE<|by simpa using hi];simp only[ZbX,Zy,ej,Zfk,hu];rfl
  have st3:tn 0 h3:=T.keep 0 _ _ st2 λb _ o q=>keep23 b o q
  have K2:Ve ce X use pj (ι1++[D]) σi σ H2 (JK Jt.chk g mt me h1.length Jt.xs (stC loc.length js σi)<|h1++[.lst []]) Q E:=Ve.mono (r:=JK Jt.chk g mt me h1.length Jt.xs (stC loc.length js σi)<|h1++[.lst []]) K<|n1.trans n2;have loop:ZcR (Zz X.prog X.w) X.A (.compLoop (.ListComp elt [#[tg,iter,ifs,0]] scope pos) 0 (.ref it) (.ref D)<|compEnvC scope (clOf X.env.cells scope.names []) C X.env) (compPost (Zz X.prog X.w) X.A E use Q (.ref D) C)
    {s2 with heap:=h3,toks:=s2.toks+([]:Wk).length}:=by
   refine Ji6 (λn s'=>∃k ιk σk hk σ' H',Now ce (cxC X (loc++caps) scope C s2 H2 fp) [] ιk σk hk σ' H' s'/\Nxt (ι1++[D]) H2 ιk H'/\tn k s'.heap/\(∀b∈fp,H' b=Zd)/\n=Jt.xs.length-k/\k<=Jt.xs.length/\Ve ce X use pj ιk σi σ H' (JK Jt.chk g mt me h1.length (Jt.xs.drop k) σk hk) Q E) ?_ Jt.xs.length
    #[0,ι1++[D],stC loc.length js σi,h1++[.lst []],_,H2,N3,.refl,st3,λb hb=>(f2 b hb).1,03,ZA _,by simpa using K2]
   have stat:∀{H':Hp},(∀b∈fp,H' b=Zd)->∀b∈fp,FpOk (cxC X (loc++caps) scope C s2 H2 fp) [] H' b:=λhn b hb=>
    #[hn b hb,(okX.exf b hb).1,okX.exfs b hb,.inl hb,(okX.exf b hb).2,λp hp=>absurd (show p∈([]:PnT)from hp) 03]
   rintro n s4 ⟨k,ιk,σk,hk,σ4,H4,N4,n4,st4,fr4,rfl,hkl,K4⟩;by_cases hlt:k<Jt.xs.length
   ·have hd:Jt.xs.drop k=Jt.xs[k]::Jt.xs.drop (k+1):=Zb4 hlt;rw[hd]at K4;unfold JK at K4;split at K4
    ·rename_i hck;obtain⟨go,yl⟩:=OK.go k Jt.xs[k] hk H4 ιk (n2.trans n4) N4.rel hck<|Zb hlt;refine thn (T.item (cxC X (loc++caps) scope C s2 H2 fp) k s4 σ4 H4 (hcc _ _ _ _ _ (n1.trans<|n2.trans n4).ext) N4.inv (stat fr4) st4 go) λr s5 ⟨u,hr,h5⟩=>?_
     subst hr;refine thn h5 λ_ s6 ⟨x,H6,I6,r6,y6,st6,fr6⟩=>?_
     obtain⟨R6,n6,q6⟩:=yl x H6 y6;have I6':=I6.pinned (stat fr6)<|T.obj _ _ st6;have N6:Now ce (cxC X (loc++caps) scope C s2 H2 fp) ([]++Q9 fp s6.heap) ιk σk hk σ4 H6 s6:=#[I6',R6,N4.st.mono n6];have Zgc:∀{σ7:L2.St}{H7:Hp}{s7:Zk}{σ7i:ISt}{h7:IH}{ι7:Tw},Now ce (cxC X (loc++caps) scope C s2 H2 fp) ([]++Q9 fp s6.heap) ι7 σ7i h7 σ7 H7 s7->Nxt ιk H6 ι7 H7->Ve ce X use pj ιk σi σ H4 (JK Jt.chk g mt me h1.length (Jt.xs.drop<|k+1) σ7i h7) Q E ->
       ∃m,m<Jt.xs.length-k/\∃k ιk σk hk σ' H',Now ce (cxC X (loc++caps) scope C s2 H2 fp) [] ιk σk hk σ' H' s7/\Nxt (ι1++[D]) H2 ιk H'/\tn k s7.heap/\(∀b∈fp,H' b=Zd)/\m=Jt.xs.length-k/\k<=Jt.xs.length/\Ve ce X use pj ιk σi σ H' (JK Jt.chk g mt me h1.length (Jt.xs.drop k) σk hk) Q E:=
      λ{σ7 H7 s7 σ7i h7 ι7} N7 n7 K7=>by have nn:Nxt ιk H4 ι7 H7:=n6.trans n7;refine#[Jt.xs.length-(k+1),00,k+1,ι7,σ7i,h7,σ7,H7,N7.pins,n4.trans nn,T.keep _ _ _ st6 λb hb o e=>(N7.inv.pin (b,o)<|Zq _<|Zq _<|Yj hb e).1,λb hb=>?_,rfl,hlt,K7.mono nn];obtain⟨o,e,d⟩:=T.obj _ _ st6 b hb;exact(N7.inv.pin (b,o)<|Zq _<|Zq _<|Yj hb e).2.1
     cases eg:g Jt.xs[k] σk hk with
     |next σg hgg=>
      rw[eg]at K4;dsimp only at K4;refine hg C s2 H2 fp _ s6 σ4 H6 ιk σk hk _ u (λ_ s7=>Zt (Zz X.prog X.w) X.A (forIn ifs Zh λc r=>if r=Zh then do let ok<-isTrue c _ (Zby c _);pure (Zbt ok)else pure (Zbt r)) _ _ s7) (λ_ _=>False) N6 #[x,r6,q6] ?_;rw[eg];intro s7 σ7 H7 ι7 N7 n7;refine ht C s2 H2 fp _ s7 σ7 H7 ι7 σg hgg _ (λ_ _=>False) N7 ?_;cases et:mt σg hgg with
      |ok c h8=>
       rw[et]at K4;intro d s8 H8 ι8 N8 n8 rd;have rd':d=c:=rd;subst rd';cases d with|false=>exact Zgc N8 (n7.trans n8) K4|true=>
        dsimp only at K4;refine he C s2 H2 fp _ s8 σ7 H8 ι8 σg h8 _ (λ_ _=>False) N8 ?_;cases ee:me σg h8 with
        |ok v h9=>
         rw[ee]at K4;dsimp only at K4;intro w s9 H9 ι9 N9 n9 rw9;have hat9:ι9[h1.length]?=Za D:=(((n4.trans n6).trans n7).trans<|n8.trans n9).at hat;cases hl:h9[h1.length]? with|none=>rw[hl]at K4;exact Zf K4|some ob=>
          rw[hl]at K4;cases ob with
          |lst acc=>
           dsimp only at K4;split at K4
           ·rename_i hz;obtain⟨vs,eD,rD⟩:=N9.at hl hat9;obtain⟨wv,rw9,qw⟩:=rw9;have ap:=Jjs (X:=(cxC X (loc++caps) scope C s2 H2 fp).wish λ_ _=>False) ([]++Q9 fp s6.heap) s9 σ7 H9 (.ref D) [wv] (.ref D) [w] (λ_ H'=>H'=upd H9 D (.lst<|vs++[wv])) (N9.inv.wish _) rfl (.cons rw9 .nil) #[D,vs,wv,rfl,rfl,eD,by rw[rD.length];exact hz,rfl];refine Zar ap (λ_ s10 hq=>?_) λ_ _ z=>z
            obtain⟨z,H10,I10,_,rfl⟩:=hq;have n10:Nxt ι9 H9 ι9 (upd H9 D<|.lst<|vs++[wv]):=#[#[[],03],Ext.upd_mut eD<|by rw[eD];exact Za8];obtain⟨R10,_⟩:=N9.rel.write (o:=.lst<|vs++[wv]) (io:=.lst<|acc++[v]) hat9 eD (by rw[eD];exact Za8) #[_,Jz,(RVs.mono n10 _ _ rD).append<|RVs.one<|RV.mono n10 _ _ qw];exact Zgc #[I10.unwish,R10,N9.st.mono n10] (((n7.trans n8).trans n9).trans n10) K4
           ·exact Zf K4
          |_=>exact Zf K4
        |_=>rw[ee]at K4;exact Zf K4
      |_=>rw[et]at K4;exact Zf K4
     |_=>rw[eg]at K4;exact Zf K4
    ·exact Zf K4
   ·have hke:Jt.xs.drop k=[]:=Zd4 00;rw[hke]at K4;unfold JK at K4;split at K4
    ·rename_i hck;have stop:=OK.stop k hk H4 ιk (n2.trans n4) N4.rel hck 00;refine thn (T.done (cxC X (loc++caps) scope C s2 H2 fp) k s4 σ4 H4 (hcc _ _ _ _ _ (n1.trans<|n2.trans n4).ext) N4.inv (stat fr4) st4 stop) λr s5 ⟨hr,I5⟩=>?_
     subst hr;obtain⟨m,hnm,_⟩:=I5.loc
     -- back to the def's own frame
     have hos:s5.os=s2.os:=I5.os;obtain⟨hp5,g5,d5,t5,os5⟩:=s5;obtain rfl:os5=s2.os:=hos;have J5:Inv X pj σ H4 {s2 with heap:=hp5,gens:=g5,drawn:=d5,toks:=t5}:=I2.call (ch:=fp) I5.base I5.hok I5.bare λb hb=>#[(f2 b hb).2.2.2.1,(f2 b hb).2.1,(f2 b hb).2.2.2.2.1,(f2 b hb).2.2.2.2.2]
     have fC:FpOk X pj H4 C:=I2.fpOk (ZcS hC) I5.free;exact K4 D C m _ H4 ιk #[J5,N4.rel,(N2.st.mono n4)] .refl #[.ref D,rfl,D,rfl,n4.at hat] hnm fC
    ·exact Zf K4
  exact codeAny_compStart_list loop<|T.self X.A 0 _ _ _ st3 loop
theorem Now.letgo{pj:PnT}{ι:Tw}{σi:ISt}{h:IH}{σ:L2.St}{H:Hp}{s:Zk}{C:Zo}{h':Zaw}(N:Now ce X pj ι σi h σ H s)(fC:FpOk X pj H C)(sb:ZbB C s.heap h'):Now ce X pj ι σi h σ H {s with heap:=h'}:=
 #[N.inv.turned (it:=C) (t':=s.toks) (λb o hb q=>(sb.2 b hb).trans q) fC.1 fC.2.1 fC.2.2.2.1 fC.2.2.2.2.1 fC.2.2.2.2.2,N.rel,N.st]
theorem Jvt{N0 loc caps:Tk}{js:Tq}{sc₀ scope:ZbF}{tg iter elt:Expr}{ifs:Td}{g:G1}{mt:T1}{me:E1}{pos:Pos}(hc:X.calm=Zh)(hi:PIi ce X tg iter mi) (hg:∀C s H fp,PGi ce (cxC X (loc++caps) scope C s H fp) tg g)(ht:∀C s H fp,PTsi ce (cxC X (loc++caps) scope C s H fp) ifs mt)(he:∀C s H fp,PEi ce (cxC X (loc++caps) scope C s H fp) elt me) (ok:Q3 N0 loc caps js sc₀ scope=Zh)(hN0:X.N=N0:=by rfl)(hsc:X.env.scope=sc₀:=by rfl)(hs:∀x,ZcG iter X.env x=pure x:=by intro _;rfl):PEi ce X (.ListComp elt [#[tg,iter,ifs,0]] scope pos) (Js mi loc.length js g mt me):=by intro pj s σ H ι σi h Q E N K;rw[eval_ListComp];refine Ji7 hi.c hg ht he ok hN0 hsc hs (λ_ _ _ _ _ _=>#[rfl,rfl,rfl,hc]) N ?_;cases e0:Js mi loc.length js g mt me σi h with|exc n h'=>rw[e0]at K;exact K|stuck=>rw[e0]at K;exact K|ok v h'=>rw[e0]at K;exact λD C m s' H' ι' N' n' r hns fC=>#[m,hns,λh2 sb=>K _ _ H' ι' (N'.letgo fC sb) n' r]
theorem Jv7{N0 loc caps:Tk}{js:Tq}{sc₀ scope:ZbF}{tg iter elt:Expr}{ifs:Td}{g:G1}{mt:T1}{me:E1}{pos pos2 pos3:Pos}{i:Nat}{x:Str}(hc:X.calm=Zh)(hi:PIi ce X tg iter mi) (hg:∀C s H fp,PGi ce (cxC X (loc++caps) scope C s H fp) tg g)(ht:∀C s H fp,PTsi ce (cxC X (loc++caps) scope C s H fp) ifs mt)(he:∀C s H fp,PEi ce (cxC X (loc++caps) scope C s H fp) elt me) (ok:Q3 N0 loc caps js sc₀ scope=Zh)(hN0:X.N=N0:=by rfl)(hsc:X.env.scope=sc₀:=by rfl)(hs:∀x,ZcG iter X.env x=pure x) (hN:X.N.Nodup)(hix:X.N[i]?=Za x)(hlx:Loc X.env.scope x)(hf:X.fn x=Zh∨X.env.scope.names.lookup x=Za .local) (hsw:Zeh (.ListComp elt [#[tg,iter,ifs,0]] scope pos) (Za<|.Name x pos2) pos3.line X.env=pure Zh):PS1 ce X (.Assign [.Name x pos2] (.ListComp elt [#[tg,iter,ifs,0]] scope pos) pos3) (Jk i<|Js mi loc.length js g mt me):=by
 intro pj s σ H ι σi h Q E N K;rw[exec_Assign_Name_used _ _ _ _ hsw];refine Zc<|ZbT<|Zc ?_;rw[arm_evalThenUse_ListComp];refine Zc ?_;refine Ji7 (use:=Za<|Ze4 (.Name x pos2) X.env) hi.c hg ht he ok hN0 hsc hs (λ_ _ _ _ _ _=>#[rfl,rfl,rfl,hc]) N ?_;unfold Jk at K;cases e0:Js mi loc.length js g mt me σi h with|exc n h'=>rw[e0]at K;exact λpl a s' H' ι' N' n' q=>K pl a s' σ H' ι' N' n' q s'<|.inl rfl|stuck=>rw[e0]at K;exact K|ok v h'=>
  rw[e0]at K;intro D C m s' H' ι' N' n' r hns fC;obtain⟨w,rw',q⟩:=r;obtain⟨oC,es,ep,hoC,hdC,hrest⟩:=id hns;have hp:Inv X (pj++Q9 [C] s'.heap) σ H' s':=N'.inv.pinned (λb hb=>(show b=C by simpa using hb)▸fC) (λb hb=>by
   have e:b=C:=by simpa using hb
   subst e;exact#[oC,hoC,λv z=>by rw[hdC]at z;cases z])
  refine wpAny_assign_Name<|Yu hp hN hix hlx rw' (λs2 I2=>?_) hf;have hC2:=(I2.pin (C,oC)<|Zq _<|Zq _<|Yj 03 hoC).1;refine#[m,#[oC,es,ep,hC2,hdC,hrest],λh2 sb=>Zn ?_];have N2:Now ce X pj ι' (σi.set i<|Za v) h' (σ.set i<|Za w) H' s2:=#[I2.unpinned,N'.rel,N'.st.set i q];exact Zn<|K _ _ H' ι' (N2.letgo fC sb) n'
noncomputable def Vo (x:Str):Tx:=x.cps.toList.map λc=>.str ⟨#[c]⟩
def Its(x:Str):It:=#[λi _=>i<x.cps.size,λi H y H'=>H'=H/\∃c,x.cps[i]?=Za c/\y=.str ⟨#[c]⟩,λi _=>x.cps.size<=i]
theorem Jms{P:ZD}{w:ZV}{K:W.Frag}{tg:Expr}{x:Str}{t:Tok}(it:Zo)(hty:["enumerate","zip","dict_itemiterator","dict_reverseitemiterator","odict_iterator","itertools.zip_longest","itertools.pairwise"].contains ty=Zj) (W:∀A:ZH,A.handled=Zd->Walks P w A it [it] [it] x.cps.size (SignAt x) (λi h=>h.IsStrIter it ty x t i)) (We:∀(A:ZH)(E:QvT)(s:Zk)(i:Nat)(Q:Wz->Zk->Prop),A.handled=Zd->s.heap.IsStrIter it ty x t i->x.cps[i]?=Zd->(∀h',Zdv it s.heap h'->Q Zd {s with heap:=h'})->Zt (Zz P w) A (ZbP<|.ref it) Q E s) (Ws:∀(A:ZH)(E:QvT)(s:Zk)(i:Nat)(Q:QvT),s.heap.IsStrIter it ty x t i->Q (.ref it) s->Zt (Zz P w) A (Zel<|.ref it) Q E s):Turn P w K tg (Its x) [it] it (λi h=>h.IsStrIter it ty x t i) where
 mem:=03
 obj:=λi h st b hb=>by
  have e:b=it:=by simpa using hb
  subst e;obtain⟨o,e,c,d⟩:=st;exact#[o,e,λv z=>by rw[d]at z;cases z]
 keep:=λi h h' st k=>by obtain⟨o,e,r⟩:=st;exact#[o,k it 03 o e,r]
 item:=by
  intro X hP hw hK hc i pj s σ H E I hf st hg;subst hP hw hK;obtain⟨f0,f1,f2,f3,f4,f5⟩:=hf it 03;refine(W X.A<|I.ok.hd hc).item i s _ _ hg st λv h' tk hv st' kk=>?_
  obtain⟨c,u,hcc,rfl⟩:=hv;have I1:Inv X pj σ H {s with heap:=h',toks:=tk}:=I.turned (λb o hb e=>kk b o (by simpa using hb) e) f0 f1 f3 f4 f5;obtain⟨o,e,c1,d1⟩:=id st';exact#[_,rfl,Js9 (s:={s with heap:=h',toks:=tk}) e c1 d1 hty #[.str ⟨#[c]⟩,H,I1,#[u,rfl],#[rfl,c,hcc,rfl],st',λb hb=>(hf b hb).1]]
 done:=by
  intro X hP hw hK hc i pj s σ H E I hf st hg;subst hP hw hK;obtain⟨f0,f1,f2,f3,f4,f5⟩:=hf it 03;have hi:x.cps.size<=i:=hg;have hx:x.cps[i]?=Zd:=by simp[hi]
  exact We X.A _ s i _ (I.ok.hd hc) st hx λh' eb=>#[rfl,I.turned (t':=s.toks) (λb o hb e=>eb b o hb e) f0 f1 f3 f4 f5]
 self:=λA i s Q E st h=>Ws A E s i Q st h
def Jtq:IV->IH->Res ItI|.str x,h=>.ok #[Vo x,λ_=>True] h|_,_=>.stuck
def iStr(e:E1):I1:=λσ h=>(e σ h).bind Jtq
theorem Jvv{x:Str}{ι:Tw}{H₀:Hp}:ItOk ce X.K ι H₀ (Its x) #[Vo x,λ_=>True]:=by
 refine#[λk v h H ι' hp R hck hx=>?_,λk h H ι' hp R hck hx=>?_]
 ·have hk:k<x.cps.size:=by have:=(Zs.mp hx).1;simpa[Vo]using this
  refine#[hk,λy H' hy=>?_];obtain⟨rfl,c,hc,rfl⟩:=hy;simp only[Vo,Zy,ZcE,hc]at hx;cases hx;exact#[R,.refl,rfl]
 ·have:(Vo x).length=x.cps.size:=by simp[Vo]
  show x.cps.size<=k;rw[<-this];exact hx
theorem Jnt{tg l:Expr}{ml:E1}(hl:PEi ce X l ml):PIi ce X tg l (iStr ml):=by
 intro pj s σ H ι σi h Q E N K;refine hl pj s σ H ι σi h _ E N ?_;unfold iStr at K;cases e0:ml σi h with|exc n h'=>rw[e0]at K;exact K|stuck=>rw[e0]at K;exact K|ok v h'=>
  rw[e0]at K;intro u s1 H1 ι1 N1 n1 r1;obtain⟨w,rw',q⟩:=r1;have fresh:∀b∈[s1.heap.objs.size],FpOk X pj H1 b:=λb hb=>by
   have e:b=s1.heap.objs.size:=by simpa using hb
   subst e;exact N1.inv.fpOk (Zm _)<|N1.inv.hok.fresh<|Zm _
  cases v with
  |str x=>have e1:w=.str x:=q;subst e1;obtain⟨t,rfl⟩:=rw';simp only[Res.bind,Jtq]at K;cases ha:x.cps.all (· < 128)with|true=>refine wpAny_pyIter_ascii ha<|K _ _ H1 ι1 #[N1.inv.kept (t':=s1.toks) λb o e=>Ze _ e,N1.rel,N1.st] n1 ?_;exact#[s1.heap.objs.size,[s1.heap.objs.size],_,Its x,rfl,Jms (ty:="str_ascii_iterator") (t:=t) _ 01 (λA hA=>Walks.strAscii hA _ x t) (λA E s i Q hA st hx hQ=>wpAny_pyNext_ascii_end hA st hx hQ) λA E s i Q st hq=>wpAny_pyIter_striter_ascii st hq,#[_,Zv _ rfl,rfl,rfl],fresh,Jvv]|false=>refine wpAny_pyIter_wide ha<|K _ _ H1 ι1 #[N1.inv.kept (t':=s1.toks) λb o e=>Ze _ e,N1.rel,N1.st] n1 ?_;exact#[s1.heap.objs.size,[s1.heap.objs.size],_,Its x,rfl,Jms (ty:="str_iterator") (t:=t) _ 01 (λA hA=>Walks.strWide hA _ x t) (λA E s i Q hA st hx hQ=>wpAny_pyNext_wide_end hA st hx hQ) λA E s i Q st hq=>wpAny_pyIter_striter_wide st hq,#[_,Zv _ rfl,rfl,rfl],fresh,Jvv]
  |_=>simp only[Res.bind,Jtq]at K
def Ite(K:W.Frag)(a:Zo):It:=#[λi H=>∃xs x,SqL K H a xs/\xs[i]?=Za x,λi H y H'=>∃p x,H p=Zd/\y=.ref p/\H'=upd H p (.tup [.int (i:Int),x])/\∀xs,SqL K H a xs->xs[i]?=Za x,λi H=>∃xs,SqL K H a xs/\xs.length<=i]
theorem Jrw{P:ZD}{w:ZV}{K:W.Frag}{es:Td}{k:Nat}{p:Pos}(a it e:Zo)(hne:e≠it):Turn P w K (.Tuple es k p) (Ite K a) [e,it] e (λi h=>(∃old,IsEnum h e it (i:Int) old)/\h.IsListIter it a i) where
 mem:=03
 obj:=λi h st b hb=>by
  obtain⟨⟨old,he⟩,o,e1,c,d⟩:=st;simp only[ZB,Zai,or_false]at hb;rcases hb with rfl|rfl
  ·exact#[_,he,λv z=>by have z':Data.fields _=Zgk v:=z;cases z']
  ·exact#[o,e1,λv z=>by rw[d]at z;cases z]
 keep:=λi h h' st k=>#[let ⟨old,he⟩:=st.1;#[old,k e 03 _ he],st.2.at λo e=>k it 03 o e]
 item:=by
  intro X hP hw hK hc i pj s σ H E I hf st hg;subst hP hw hK;obtain⟨⟨old,he⟩,hit⟩:=st;obtain⟨xs,x,hq,hx⟩:=hg;obtain⟨its,rv,pl,hz⟩:=I.list hq;obtain⟨u,hu,ru⟩:=rv.get hx;have fe:=hf e 03;have fi:=hf it 03;have hn:H s.heap.objs.size=Zd:=I.hok.fresh<|Zm _;refine wpAny_pyNext_enum_item he hit pl.isList (x:=u) (by simpa using hu) hne λh' he' hit' ht hsz kk=>?_
  refine#[_,rfl,wpAny_letOwnedTupleGo_enum he' λh2 he2 sb=>?_];have ltE:e<s.heap.objs.size:=Z0 he;have neT:s.heap.objs.size≠e:=ZaN ltE;have k2:∀b o,b≠e->b≠it->s.heap.get? b=Za o->h2.get? b=Za o:=λb o h1 h3 q=>(sb.2 b h1).trans<|kk b o h1 h3 q
  have hl2:h2.IsListIter it a (i+1):=by obtain⟨o,q,r⟩:=hit';exact#[o,(sb.2 it<|ZP hne).trans q,r]
  have t2:h2.get? s.heap.objs.size=Za {cls:=.type "tuple",data:=.seq (Zay [.int i s.toks,u])}:=(sb.2 _ neT).trans ht
  -- the two records turn,then the tuple is tracked
  obtain⟨oe,hoe⟩:∃o,s.heap.get? e=Za o:=#[_,he];obtain⟨oi,hoi,_⟩:=id hit;have neP:∀b u,H b=Za u->b≠s.heap.objs.size:=λb u q=>QX q hn
  have I1:Inv X pj σ (upd H s.heap.objs.size<|.tup [.int (i:Int),x]) {s with heap:=h2,toks:=s.toks+1}:=by
   refine I.step (g':=s.gens) (d':=s.drawn) (ch:=[e,it]) (λb hb=>?_) (λb o _ _ hc q _=>k2 b o (λz=>hc<|by simp[z]) (λz=>hc<|by simp[z]) q) (λb o _ _ hc q _=>#[o.slots,k2 b o (λz=>hc<|by simp[z]) (λz=>hc<|by simp[z]) q]) (λb o _ q n=>?_)
    (λb o hc q=>#[o,k2 b o (λz=>hc<|by simp[z]) (λz=>hc<|by simp[z]) q]) (λb xs q=>by rw[Jn<|neP b _ q];exact q) (λb o u q=>by rw[Jn<|neP b _ q];exact q) (λb ps q=>#[#[],by rw[Jn<|neP b _ q,q];simp]) (λm hm=>?_) (λb u q=>?_) I.bare
   ·simp only[ZB,Zai,or_false]at hb;rcases hb with rfl|rfl
    ·exact#[fe.2.2.2.1,fe.2.1,fe.2.2.2.2.1,fe.2.2.2.2.2]
    ·exact#[fi.2.2.2.1,fi.2.1,fi.2.2.2.2.1,fi.2.2.2.2.2]
   ·rw[Jn<|Z5<|Z0 q];exact n
   ·obtain⟨o,es,ep,ho,r⟩:=hm;exact#[o,es,ep,k2 _ o (ZP fe.2.1) (ZP fi.2.1) ho,r]
   ·by_cases hb:b=s.heap.objs.size
    ·subst hb;rw[Jz]at q;cases q;exact#[by show 2<=sizeLine;decide,[.int i s.toks,u],.cons #[_,rfl]<|.cons ru .nil,#[_,t2,rfl,_,rfl]]
    ·rw[Jn hb]at q;have n1:b≠e:=λz=>by rw[z,fe.1]at q;cases q
     have n2:b≠it:=λz=>by rw[z,fi.1]at q;cases q
     refine(I.hok b u q).stay (λc v hc r=>k2 c v ?_ ?_ r) (λc q=>by rw[Jn<|neP c _ q];exact q) λc ys q=>by rw[Jn<|neP c _ q];exact q
     ·rcases hc with z|z
      ·rw[z];exact n1
      ·intro y;rw[y,fe.1]at z;cases z
     ·rcases hc with z|z
      ·rw[z];exact n2
      ·intro y;rw[y,fi.1]at z;cases z
  refine#[.ref s.heap.objs.size,_,I1,rfl,#[s.heap.objs.size,x,hn,rfl,rfl,λys hy=>by rw[I.list_inj hy hq];exact hx],#[#[_,he2],hl2],λb hb=>?_];simp only[ZB,Zai,or_false]at hb;rcases hb with rfl|rfl
  ·rw[Jn<|Z5 ltE];exact fe.1
  ·rw[Jn<|Z5<|Z0 hoi];exact fi.1
 done:=by intro X hP hw hK hc i pj s σ H E I hf st hg;subst hP hw hK;obtain⟨⟨old,he⟩,hit⟩:=st;obtain⟨xs,hq,hx⟩:=hg;obtain⟨its,rv,p,hz⟩:=I.list hq;obtain⟨f0,f1,f2,f3,f4,f5⟩:=hf it 03;have hl:=rv.length;exact wpAny_pyNext_enum_end (I.ok.hd hc) he hit p.isList (by simp;lia) λh' eb=>#[rfl,I.turned (t':=s.toks) (λb o hb e=>eb b o hb e) f0 f1 f3 f4 f5]
 self:=λ_ _ _ _ _ st h=>let ⟨_,he⟩:=st.1;wpAny_pyIter_enum he h
noncomputable def Qi (n:Nat):Tx->Tx|[]=>[]|x::xs=>.tup [.int n,x]::Qi (n+1) xs
theorem Jdx:∀(xs:Tx)(n k:Nat),(Qi n xs)[k]?=(xs[k]?).map λx=>.tup [.int ((n+k:Nat):Int),x]|[],_,_=>by simp[Qi]|x::xs,n,0=>by simp[Qi]|x::xs,n,k+1=>by simp only[Qi,Zcs];rw[Jdx xs (n+1) k];have:n+1+k=n+(k+1):=05;rw[this]
theorem Xn:∀(xs:Tx)(n:Nat),(Qi n xs).length=xs.length|[],_=>rfl|_::xs,n=>by simp[Qi,Xn xs]
def QG:Tx->IH->Res ItI
 |[.ref i],h=>match h[i]? with
  |some (.lst xs)=>.ok #[Qi 0 xs,λh'=>h'[i]?=Za (.lst xs)] h
  |_=>.stuck
 |_,_=>.stuck
theorem J02{i:Nat}{ι:Tw}(ha:ι[i]?=Za a):ItOk ce X.K ι H₀ (Ite X.K a) #[Qi 0 xs,λh'=>h'[i]?=Za (.lst xs)]:=by
 refine#[λk v h H ι' hp R hck hx=>?_,λk h H ι' hp R hck hx=>?_]
 ·obtain⟨vs,e1,r1⟩:=R.get hck<|hp.at ha;have hx':(Qi 0 xs)[k]?=Za v:=hx;rw[Jdx]at hx';obtain⟨x,hxk,rfl⟩:=Z8.mp hx';obtain⟨u,hu,qu⟩:=r1.get hxk;refine#[#[vs,u,SqL.of e1,hu],λy H' hy=>?_];obtain⟨p,x',hp0,rfl,rfl,hy⟩:=hy;have:=hy vs<|SqL.of e1;rw[hu]at this;cases this;obtain⟨R',n'⟩:=R.grow (o:=.tup [.int (k:Int),u]) hp0;refine#[R',n',p,_,rfl,SqT.of Jz,#[_,_,rfl,?_,_,_,rfl,RV.mono n' _ _ qu,rfl]];show V.int (k:Int)=V.int ((0+k:Nat):Int);simp
 ·obtain⟨vs,e1,r1⟩:=R.get hck<|hp.at ha;exact#[vs,SqL.of e1,by rw[r1.length,<-Xn xs 0];exact hx]
theorem J0r{es:Td}{kt:Nat}{pt:Pos}{a:Expr}{ma:A1}{p pos:Pos}(hg:Gl X "enumerate")(hm:X.mg "enumerate"=Zd)(ha:PAi ce X [a] ma)(hs:ZG [a] X.env=[(Zj,Zby a X.env)]:=by rfl):PIi ce X (.Tuple es kt pt) (.Call (.Name "enumerate" p) [a] [] pos) (iRg QG ma):=by
 intro pj s σ H ι σi h Q E N K;refine Call_<|Qp N.inv hg hm boot_enumerate<|ZaP ?_ hs rfl;refine ha pos pj s σ H ι σi h _ E N ?_;unfold iRg at K;cases e0:ma σi h with|exc n h'=>rw[e0]at K;exact K|stuck=>rw[e0]at K;exact K|ok vs h'=>
  rw[e0]at K;intro us s1 H1 ι1 N1 n1 r1;obtain⟨xs,rv,qs⟩:=r1;cases vs with|nil=>exact Zf K|cons x t=>
   cases x with
   |ref i=>
    cases t with|cons _ _=>exact Zf K|nil=>
     obtain⟨w,e1,q⟩:=qs.one_of;subst e1;obtain⟨b,e3,hb⟩:=q;subst e3;obtain⟨u,rfl,ru⟩:=QP rv;cases ru;cases hi:h'[i]? with|none=>simp only[Res.bind,QG,hi]at K|some ob=>
      cases ob with
      |lst ys=>
       simp only[Res.bind,QG,hi]at K;obtain⟨ws,eH,rH⟩:=N1.at hi hb;obtain⟨z,its,n,r,hl,eo⟩:=N1.inv.lstM eH;refine call_enumerate_1 eo λh2 he hit hsz kp=>?_
       refine wpAny_pyIter_enum he<|K _ _ H1 ι1 #[N1.inv.kept (t':=s1.toks) kp,N1.rel,N1.st] n1 ?_;refine#[s1.heap.objs.size+1,[s1.heap.objs.size+1,s1.heap.objs.size],_,Ite X.K b,rfl,Jrw b s1.heap.objs.size (s1.heap.objs.size+1)<|ZaN<|Za4 _,#[#[_,he],hit],λc hc=>?_,J02 hb];simp only[ZB,Zai,or_false]at hc;rcases hc with rfl|rfl
       ·exact N1.inv.fpOk (ZaR _)<|N1.inv.hok.fresh<|ZaR _
       ·exact N1.inv.fpOk (Zm _)<|N1.inv.hok.fresh<|Zm _
      |_=>simp only[Res.bind,QG,hi]at K
   |_=>exact Zf K
end
noncomputable def Jtp:IV->IH->Res ItI|.str x,h=>Jtq (.str x) h|v,h=>itOf v h
def Jy(e:E1):I1:=λσ h=>(e σ h).bind Jtp
theorem Jte{ce:CeT}{X:Cx}{tg l:Expr}{ml:E1}(hl:PEi ce X l ml):PIi ce X tg l (Jy ml):=by
 intro pj s σ H ι σi h Q E N K;cases e0:ml σi h with
 |ok v h'=>cases v with|str x=>exact Jnt (tg:=tg) hl pj s σ H ι σi h Q E N<|by unfold iStr;unfold Jy at K;rw[e0]at K ⊢;exact K|_=>exact Jp9 (tg:=tg) hl pj s σ H ι σi h Q E N<|by unfold iVal;unfold Jy at K;rw[e0]at K ⊢;exact K
 |exc n h'=>exact Jp9 (tg:=tg) hl pj s σ H ι σi h Q E N<|by unfold iVal;unfold Jy at K;rw[e0]at K ⊢;exact K
 |stuck=>exact Jp9 (tg:=tg) hl pj s σ H ι σi h Q E N<|by unfold iVal;unfold Jy at K;rw[e0]at K ⊢;exact K
section
variable{ce:CeT}{X:Cx}
theorem x_sl:SlI ce X slI:=by
 intro pj s σ H ι σi h x v vl vu lo hi sl Q E N rx hs pl pu K;obtain⟨xv,rx,qx⟩:=rx;cases x with
 |ref i=>
  obtain⟨a,e1,ha⟩:=qx;subst e1;dsimp only[slI]at K;cases hi':h[i]? with|none=>rw[hi']at K;exact Zf K|some ob=>rw[hi']at K;cases ob with|lst xs=>obtain⟨vs,e1,r1⟩:=N.at hi' ha;exact Jwj (Jrp (X:=X.wish E)) N.inv rx hs pl pu #[a,vs,rfl,SqL.of e1,λp hp=>finA N K p hp #[_,Jz,RVs.new hp<|r1.cut lo hi]]|_=>exact Zf K
 |rol xs=>obtain⟨a,vs,e1,sa,ra⟩:=qx;subst e1;exact Jwj (Jrp (X:=X.wish E)) N.inv rx hs pl pu #[a,vs,rfl,sa.sq,λp hp=>finA N K p hp #[_,Jz,RVs.new hp<|ra.cut lo hi]]
 |_=>exact Zf K
noncomputable def QH:IV->IH->Res IV
 |.ref i,h=>match h[i]? with
  |some (.lst xs)=>.ok (.ref h.length)<|h++[.lst xs]
  |_=>.stuck
 |.rol xs,h=>.ok (.ref h.length)<|h++[.lst xs]
 |.tup xs,h=>.ok (.ref h.length)<|h++[.lst xs]
 |_,_=>.stuck
theorem Jz2:Qr ce X (.type "list") (on1 QH):=Vy λpj s σ H ι σi h x xv u Q E N ru qx K=>by
 cases x with
 |ref i=>
  obtain⟨a,e1,ha⟩:=qx;subst e1;dsimp only[QH]at K;cases hi:h[i]? with|none=>rw[hi]at K;exact Zf K|some ob=>rw[hi]at K;cases ob with|lst xs=>obtain⟨vs,e1,r1⟩:=N.at hi ha;exact QO (Jb9 (X:=X.wish E)) N.inv (.cons ru .nil) #[a,vs,rfl,.inl<|SqL.of e1,λp hp=>finA N K p hp #[_,Jz,RVs.new hp r1]]|_=>exact Zf K
 |rol xs=>obtain⟨a,vs,e1,sa,ra⟩:=qx;subst e1;exact QO (Jb9 (X:=X.wish E)) N.inv (.cons ru .nil) #[a,vs,rfl,.inl sa.sq,λp hp=>finA N K p hp #[_,Jz,RVs.new hp ra]]
 |tup xs=>obtain⟨a,vs,e1,sa,ra⟩:=qx;subst e1;exact QO (Jb9 (X:=X.wish E)) N.inv (.cons ru .nil) #[a,vs,rfl,.inr sa,λp hp=>finA N K p hp #[_,Jz,RVs.new hp ra]]
 |_=>exact Zf K
noncomputable def VW:IV->IH->Res IV
 |.ref i,h=>match h[i]? with
  |some (.lst xs)=>.ok (.tup xs) h
  |_=>.stuck
 |.tup xs,h=>.ok (.tup xs) h
 |_,_=>.stuck
theorem Jwy:Qr ce X (.type "tuple") (on1 VW):=Vy λpj s σ H ι σi h x xv u Q E N ru qx K=>by
 cases x with
 |ref i=>
  obtain⟨a,e1,ha⟩:=qx;subst e1;dsimp only[VW]at K;cases hi:h[i]? with|none=>rw[hi]at K;exact Zf K|some ob=>rw[hi]at K;cases ob with|lst xs=>obtain⟨vs,e1,r1⟩:=N.at hi ha;exact QO (Jdm (X:=X.wish E)) N.inv (.cons ru .nil) #[a,vs,rfl,.inl #[SqL.of e1,λp hp=>finT N K p hp r1]]|_=>exact Zf K
 |tup xs=>have qx':=qx;obtain⟨a,vs,e1,sa,ra⟩:=qx;subst e1;exact QO (Jdm (X:=X.wish E)) N.inv (.cons ru .nil) #[a,vs,rfl,.inr #[sa,fin0 N K qx']]
 |_=>exact Zf K
noncomputable def VN:Tx->Option (List Bool)|[]=>Za []|.bl b::r=>(VN r).map (b:: ·)|_::_=>Zd
noncomputable def allI:IV->IH->Res IV
 |.ref i,h=>match h[i]? with
  |some (.lst xs)=>(match VN xs with
   |some bs=>.ok (.bl<|bs.all id) h
   |none=>.stuck)
  |_=>.stuck
 |_,_=>.stuck
theorem Jlt{K:W.Frag}{ι:Tw}{H:Hp}:∀{xs:Tx}{bs:List Bool}{vs:Ud}{us:Tv},VN xs=Za bs->RVs K ι H xs vs->Vals vs us->us=bs.map ZdF
 |[],bs,vs,us,e,q,r=>by cases e;have e1:vs=[]:=q;subst e1;cases r;rfl
 |x::xs,bs,vs,us,e,q,r=>by
  obtain⟨v,vr,e1,q1,q2⟩:=q;subst e1;cases r with
  |cons r1 r2=>
   cases x with
   |bl b=>obtain⟨b2,e2,rfl⟩:=Z8.mp (show(VN xs).map (b:: ·)=Za bs from e);cases (show v=.bl b from q1);cases r1;rw[Jlt e2 q2 r2];rfl
   |_=>cases e
theorem Joo(bs:List Bool):((ZU bs.length).all λi=>bs.getD i Zh)=bs.all id:=by
 induction bs with
 |nil=>rfl
 |cons b r ih=>
  rw[ZN,List.range_succ_eq_map,Zav,List.all_map,Zav];have e:((ZU r.length).all<|(λi=>(b::r).getD i Zh)∘Nat.succ)=(ZU r.length).all λi=>r.getD i Zh:=by congr 1
  rw[e,ih];rfl
theorem J3n(hh:X.A.handled=Zd):Qr ce X (.builtin "all") (on1 allI):=Vy λpj s σ H ι σi h x xv u Q E N ru qx K=>by
 cases x with
 |ref i=>
  obtain⟨a,e1,ha⟩:=qx;subst e1;cases ru;dsimp only[allI]at K;cases hi:h[i]? with|none=>rw[hi]at K;exact Zf K|some ob=>
   rw[hi]at K;cases ob with
   |lst xs=>
    dsimp only at K;cases hb:VN xs with|none=>rw[hb]at K;exact Zf K|some bs=>
     rw[hb]at K;obtain⟨vs,e1,r1⟩:=N.at hi ha;obtain⟨its,rv,pl,hz⟩:=N.inv.list<|SqL.of e1;have eu:=Jlt hb r1 rv;subst eu;refine call_all_walk<|Zbk pl.isList ?_;have hlt:a<s.heap.objs.size:=by obtain⟨o,_,ho,_⟩:=pl;exact Z0 ho
     have ne:a≠s.heap.objs.size:=Z5 hlt;refine#[s.heap.objs.size,_,_,_,_,_,λi=>bs.getD i Zh,rfl,Zdn (prog:=X.prog) (w:=X.w) (A:=X.A.in1) hh s.heap.objs.size a ne (bs.map ZdF).toArray,#[#[_,Zv _ rfl,rfl,rfl],?_],?_,λh' tk kk=>?_]
     ·obtain⟨o,n,ho,hc,_,hd⟩:=pl;exact#[o,Ze _ ho,hc,n,hd]
     ·intro i v s' Q' E' hP hq;simp only[Zfr,Zy]at hP;obtain⟨b,hb',rfl⟩:=Z8.mp hP;refine ZbI ?_;have:bs.getD i Zh=b:=by simp[List.getD,hb']
      rw[<-this];exact hq
     ·rw[show(bs.map ZdF).toArray.size=bs.length by simp,Joo];have I1:Inv X pj σ H {s with heap:=s.heap.push {cls:=.type "list_iterator",data:=.fields (Zay [.ref a,.int 0 0])} }:=N.inv.kept (t':=s.toks) λb o e=>Ze _ e
      have f:=N.inv.fpOk (Zm _)<|N.inv.hok.fresh<|Zm _;exact fin0 N K rfl _ _ (I1.turned (t':=tk) (it:=s.heap.objs.size) (λb o hb e=>kk b o (by simpa using hb) e) f.1 f.2.1 f.2.2.2.1 f.2.2.2.2.1 f.2.2.2.2.2) rfl
   |_=>exact Zf K
 |_=>exact Zf K
def MtI(ce:CeT)(X:Cx)(T id:String)(g:IV->Tx->IH->Res IV):Prop:=
 ∀(pj:PnT)(s:Zk)(σ:L2.St)(H:Hp)(ι:Tw)(σi:ISt)(h:IH)(x:IV)(xs:Tx)(v:Zg)(us:Tv)(Q:QvT)(E:QvT),Now ce X pj ι σi h σ H s->RU X.K ι H x v->RUs X.K ι H xs us ->
  Kont ce X RU pj ι σi σ H (g x xs h) Q E->Zt (Zz X.prog X.w) X.A (call (.builtin id)<|v::us) Q E s
noncomputable def tyOk (T:String):IV->IH->Bool
 |.str _,_=>T=="str"
 |.int _,_=>T=="int"
 |.ref i,h=>match h[i]? with
  |some (.lst _)=>T=="list"
  |some (.dct _)=>T=="dict"
  |_=>Zj
 |.rol _,_=>T=="list"
 |_,_=>Zj
def eBm(T:String)(g:IV->Tx->IH->Res IV)(o:E1)(a:A1):E1:=λσ h=>(o σ h).bind λx h1=>if tyOk T x h1=Zh then(a σ h1).bind λxs h2=>g x xs h2 else .stuck
theorem Jwg(N:Now ce X pj ι σi h σ H s)(q:RV X.K ι H x xv)(e:tyOk T x h=Zh):tyV X.K T xv H:=by
 cases x with
 |str y=>cases (show xv=.str y from q);exact beq_iff_eq.mp e
 |int y=>cases (show xv=.int y from q);exact beq_iff_eq.mp e
 |rol y=>obtain⟨a,vs,rfl,sa,_⟩:=q;exact .inl #[beq_iff_eq.mp e,vs,sa.sq]
 |ref i=>
  obtain⟨a,rfl,ha⟩:=q;cases hi:h[i]? with|none=>simp[tyOk,hi]at e|some ob=>cases ob with|lst xs=>simp only[tyOk,hi]at e;obtain⟨vs,e1,_⟩:=N.at hi ha;exact .inl #[beq_iff_eq.mp e,vs,SqL.of e1]|dct kvs=>simp only[tyOk,hi]at e;obtain⟨vs,e1,_⟩:=N.at hi ha;exact .inr<|.inr<|.inl #[beq_iff_eq.mp e,.inl #[vs,e1]]|_=>simp[tyOk,hi]at e
 |_=>simp[tyOk]at e
variable{o a:Expr}{es:Td}{mo:E1}{ma:A1}{name:Str}{apos cpos:Pos}{T id:String}{g:IV->Tx->IH->Res IV}
theorem i_bm(pa:PlainAttrs T)(slot:Slot T name id)(hty:typeOf (.builtin id)=pure (.type "method_descriptor"))(hm:MtI ce X T id g)(ho:PEi ce X o mo)(ha:PAi ce X (a::es) ma)
  (hbase:ZdL o name X.env (Zby o X.env)=Zby o X.env:=by rfl)
  (hfew:((Zbz cpos<|ZG (a::es) X.env).all (λx=>!x.1)&&(ZeM cpos<|Zdw [] X.env).all (λx=>x.1.isSome)
   && decide ((a::es).length+([]:To).length+(if ([]:To).isEmpty then 0 else 1)<30))=Zh:=by rfl)
  (hline:(apos.endLine==cpos.line)=Zh:=by rfl) (hs:ZG (a::es) X.env=(Zj,Zby a X.env)::ZG es X.env:=by rfl) (hplain:(Zbz cpos<|ZG es X.env).any (·.1)=Zj:=by rfl):
  PEi ce X (.Call (.Attribute o name apos) (a::es) [] cpos) (eBm T g mo ma):=by
 intro pj s σ H ι σi h Q E N K;refine wpAny_Call_method_late hbase hfew hline rfl (ho.run N K λx h1 v s1 H1 ι1 N1 n1 r1 K1=>?_);by_cases hty1:tyOk T x h1=Zh
 ·rw[if_pos hty1]at K1;obtain⟨xv,rx,qx⟩:=r1;obtain⟨h1',h2'⟩:=Jwh N1.inv rx<|Jwg N1 qx hty1;refine#[T,id,pa,slot,hty,h1',h2',?_];have hA:=(ha cpos).run (Q1:=λus s2=>Zt (Zz X.prog X.w) X.A (call (.builtin id)<|v::us) Q E s2) N1 K1 λxs h2 us s2 H2 ι2 N2 n2 r2 K2=>hm pj s2 σ H2 ι2 σi h2 x xs v us Q E N2 #[xv,rx,RV.mono n2 _ _ qx] r2 K2
  rw[hs]at hA ⊢;exact ZeZ (by show(Zj||(Zbz cpos (ZG es X.env)).any (·.1))=Zj;rw[hplain]<;>rfl)<|Calls.evalArgs_plain hA
 ·rw[if_neg hty1]at K1;exact Zf K1
theorem J36(pa:PlainAttrs T)(slot:Slot T name id)(hty:typeOf (.builtin id)=pure (.type "method_descriptor"))(hm:MtI ce X T id g)(ho:PEi ce X o mo)
  (hbase:ZdL o name X.env (Zby o X.env)=Zby o X.env:=by rfl)(hline:(apos.endLine==cpos.line)=Zh:=by rfl):PEi ce X (.Call (.Attribute o name apos) [] [] cpos) (eBm T g mo Jd):=by
 intro pj s σ H ι σi h Q E N K;refine wpAny_Call_method0_late hbase hline<|ho.run N K λx h1 v s1 H1 ι1 N1 n1 r1 K1=>?_
 by_cases hty1:tyOk T x h1=Zh
 ·rw[if_pos hty1]at K1;obtain⟨xv,rx,qx⟩:=r1;obtain⟨h1',h2'⟩:=Jwh N1.inv rx<|Jwg N1 qx hty1;exact#[T,id,pa,slot,hty,h1',h2',ZeZ rfl (PySem.evalArgs_none<|hm pj s1 σ H1 ι1 σi h1 x [] v [] Q E N1 #[xv,rx,qx] .nil K1)]
 ·rw[if_neg hty1]at K1;exact Zf K1
theorem Jry{pj:PnT}{s:Zk}{σ:L2.St}{H:Hp}{Q E:QvT}{r:V->Ud->Hp->VK->Prop}{x:V}{xs:Ud}{v:Zg}{us:Tv}(p:MtM (X.wish E) id r)(I:Inv X pj σ H s)(rx:RelV x v)(rs:Vals xs us) (k:r x xs H λz H'=>∀u s',Inv X pj σ H' s'->RelV z u->Q u s'):Zt (Zz X.prog X.w) X.A (call (.builtin id)<|v::us) Q E s:=Zar (p pj s σ H x xs v us _ (I.wish E) rx rs k) (λu s' ⟨_,_,I',r,q⟩=>q u s' I'.unwish r) λ_ _ z=>z
theorem finW{b:Zo}{vs ws:Ud}{w:V}(N:Now ce X pj ι σi h σ H s)(K:Kont ce X RU pj ι σi σ H (.ok v<|h.set i<|.lst ys) Q E) (hb:ι[i]?=Za b)(eH:H b=Za (.lst vs))(r:RVs X.K ι H ys ws)(q:RV X.K ι H v w):∀u s',Inv X pj σ (upd H b<|.lst ws) s'->RelV w u->Q u s':=λu s' I ru=>by have n:Nxt ι H ι (upd H b<|.lst ws):=#[#[[],03],Ext.upd_mut eH<|by rw[eH];exact Za8];obtain⟨R,_⟩:=N.rel.write (o:=.lst ws) (io:=.lst ys) hb eH (by rw[eH];exact Za8) #[_,Jz,RVs.mono n _ _ r];exact K u s' _ ι #[I,R,N.st.mono n] n #[w,ru,RV.mono n _ _ q]
noncomputable def VL:IV->Tx->IH->Res IV
 |.ref i,[y],h=>match h[i]? with
  |some (.lst xs)=>if xs.length<sizeLine then .ok .non (h.set i<|.lst<|xs++[y])else .stuck
  |_=>.stuck
 |_,_,_=>.stuck
theorem Jt0:MtI ce X "list" "list.append" VL:=by
 intro pj s σ H ι σi h x xs v us Q E N rx rs K;obtain⟨xv,rx,qx⟩:=rx;obtain⟨vs,rv,qs⟩:=rs;cases x with
 |ref i=>
  match xs,K with
  |[y],K=>
   obtain⟨a,rfl,ha⟩:=qx;obtain⟨w,rfl,qw⟩:=qs.one_of;dsimp only[VL]at K;cases hi:h[i]? with|none=>rw[hi]at K;exact Zf K|some ob=>
    rw[hi]at K;cases ob with
    |lst zs=>
     dsimp only at K;split at K
     ·rename_i hz;obtain⟨ws,e1,r1⟩:=N.at hi ha;exact Jry (Jjs (X:=X.wish E)) N.inv rx rv #[a,ws,w,rfl,rfl,e1,by rw[r1.length];exact hz,finW N K ha e1 (r1.append<|RVs.one qw) rfl]
     ·exact Zf K
    |_=>exact Zf K
  |[],K=>exact Zf K
  |_::_::_,K=>exact Zf K
 |_=>cases xs<;>exact Zf K
def setI:IV->IV->IV->ISt->IH->SRes
 |.ref i,.int k,v,σ,h=>match h[i]? with
  |some (.lst xs)=>(match ixN xs.length k with
   |some j=>.next σ<|h.set i<|.lst<|xs.set j v
   |none=>.stuck)
  |_=>.stuck
 |_,_,_,_,_=>.stuck
def gSb(o i:E1):G1:=λv σ h=>rS σ (o σ h) λov h1=>rS σ (i σ h1) λiv h2=>setI ov iv v σ h2
theorem J3z{oe ie:Expr}{mo mi:E1}{pos:Pos}(ho:PEi ce X oe mo)(hi:PEi ce X ie mi) (ha:∀v,Ze4 (.Subscript oe ie pos) X.env v=(do
   let ov<-Zce [v] (Zby oe X.env)
   let iv<-Zce [v,ov] (Zby ie X.env)
   ZfJ pos
   Zce [v,ov,iv] (setItem ov iv v)
   release [v,ov,iv] []):=by intro _;rfl):PGi ce X (.Subscript oe ie pos) (gSb mo mi):=by
 intro pj s σ H ι σi h v u Q E N r K;rw[ha];refine Zc<|ZT<|krun ho N K λov h1 ou s1 H1 ι1 N1 n1 r1 K1=>?_
 refine Zc<|ZT<|krun hi N1 K1 λiv h2 iu s2 H2 ι2 N2 n2 r2 K2=>?_
 have r':RU X.K ι2 H2 v u:=(r.mono n1).mono n2;obtain⟨ox,ro,qo⟩:=r1.mono n2;obtain⟨ix,ri,qi⟩:=r2;obtain⟨vx,rvx,qv⟩:=r';refine Zc<|ZbT<|Zc<|ZT ?_;cases ov with
 |ref i=>
  cases iv with
  |int k=>
   obtain⟨a,rfl,haa⟩:=qo;cases (show ix=.int k from qi);dsimp only[setI]at K2;cases hh:h2[i]? with|none=>rw[hh]at K2;exact Zf K2|some ob=>
    rw[hh]at K2;cases ob with
    |lst xs=>
     dsimp only at K2;cases hj:ixN xs.length k with|none=>rw[hj]at K2;exact Zf K2|some j=>
      rw[hj]at K2;obtain⟨ws,e1,r1'⟩:=N2.at hh haa;refine Zar (Jmi (X:=X.wish E) pj s2 σ H2 (.ref a) (.int k) vx ou iu u (λH'=>H'=upd H2 a (.lst<|ws.set j vx)) (N2.inv.wish E) ro ri rvx #[a,ws,k,j,rfl,rfl,e1,by rw[r1'.length];exact hj,rfl]) (λ_ s3 hq=>?_) λ_ _ z=>z
      obtain⟨H',I',rfl⟩:=hq;have n:Nxt ι2 H2 ι2 (upd H2 a<|.lst<|ws.set j vx):=#[#[[],03],Ext.upd_mut e1<|by rw[e1];exact Za8];obtain⟨R3,_⟩:=N2.rel.write (o:=.lst<|ws.set j vx) (io:=.lst<|xs.set j v) haa e1 (by rw[e1];exact Za8) #[_,Jz,(RVs.mono n _ _ r1').set (RV.mono n _ _ qv) j];exact wpAny_release<|K2 s3 σ _ ι2 #[I'.unwish,R3,N2.st.mono n] n
    |_=>exact Zf K2
  |_=>exact Zf K2
 |_=>cases iv<;>exact Zf K2
end
section
variable{ce:CeT}{X:Cx}
noncomputable def keyI:IV->Option Key|.int i=>Za<|.inl i|.str x=>Za<|.inr x|_=>Zd
theorem Jh7{K:W.Frag}{ι:Tw}{H:Hp}{x:IV}{v:V}{k:Key}(e:keyI x=Za k)(r:RV K ι H x v):v=kV k:=by cases x with|int i=>cases e;exact r|str y=>cases e;exact r|_=>cases e
def maxI:IV->IV->IH->Res IV|.int i,.int j,h=>.ok (.int (if j>i then j else i)) h|_,_,_=>.stuck
def minI:IV->IV->IH->Res IV|.int i,.int j,h=>.ok (.int (if j<i then j else i)) h|_,_,_=>.stuck
theorem J3p(hc:X.calm=Zh):Qr ce X (.builtin "max") (on2 maxI):=by
 intro pj s σ H ι σi h xs us Q E N r K;obtain⟨vs,rv,q⟩:=r;match xs,K with
 |[x,y],K=>
  obtain⟨v,w,rfl,qx,qy⟩:=q.two_of;cases x with
  |int i=>cases y with|int j=>cases (show v=.int i from qx);cases (show w=.int j from qy);exact QO (Jo7 (X:=X.wish E) hc) N.inv rv #[i,j,rfl,fin0 N K rfl]|_=>exact Zf K
  |_=>cases y<;>exact Zf K
 |[],K=>exact Zf K
 |[_],K=>exact Zf K
 |_::_::_::_,K=>exact Zf K
theorem J3q(hc:X.calm=Zh):Qr ce X (.builtin "min") (on2 minI):=by
 intro pj s σ H ι σi h xs us Q E N r K;obtain⟨vs,rv,q⟩:=r;match xs,K with
 |[x,y],K=>
  obtain⟨v,w,rfl,qx,qy⟩:=q.two_of;cases x with
  |int i=>cases y with|int j=>cases (show v=.int i from qx);cases (show w=.int j from qy);exact QO (Jo8 (X:=X.wish E) hc) N.inv rv #[i,j,rfl,fin0 N K rfl]|_=>exact Zf K
  |_=>cases y<;>exact Zf K
 |[],K=>exact Zf K
 |[_],K=>exact Zf K
 |_::_::_::_,K=>exact Zf K
noncomputable def Vq:Tx->Option (Tk)|[]=>Za []|.str x::r=>(Vq r).map (x:: ·)|_=>Zd
theorem Jrt{K:W.Frag}{ι:Tw}{H:Hp}:∀{xs:Tx}{zs:Tk}{vs:Ud}{us:Tv},Vq xs=Za zs->RVs K ι H xs vs->Vals vs us->∃l:List<|Str×Tok,us=Zgn l/\l.map (·.1)=zs
 |[],zs,vs,us,e,q,r=>by cases e;have e1:vs=[]:=q;subst e1;cases r;exact#[[],rfl,rfl]
 |x::xs,zs,vs,us,e,q,r=>by
  obtain⟨v,vr,e1,q1,q2⟩:=q;subst e1;cases r with
  |cons r1 r2=>
   cases x with
   |str y=>obtain⟨z2,e2,rfl⟩:=Z8.mp (show(Vq xs).map (y:: ·)=Za zs from e);cases (show v=.str y from q1);obtain⟨t,rfl⟩:=r1;obtain⟨l,rfl,hl⟩:=Jrt e2 q2 r2;exact#[(y,t)::l,rfl,by rw[ZQ,hl]]
   |_=>cases e
end
noncomputable def JF:Tx->Option (Tp)|[]=>Za []|.int i::r=>(JF r).map (i:: ·)|_=>Zd
theorem Vi{K:W.Frag}{ι:Tw}{H:Hp}:∀{xs:Tx}{ns:Tp}{vs:Ud}{us:Tv},JF xs=Za ns->RVs K ι H xs vs->Vals vs us->Zbs us ns
 |[],ns,vs,us,e,q,r=>by cases e;have e1:vs=[]:=q;subst e1;cases r;exact .nil
 |x::xs,ns,vs,us,e,q,r=>by
  obtain⟨v,vr,e1,q1,q2⟩:=q;subst e1;cases r with
  |cons r1 r2=>
   cases x with
   |int i=>obtain⟨n2,e2,rfl⟩:=Z8.mp (show(JF xs).map (i:: ·)=Za ns from e);cases (show v=.int i from q1);obtain⟨t,rfl⟩:=r1;exact .cons i t<|Vi e2 q2 r2
   |_=>cases e
theorem Jbu:∀{us:Tv}{ns:Tp},Zbs us ns->us.length=ns.length
 |_,_,.nil=>rfl
 |_,_,.cons _ _ r=>by simp[Jbu r]
section
variable{ce:CeT}{X:Cx}
noncomputable def sumI:IV->IH->Res IV
 |.ref i,h=>match h[i]? with
  |some (.lst xs)=>(match JF xs with
   |some ns=>.ok (.int ns.sum) h
   |none=>.stuck)
  |_=>.stuck
 |_,_=>.stuck
theorem J3r(hh:X.A.handled=Zd):Qr ce X (.builtin "sum") (on1 sumI):=Vy λpj s σ H ι σi h x xv u Q E N ru qx K=>by
 cases x with
 |ref i=>
  obtain⟨a,e1,ha⟩:=qx;subst e1;cases ru;dsimp only[sumI]at K;cases hi:h[i]? with|none=>rw[hi]at K;exact Zf K|some ob=>
   rw[hi]at K;cases ob with
   |lst xs=>
    dsimp only at K;cases hb:JF xs with|none=>rw[hb]at K;exact Zf K|some ns=>
     rw[hb]at K;obtain⟨vs,e1,r1⟩:=N.at hi ha;obtain⟨its,rv,pl,hz⟩:=N.inv.list<|SqL.of e1;have are:=Vi hb r1 rv;obtain⟨ys,hy⟩:=are.allInts.items;have pl':s.heap.IsList a (intItems ys):=hy▸pl.isList;refine sum_intListG hh pl' λh2 tk t2 kk=>?_
     have en:ns=ys.toList.map (·.1):=by have q1:=are.numsOf;have q2:=congrArg (λz:Tj=>numsOf z.toList) hy;simp only at q2;rw[<-q1];exact q2.trans<|nums_intItems ys
     have es:preSum (numAt ys) ys.size=ns.sum:=by rw[preSum_eq,en,Zb0 03]
     rw[es];exact fin0 N K rfl _ _ (N.inv.kept (t':=tk) kk) #[_,rfl]
   |_=>exact Zf K
 |_=>exact Zf K
end
noncomputable def JT (f:Nat->Int):Nat->Int|0=>0|1=>f 0|j+2=>if f (j+1)>JT f (j+1)then f (j+1)else JT f (j+1)
theorem Jeg(f:Nat->Int)(hj:0<j):JT f (j+1)=if f j>JT f j then f j else JT f j:=by cases j with|zero=>omega|succ j=>rfl
def mmS:{F:String->CmpOp->Zb5 // Zb5.«max.loop» =F "max" .Gt/\Zb5.«min.loop» =F "min" .Lt}:=#[_,by unfold Zb5.«max.loop»;exact rfl,by unfold Zb5.«min.loop»;exact rfl]
structure Mm(nm L:String)(op:CmpOp):Prop where
 en:entryFor table L=Za (mmS.1 nm op)
 pl:plainId L=Zh
 nm:(toString nm++toString ".loop":String)=L
theorem mmN:Mm "min" "min.loop" .Lt:=#[PySem.F.entry_min_loop,PySem.F.plain_min_loop,01]
section
variable{pr:ZD}{wd:ZV}{B:ZH}{R:ZeV->Zk->Prop}{it:Zo}{fps wrs:Tw}{n:Nat}{P:Nat->Zg->Prop}{St:Nat->Zaw->Prop}
abbrev liOb(l:Zo):Obj:={cls:=.type "list_iterator",data:=.fields (Zay [.ref l,.int 0 0])}
abbrev J14(v:Zg)(c:Nat):Obj:={cls:=.type "list",dict:=Zd,data:=.seq (Zay [v,v]) c,slots:=#[]}
theorem Jh9:(toString "max"++toString ".loop":String)="max.loop":=01
theorem Jx6{kw:Wk}(W:Walks pr wd B.in1 it fps wrs n P St)(f:Nat->Int)(hf:∀i v,P i v->∃t,v=.int (f i) t)(C:Zo)(hC:C∉fps):∀(r j:Nat)(z:Zk)(v:Zg)(u:Tok)(c:Nat),n-j=r->0<j->j<=n->St j z.heap->v=.int (JT f j) u->z.heap.get? C=Za (J14 v c) ->(∀u h2 tk,(∀a o,a∉wrs->a≠C->z.heap.get? a=Za o->h2.get? a=Za o)->R (.ok<|.ret<|.int (JT f n) u) {z with heap:=h2,toks:=tk}) ->ZcR (Zz pr wd) B (.builtin "max.loop" #[[.ref it,.none,.ref C],kw]) R z:=by
 have hw:C∉wrs:=λq=>hC<|W.sub _ q
 intro r;induction r with
 |zero=>
  intro j z v u c hr h0 hj st ev gC fin;obtain rfl:j=n:=00;subst ev;refine Zaq Zd5 ?_;rw[Zaf ZaZ _];show Zt _ B.in1 (Zdy (.ref C)>>=_) _ _ z;refine Zc<|ZbW gC rfl ?_;show Zt _ B.in1 (tryCatch (ZbP<|.ref it) _>>=_) _ _ z;refine Zc<|ZaT<|W.done z _ _ st λh2 tk keep=>?_
  have gC2:=keep C _ hw gC;show Zt _ B.in1 (Zgo C (λ_=>#[])>>=_) _ _ _;refine Zc ?_;refine Zc9 gC2 rfl (Zc<|Zc1<|Zn ?_);exact fin u _ tk λa o ha hb e=>(Z1 _ _<|ZP hb).trans<|keep a o ha e
 |succ r ih=>
  intro j z v u c hr h0 hj st ev gC fin;have lt:j<n:=00;subst ev;refine Zaq Zd5 ?_;rw[Zaf ZaZ _];show Zt _ B.in1 (Zdy (.ref C)>>=_) _ _ z;refine Zc<|ZbW gC rfl ?_;show Zt _ B.in1 (tryCatch (ZbP<|.ref it) _>>=_) _ _ z;refine Zc<|ZaT<|W.item j z _ _ lt st λy h2 tk hP st2 keep=>?_
  obtain⟨t,rfl⟩:=hf j y hP;have gC2:=keep C _ hw gC;have cmp:=CmpOf.ints_gt (prog:=pr) (w:=wd) (A:=B.in1) (P:=λi v=>∃t,v=.int (if i=0 then f j else JT f j) t) (λi=>if i=0 then f j else JT f j) λ_ _ q=>q
  show Zt _ B.in1 (tryCatch (Zce [ZcC (f j) t,ZcC (f j) t]<|ZdP .Gt (.int (f j) t) (.int (JT f j) u)>>=_) _>>=_) _ _ _;refine Zc<|ZaT<|ZT<|Zc<|cmp 0 1 _ _ _ _ _ #[t,03] #[u,03] ?_;refine Zc<|ZT<|ZbI ?_;refine Zc<|Zc1<|Zn ?_;have step:=Jeg f h0;by_cases hb:f j>JT f j
  ·rw[if_pos hb]at step;simp only[if_true,show ¬(1:Nat)=0 by decide,if_false,decide_eq_true hb];refine Zc ?_;refine Zc9 gC2 rfl (Zc<|Zc1 ?_);rw[Jh9];refine Zn #[ZaM ZaZ _,ih (j+1) _ (.int (f j) t) t _ 00 00 lt (W.frame _ _ _ st2 λa ha o e=>?_) (by rw[step]) (Zat _ gC2 rfl) λu2 h3 tk3 k3=>?_]
   ·exact(Z1 _ _ λq:C=a=>hC<|by rw[q];exact ha).trans e
   ·exact fin u2 h3 tk3 λa o ha hc e=>k3 a o ha hc<|(Z1 _ _<|ZP hc).trans<|keep a o ha e
  ·rw[if_neg hb]at step;simp only[if_true,show ¬(1:Nat)=0 by decide,if_false,decide_eq_false hb,Zad];refine Zc<|Zc1 ?_;rw[Jh9];refine Zn #[ZaM ZaZ _,ih (j+1) _ (.int (JT f j) u) u c 00 00 lt st2 (by rw[step]) gC2 λu2 h3 tk3 k3=>?_];exact fin u2 h3 tk3 λa o ha hc e=>k3 a o ha hc<|keep a o ha e
end
theorem Jos(a v:Zg):Zfa "max" #[[a],[(Zba "default",v)]]:=by unfold Zfa;kernel_rfl
section
variable{pr:ZD}{wd:ZV}{B:ZH}{E:QvT}{z:Zk}{l:Zo}{us:Tv}{ns:Tp}{d:Wz}{Q:QvT}{kw:Wk}
def J3j(ns:Tp)(d:Wz)(v:Zg):Prop:=(ns=[]/\d=Za v)∨(ns≠[]/\∃u,v=.int (JT (λi=>ns.getD i 0) ns.length) u)
theorem Jq2(hk:ZbR "max" ["key","default"] 0 #[[],kw]=pure [Zd,d])(ha:Zfa "max" #[[.ref l],kw])(hn:ns=[]->∃v,d=Za v)(hh:B.handled=Zd)(hl:z.heap.IsList l us.toArray)(hi:Zbs us ns)
  (hQ:∀v h2 tk,J3j ns d v->(∀b o,z.heap.get? b=Za o->h2.get? b=Za o)->Q v {z with heap:=h2,toks:=tk}):
  Zt (Zz pr wd) B (call (.builtin "max") [.ref l] kw) Q E z:=by
 obtain⟨ol,hol,_⟩:=id hl;have lt:l<z.heap.objs.size:=Z0 hol;have ll:=Jbu hi;refine kmk_tree PySem.F.kind_max PySem.F.plain_max PySem.F.entry_max ha ?_;show Zt _ B.in1 (ZbR "max" ["key","default"] 0 #[[],kw]>>=_) _ _ z;refine Zc<|Zf4 hk ?_;refine Zc<|Zn ?_;refine Zc<|Zbk hl ?_;refine Zc<|Zcj ?_<|ZA _;rw[Jh9];have ne:l≠z.heap.objs.size:=Z5 lt;have W:=Zdn (prog:=pr) (w:=wd) (A:=B.in1) hh z.heap.objs.size l ne us.toArray;have sz:us.toArray.size=us.length:=Zx ..;have hS:(z.heap.push<|liOb l).objs.size=z.heap.objs.size+1:=ZdG ..;have hC:(z.heap.push<|liOb l).objs.size∉[z.heap.objs.size,l]:=by rw[hS];simp only[ZB,Zai,or_false,not_or];exact#[ZaN<|Za4 _,ZaN<|Zb1 lt]
 have hw:(z.heap.push<|liOb l).objs.size∉[z.heap.objs.size]:=by rw[hS];simp only[ZB,Zai,or_false];exact ZaN<|Za4 _
 have old:∀b o,z.heap.get? b=Za o->((z.heap.push<|liOb l).push<|ZR "list" #[] 0).get? b=Za o:=λb o e=>Ze _<|Ze _ e
 have gI:((z.heap.push<|liOb l).push<|ZR "list" #[] 0).get? z.heap.objs.size=Za (liOb l):=Ze _<|Zv _ rfl;have gC:((z.heap.push<|liOb l).push<|ZR "list" #[] 0).get? (z.heap.push<|liOb l).objs.size=Za (ZR "list" #[] 0):=Zv _ rfl;have notin:∀b o,z.heap.get? b=Za o->b∉[z.heap.objs.size]:=λb o e q=>Z5 (Z0 e)<|Z9.mp q
 have notC:∀b o,z.heap.get? b=Za o->b≠(z.heap.push<|liOb l).objs.size:=λb o e=>by rw[hS];exact Z5<|Zb1<|Z0 e
 refine Zn #[ZaM ZaZ _,Zaq Zd5 ?_];rw[Zaf ZaZ _];show Zt _ B.in1 (Zdy (.ref _)>>=_) _ _ _;refine Zc<|ZbW gC rfl ?_;show Zt _ B.in1 (tryCatch (ZbP<|.ref z.heap.objs.size) _>>=_) _ _ _;by_cases h0:us.length=0
 ·refine Zc (ZaT<|W.done _ _ _ (by rw[sz,h0];exact#[#[_,gI,rfl,rfl],(hl.push _).push _]) λh2 tk keep=>?_);obtain⟨v,rfl⟩:=hn<|ZaF 05;show Zt _ B.in1 (rule _>>=_) _ _ _;refine Zc<|Zb9<|Zn ?_;refine hQ v h2 tk (.inl #[ZaF 05,rfl]) λb o e=>keep b o (notin b o e)<|old b o e
 ·refine Zc (ZaT<|W.item 0 _ _ _ (by rw[sz];lia) #[#[_,gI,rfl,rfl],(hl.push _).push _] λy h2 tk hP st2 keep=>?_);have gC2:=keep _ _ hw gC;show Zt _ B.in1 (Zgo (z.heap.push<|liOb l).objs.size (λ_=>(Zay [y,y]))>>=_) _ _ _;refine Zc ?_;refine Zc9 gC2 rfl ?_;rw[Jh9];have hf:∀(i:Nat)(v:Zg),us.toArray[i]?=Za v->∃t,v=.int ((λi=>ns.getD i 0) i) t:=λi v q=>Zf5 hi i v<|by simpa using q
  obtain⟨t,rfl⟩:=hf 0 y hP;refine Zn #[ZaM ZaZ _,Jx6 W (λi=>ns.getD i 0) hf _ hC _ 1 _ _ t _ rfl 01 (by rw[sz];lia) (W.frame _ _ _ st2 λa ha o e=>?_) rfl (Zat _ gC2 rfl) λu h3 tk3 k3=>?_]
  ·exact(Z1 _ _ λq=>hC<|by rw[q];exact ha).trans e
  ·rw[sz,ll];refine hQ _ h3 tk3 (.inr #[λq=>h0 (by rw[ll,q];rfl),u,rfl]) λb o e=>k3 b o (notin b o e) (notC b o e)<|(Z1 _ _<|ZP<|notC b o e).trans<|keep b o (notin b o e)<|old b o e
end
section
variable{ce:CeT}{X:Cx}
def maxD(ns:Tp)(d:IV):IV:=if ns=[]then d else .int (JT (λi=>ns.getD i 0) ns.length)
def Xl(aa:A1)(md:E1):E1:=λσ h=>(aa σ h).bind λxs h1=>(md σ h1).bind λd h2=>match xs with|[.ref i]=>(match h2[i]? with|some (.lst ys)=>(match JF ys with|some ns=>.ok (maxD ns d) h2|none=>.stuck)|_=>.stuck)|_=>.stuck
theorem J0v{a de:Expr}{aa:A1}{md:E1}{p pos kp:Pos}(hh:X.A.handled=Zd)(hg:Gl X "max")(hm:X.mg "max"=Zd)(ha:PAi ce X [a] aa)(hd:PEi ce X de md)(hs:ZG [a] X.env=[(Zj,Zby a X.env)]):PEi ce X (.Call (.Name "max" p) [a] [#[Za "default",de,kp]] pos) (Xl aa md):=λpj s σ H ι σi h Q E N K=>by
 refine Zal<|Qp N.inv hg hm rfl ?_;refine callWith_kw ?_ (by rw[hs];rfl) (by rw[hs];rfl) rfl rfl;refine(ha pos).run N K λxs h1 us s1 H1 ι1 N1 n1 r1 K1=>?_
 refine ZbY<|Zc<|PX.run hd N1 K1 λd h2 du s2 H2 ι2 N2 n2 r2 K2=>Zc<|ZbT<|Zn<|Zdd ?_
 obtain⟨vs,rv,qs⟩:=r1.mono n2;cases xs with|nil=>exact Zf K2|cons x t=>
  cases t with|cons _ _=>cases x<;>exact Zf K2|nil=>
   cases x with
   |ref i=>
    obtain⟨w,rfl,ad,rfl,hav⟩:=qs.one_of;obtain⟨u,rfl,ru⟩:=QP rv;cases ru;dsimp only at K2;cases hi:h2[i]? with|none=>rw[hi]at K2;exact Zf K2|some ob=>
     rw[hi]at K2;cases ob with
     |lst ys=>
      dsimp only at K2;cases hb:JF ys with|none=>rw[hb]at K2;exact Zf K2|some ns=>
       rw[hb]at K2;dsimp only at K2;obtain⟨ws,e1,r3⟩:=N2.at hi hav;obtain⟨its,rv2,pl,_⟩:=N2.inv.list<|SqL.of e1;refine Jq2 (d:=Za du) rfl (Jos _ _) (λ_=>#[_,rfl]) hh pl.isList (Vi hb r3 rv2) λv h3 tk mi kk=>?_
       have N3:Now ce X pj ι2 σi h2 σ H2 {s2 with heap:=h3,toks:=tk}:=#[N2.inv.kept (t':=tk) kk,N2.rel,N2.st];rcases mi with⟨e,ev⟩|⟨e,t,rfl⟩
       ·cases ev;have em:maxD ns d=d:=if_pos e;rw[em]at K2;exact K2 _ _ _ _ N3 .refl r2
       ·have em:maxD ns d=.int (JT (λi=>ns.getD i 0) ns.length):=if_neg e;rw[em]at K2;exact K2 _ _ _ _ N3 .refl #[.int _,#[t,rfl],rfl]
     |_=>exact Zf K2
   |_=>exact Zf K2
end
noncomputable def metB (f:Nat->Str)(i:Nat)(k:Str):Bool:=(ZU i).any λj=>decide (k=f j)
def cntD(f:Nat->Str):Nat->Nat|0=>0|i+1=>if metB f i (f i)then cntD f i else cntD f i+1
theorem Jqy(f:Nat->Str)(i:Nat)(k:Str):metB f (i+1) k=(metB f i k||decide (k=f i)):=by simp[metB,List.range_succ]
theorem Jks(f:Nat->Str):∀i,cntD f i<=i|0=>Zm _|i+1=>by have:=Jks f i;unfold cntD;split<;>lia
section
variable{pr:ZD}{wd:ZV}{B:ZH}{R:ZeV->Zk->Prop}{it:Zo}{fps wrs:Tw}{G:Ta->Ta->Prop}{n:Nat}{P:Nat->Zg->Prop}{St:Nat->Zk->Prop}
abbrev Vf(pr:ZD)(wd:ZV)(hp:Zaw)(a:Zo)(f:Nat->Str)(i:Nat):Prop:=hp.SetOf (ZdN pr wd) a (λk=>metB f i k)<|cntD f i
theorem Vf.moved{hp h2:Zaw}(q:Vf pr wd hp a f i)(m:∀o,hp.get? a=Za o->h2.get? a=Za o):Vf pr wd h2 a f i:=by obtain⟨o,es,ep,t,ho,rest⟩:=q;exact#[o,es,ep,t,m o ho,rest]
theorem Jup(W:WalksS pr wd B.in1 it fps wrs G n P St)(C:Zo)(hC:C∉fps)(f:Nat->Str)(hf:∀i v,P i v->∃t,v=.str (f i) t)(room:n+1<ZbJ):∀(r i:Nat)(z:Zk),n-i=r->i<=n->St i z->Vf pr wd z.heap C f i->(∀z2,Moved (C::wrs) G z z2->Vf pr wd z2.heap C f n->R (.ok<|.ret .none) z2) ->ZcR (Zz pr wd) B (.builtin "set.update.loop" #[[.ref C,.ref it],[]]) R z:=by
 have nw:C∉wrs:=λq=>hC<|W.sub _ q
 have more:∀b∈wrs,b∈C::wrs:=λb q=>Zl _ q
 intro r;induction r with
 |zero=>
  intro i z hr hi st hS fin;obtain rfl:i=n:=05;refine Zaq Zbg ?_;rw[Zaf Zax _];show Zt _ B.in1 (ZbP (.ref it)>>=_) _ _ z;refine Zc<|W.done z _ _ st λz2 mv=>?_
  show Zt _ B.in1 (ret Zac) _ _ z2;exact Zn<|fin z2 (mv.mono more)<|hS.moved λo e=>mv.heap C _ nw e
 |succ r ih=>
  intro i z hr hi st hS fin;have lt:i<n:=05;refine Zaq Zbg ?_;rw[Zaf Zax _];show Zt _ B.in1 (ZbP (.ref it)>>=_) _ _ z;refine Zc<|W.item i z _ _ lt st λv z2 hP st2 mv=>?_
  obtain⟨t,rfl⟩:=hf i v hP;have hS2:Vf pr wd z2.heap C f i:=hS.moved λo e=>mv.heap C _ nw e
  have ki:(ZdN pr wd).is (f i) (.str (f i) t)=Zh:=strKind_is _ _ _ _;show Zt _ B.in1 (Zce [ZfG (f i) t] (setAdd C<|.str (f i) t)>>=_) _ _ z2;refine Zc<|ZT ?_;unfold setAdd;refine ZT ?_;refine Zc<|(ZdN pr wd).pyHash (k:=f i) ki ?_;have rm:cntD f i+1<ZbJ:=by have:=Jks f i;lia
  refine wpAny_setAddHashed_of (knd:=ZdN pr wd) (s:={z2 with toks:=z2.toks+1}) ki rfl hS2 rm λh3 sb hS3=>?_
  have hS4:Vf pr wd h3 C f (i+1):=SetOf_congr hS3 (λk=>(Jqy f i k).symm) (by show _=cntD f (i+1);rfl);refine Zn #[ZaM Zax _,ih (i+1) _ 05 lt (W.frame _ z2 _ _ st2 (ZaR _) λb q o e=>?_) hS4 λz5 m5 hS5=>?_]
  ·rw[sb.2 b λe2:b=C=>hC<|by rw[<-e2];exact q];exact e
  ·refine fin z5 (Moved.trans W.gtrans ((mv.mono more).then_heap (ZaR _) λb o q e=>?_) m5) hS5;rw[sb.2 b λe2:b=C=>q<|by rw[e2];exact Z2];exact e
end
section
variable{pr:ZD}{wd:ZV}{B:ZH}{E:QvT}{z:Zk}{l:Zo}{us:Tv}{zs:Tk}{Q:QvT}
abbrev JI(led:Bool):Obj:={cls:=.type "set",dict:=Zd,data:=.set #[] 0 (.fresh 0 0 led)}
abbrev QA(zs:Tk):Nat->Str:=λi=>zs.getD i Str.empty
set_option maxRecDepth 100000 in
theorem Juo{l2:List (Str×Tok)}(hh:B.handled=Zd)(hl:z.heap.IsList l us.toArray)(eu:us=Zgn l2)(ez:l2.map (·.1)=zs)(room:zs.length+1<ZbJ)
  (fin:∀(h2:Zaw)(tk:Nat),Vf pr wd h2 z.heap.objs.size (QA zs) zs.length->(∀b o,z.heap.get? b=Za o->h2.get? b=Za o)->Q (.ref z.heap.objs.size) {z with heap:=h2,toks:=tk}):
  Zt (Zz pr wd) B (call (.type "set") [.ref l]) Q E z:=by
 have len:us.toArray.size=zs.length:=by rw[eu,<-ez];simp[Zgn]
 have vals:∀(i:Nat)(v:Zg),us.toArray[i]?=Za v->∃t,v=.str (QA zs i) t:=λi v q=>by rw[eu]at q;simp only[Zgn,Zfr,Zy]at q;obtain⟨p,hp,rfl⟩:=Z8.mp q;refine#[p.2,?_];rw[<-ez];simp[QA,Zi,Zy,hp]
 obtain⟨c,tl,hmro⟩:=PySem.F.called_set.mro;have hmade:=PySem.F.called_set.made;have hsub:=PySem.F.called_set.sub;refine ZeY<|Zfl ?_;show Zt _ _ (callAny (.type "set") _) _ _ _;refine Zn #[Code.quiet_builtin _ (by decide +kernel),Zaq ZeN ?_];rw[Around.under_plain (Zfs "set" [.ref l] []) rfl];have no1:=PySem.F.called_set.notType;have no2:=PySem.F.called_set.canCreate;have ok1:=Zfb<|.ref l;repeat (any_goals (first|assumption|wp_step))
 refine Zc3 (code_set_new_1 (.ref l) (E:=E) (Q₁:=λobj z1=>∃led:Bool,obj=.ref z.heap.objs.size/\z1={z with heap:=z.heap.push (JI led)}) λled=>#[led,rfl,rfl]) λres z1 hr=>?_
 cases res with|error e=>exact hr|ok fl=>
  cases fl with
  |ret obj=>
   obtain⟨led,rfl,rfl⟩:=hr;have gS:(z.heap.push<|JI led).get? z.heap.objs.size=Za (JI led):=Zv _ rfl;have tS:Ze7 {z with heap:=z.heap.push (JI led)} (.ref z.heap.objs.size) "set":=#[_,gS,rfl];have in1:=PySem.F.called_set.init.lookup;have in2:=PySem.F.called_set.init.bind<|.ref z.heap.objs.size;repeat (any_goals (first|assumption|wp_step))
   refine Zc3 (codeAny_call_builtin (R:=wants (λres z2=>res=.none/\∃h2 tk,z2={z with heap:=h2,toks:=tk}/\Vf pr wd h2 z.heap.objs.size (QA zs) zs.length/\(∀b o,z.heap.get? b=Za o->h2.get? b=Za o)) E)
    PySem.F.called_set.init.plain Zfc (check_set_init_1 tS ?_)) λres2 z2 hr2=>?_
   ·obtain⟨ol,hol,hcl,nl,hdl⟩:=hl;obtain⟨ocls,odict,odata,oslots⟩:=ol;simp only at hcl hdl;subst hcl;subst hdl;have gl:(z.heap.push<|JI led).get? l=Za {cls:=.type "list",dict:=odict,data:=.seq us.toArray nl,slots:=oslots}:=Ze _ hol;have sb1:=PySem.F.sub_list_set;have sb2:=Zep;have dne:(Zej "list"==Zej "dict")=Zj:=01;have hl1:(z.heap.push<|JI led).IsList l us.toArray:=#[_,gl,rfl,nl,rfl];unfold Zb5.«set.__init__» noKeywords ZdT;generalize hPI:Zel=PI
    wp_walk
    subst hPI;refine Zbk hl1 ?_;refine Zc<|Zeq ?_;have lS:l<z.heap.objs.size:=Z0 hol;have h3:B.in1.in1.in1.handled=Zd:=by simp[hh]
    have neI:l≠(z.heap.push<|JI led).objs.size:=by rw[ZbV];exact Z5<|Zb1 lS
    have nC:z.heap.objs.size∉[(z.heap.push<|JI led).objs.size,l]:=by rw[ZbV];simp only[ZB,Zai,or_false,not_or];exact#[Z5<|Za4 _,ZaN lS]
    refine Jup ((Zdn h3 _ l neI us.toArray).toS) z.heap.objs.size nC (QA zs) vals (by rw[len];exact room) (us.toArray.size-0) 0 _ 05 (ZA _) #[#[_,Zv _ rfl,rfl,rfl],(hl1.push _)] ?start ?stop;case start=>have g0:((z.heap.push<|JI led).push<|liOb l).get? z.heap.objs.size=Za (JI led):=Ze _ gS;exact SetOf_congr ((setObjOf_fresh (knd:=ZdN pr wd) led).setOf g0<|by unfold ZbJ;lia) (λ_=>rfl) rfl
    case stop=>
     intro z5 mv hS5;obtain⟨h5,g5,d5,tk5,os5⟩:=z5;have eg:g5=z.gens:=mv.gens;have ed:d5=z.drawn:=mv.drawn;have eo:os5=z.os:=mv.os;subst eg;subst ed;subst eo;show Zt _ _ _ _ _ _;refine Zn ?_;show Zt _ _ (ret Zac) _ _ _;rw[len]at hS5;refine Zn #[rfl,h5,tk5,rfl,hS5,λb o e=>?_];have lb:=Z0 e;have b1:b≠z.heap.objs.size:=Z5 lb;have b2:b≠(z.heap.push<|JI led).objs.size:=by rw[ZbV];exact Z5<|Zb1 lb
     exact mv.heap b o (by simp only[ZB,Zai,or_false,not_or];exact#[b1,b2])<|Ze _<|Ze _ e
   ·cases res2 with|error e=>exact hr2|ok fl2=>
     cases fl2 with
     |ret rv=>
      obtain⟨rfl,h2,tk,rfl,hS2,keep⟩:=hr2;repeat (any_goals (first|assumption|wp_step))
      exact fin _ _ hS2 keep
     |_=>exact hr2.elim
  |_=>exact hr.elim
end
section
variable{ce:CeT}{X:Cx}
def XY(aa:A1):E1:=λσ h=>(aa σ h).bind λxs h1=>match xs with|[.ref i]=>(match h1[i]? with|some (.lst ys)=>(match Vq ys with|some zs=>if zs.length+1<ZbJ then .ok (.int<|cntD (QA zs) zs.length) h1 else .stuck|none=>.stuck)|_=>.stuck)|_=>.stuck
theorem Jtf{a:Expr}{aa:A1}{p pos p2 pos2:Pos}(hh:X.A.handled=Zd)(g1:Gl X "len")(m1:X.mg "len"=Zd)(g2:Gl X "set")(m2:X.mg "set"=Zd)(ha:PAi ce X [a] aa)(hs:ZG [a] X.env=[(Zj,Zby a X.env)]):
  PEi ce X (.Call (.Name "len" p) [.Call (.Name "set" p2) [a] [] pos2] [] pos) (XY aa):=λpj s σ H ι σi h Q E N K=>by
 refine Zal<|Qp N.inv g1 m1 rfl ?_;refine Zb8 ?_ rfl rfl;refine ZcX ?_;refine Zal<|Qp N.inv g2 m2 rfl ?_;refine ZaP ?_ hs rfl;refine(ha pos2).run N K λxs h1 us s1 H1 ι1 N1 n1 r1 K1=>?_
 obtain⟨vs,rv,qs⟩:=r1;cases xs with|nil=>exact Zf K1|cons x t=>
  cases t with|cons _ _=>cases x<;>exact Zf K1|nil=>
   cases x with
   |ref i=>
    obtain⟨w,rfl,ad,rfl,hav⟩:=qs.one_of;obtain⟨u,rfl,ru⟩:=QP rv;cases ru;dsimp only at K1;cases hi:h1[i]? with|none=>rw[hi]at K1;exact Zf K1|some ob=>
     rw[hi]at K1;cases ob with
     |lst ys=>
      dsimp only at K1;cases hb:Vq ys with|none=>rw[hb]at K1;exact Zf K1|some zs=>
       rw[hb]at K1;dsimp only at K1;split at K1
       ·rename_i room;obtain⟨ws,e1,r3⟩:=N1.at hi hav;obtain⟨its,rv2,pl,_⟩:=N1.inv.list<|SqL.of e1;obtain⟨l2,eu,ez⟩:=Jrt hb r3 rv2;refine Juo hh pl.isList eu ez room λh2 tk hS keep=>ZcY ?_
        obtain⟨o,es,ep,t,ho,hex,hd,hel,hmem,hbb,hf,hn⟩:=hS;have fit:(es.size:Int)<2^63:=by
         have:=Jks (QA zs) zs.length;have sb:ZbJ<=2^40:=by unfold ZbJ;decide
         lia
        refine call_len_set ho hex hd hf fit ?_;rw[hn];exact K1 _ _ _ _ #[(N1.inv.kept (t':=_) keep),N1.rel,N1.st] .refl #[.int _,#[_,rfl],rfl]
       ·exact Zf K1
     |_=>exact Zf K1
   |_=>exact Zf K1
end
section
variable{α β:Type}{h h1:IH}{σ:ISt}
theorem Jxc(e:h[n]?=Za (.exc c fs)):(SRes.exc n σ h).fin=.exc n h:=by simp[SRes.fin,e]
theorem Js2(v:IV)(σ:ISt):Ja 0 (Za v::σ) h=.ok v h:=rfl
theorem Jw9(n:Nat)(x:Te)(σ:ISt):Ja (n+1) (x::σ) h=Ja n σ h:=rfl
end
def MulS(x:Str)(n:Int):Bool:=decide (x.length<=1000/\ -1000<=n/\n<=1000)
theorem MulS.ok(h:MulS x n=Zh):MulOk x n:=by
 simp only[MulS,decide_eq_true_eq]at h;obtain⟨h1,h2,h3⟩:=h;refine#[?_,λhn _=>?_,λhn _=>?_]
 ·simp only[Bool.or_eq_false_iff,decide_eq_false_iff_not];lia
 ·have e:(1000:Int)<=(2^63-1)/n:=by rw[ZbS 05];have:(1000:Int)*n<=1000*1000:=Zbm h3 01;lia
  lia
 ·have:x.length*n.toNat<=1000*1000:=Nat.mul_le_mul h1 05;have hb:1000000<sizeLine:=01;unfold Builtin.Str.tooLong;simp only[decide_eq_false_iff_not];lia
theorem Jye:OpR X (Zbv .Mult) (λx y H Q=>∃i j,x=.str i/\y=.int j/\MulS i j=Zh/\Q (.str<|Txt.mul i j) H):=by intro pj s σ H x y v u Q I rx ry h;obtain⟨i,j,rfl,rfl,hz,q⟩:=h;obtain⟨t,rfl⟩:=rx;obtain⟨t',rfl⟩:=ry;exact SB.mul (MulS.ok hz) λt' tk=>#[.str<|Txt.mul i j,H,I.tok _,#[_,rfl],q]
def JX(x y:IV)(h:IH):Res IV:=match x with|.str i=>(match y with|.int j=>if MulS i j then .ok (.str<|Txt.mul i j) h else .stuck|_=>.stuck)|x=>Xx x y h
section
variable{ce:CeT}{X:Cx}
theorem J1v:OpI ce X (Zbv .Mult) JX:=by
 intro pj s σ H ι σi h x y v u Q E N rx ry K;cases x with
 |str i=>
  obtain⟨xv,rx,qx⟩:=rx;obtain⟨yv,ry,qy⟩:=ry;cases y with
  |int j=>
   have e1:xv=.str i:=qx;have e2:yv=.int j:=qy;subst e1 e2;dsimp only[JX]at K;split at K
   ·rename_i hz;exact JZ (Jye (X:=X.wish E)) N.inv rx ry #[i,j,rfl,rfl,hz,fin0 N K rfl]
   ·exact Zf K
  |_=>exact Zf K
 |_=>exact J4o pj s σ H ι σi h _ y v u Q E N rx ry K
end
noncomputable def valI (kvs:Wm)(k:Key):Te:=(kvs.find? λkv=>decide (kv.1=k)).map (·.2)
theorem Vr{p:Key×IV}(e:p.1=k):valI (p::r) k=Za p.2:=by simp[valI,Zc8,e]
theorem QZ{p:Key×IV}(e:¬p.1=k):valI (p::r) k=valI r k:=by simp[valI,Zc8,e]
theorem RPs.get{K:W.Frag}{ι:Tw}{H:Hp}(k:Key):∀{xs:Wm}{vs:Wq},RPs K ι H xs vs->(valI xs k=Zd/\valV vs k=Zd)∨∃v w,valI xs k=Za v/\valV vs k=Za w/\RV K ι H v w
 |[],_,h=>by have e:_=[]:=h;subst e;exact .inl #[rfl,rfl]
 |x::xs,_,h=>by
  obtain⟨v,r,rfl,q,t⟩:=h;by_cases e:x.1=k
  ·exact .inr #[x.2,v,Vr e,Jmw e,q]
  ·rw[QZ e,Jmv e];exact RPs.get k t
theorem RPs.snoc{K:W.Frag}{ι:Tw}{H:Hp}{k:Key}{v:IV}{w:V}(q:RV K ι H v w):∀{xs:Wm}{vs:Wq},RPs K ι H xs vs->RPs K ι H (xs++[(k,v)]) (vs++[(k,w)])
 |[],_,h=>by have e:_=[]:=h;subst e;exact#[w,[],rfl,q,rfl]
 |x::xs,_,h=>by obtain⟨v',r,rfl,q',t⟩:=h;exact#[v',r++[(k,w)],rfl,q',RPs.snoc q t]
section
variable{ce:CeT}{X:Cx}
def Xk:E1:=λ_ h=>.ok (.ref h.length)<|h++[.dct []]
theorem J0q:PEi ce X (.Dict [] [] pos) Xk:=λpj s σ H ι σi h Q E N K=>by
 have hn:=N.inv.hok.fresh<|Zm s.heap.objs.size;have I1:=N.inv.laid (a:=s.heap.objs.size) (o:=.dK []) (h':=s.heap.push {cls:=.type "dict",data:=.dict #[]}) (t':=s.toks) (λ_ _ q=>Ze _ q) (Zm _)<|Jsz s.heap N.inv.big;obtain⟨R1,n1⟩:=N.rel.alloc (o:=.dK []) (io:=.dct []) hn #[[],Jz,rfl];have N1:Now ce X pj (ι++[s.heap.objs.size]) σi (h++[.dct []]) σ (upd H s.heap.objs.size<|.dK []) _:=#[I1,R1,N.st.mono n1];have h0:(ι++[s.heap.objs.size])[h.length]?=Za s.heap.objs.size:=by rw[<-N.rel.len,ZE<|Zm _];simp
 exact wpAny_Dict_empty<|K _ _ _ (ι++[s.heap.objs.size]) N1 n1 #[.ref _,rfl,_,rfl,h0]
end
noncomputable def putD (kvs:Wm)(k:Key)(v:IV):Wm:=if (kvs.any λkv=>decide (kv.1=k))=Zh then kvs.map (λkv=>if kv.1=k then(kv.1,v)else kv)else kvs++[(k,v)]
theorem RPs.any{K:W.Frag}{ι:Tw}{H:Hp}(k:Key):∀{xs:Wm}{vs:Wq},RPs K ι H xs vs->(xs.any λkv=>decide (kv.1=k))=vs.any λkv=>decide (kv.1=k)|[],_,h=>by have e:_=[]:=h;subst e;rfl|x::xs,_,h=>by obtain⟨v,r,rfl,q,t⟩:=h;rw[ZdM,ZdM,RPs.any k t]
theorem RPs.upd{K:W.Frag}{ι:Tw}{H:Hp}{k:Key}{v:IV}{w:V}(q:RV K ι H v w):∀{xs:Wm}{vs:Wq},RPs K ι H xs vs->RPs K ι H (xs.map λkv=>if kv.1=k then(kv.1,v)else kv) (vs.map λkv=>if kv.1=k then(kv.1,w)else kv)
 |[],_,h=>by have e:_=[]:=h;subst e;exact rfl
 |x::xs,_,h=>by
  obtain⟨v',r,rfl,q',t⟩:=h;rw[ZQ,ZQ];by_cases e:x.1=k
  ·rw[if_pos e,if_pos e];exact#[w,_,rfl,q,RPs.upd q t]
  ·rw[if_neg e,if_neg e];exact#[v',_,rfl,q',RPs.upd q t]
theorem RPs.putKK{K:W.Frag}{ι:Tw}{H:Hp}{k:Key}{v:IV}{w:V}{xs:Wm}{vs:Wq}(q:RV K ι H v w)(r:RPs K ι H xs vs):RPs K ι H (putD xs k v) (putK vs k w):=by
 unfold putD putK;rw[r.any k];split
 ·exact r.upd q
 ·exact r.snoc q
section
variable{ce:CeT}{X:Cx}
def VT(x y:IV)(h:IH):Res IV:=match x with|.ref i=>(match h[i]? with|some (.dct kvs)=>(match keyI y with|some k=>(match valI kvs k with|some v=>.ok v h|none=>.stuck)|none=>.stuck)|_=>.stuck)|_=>.stuck
theorem J5h:IxI ce X VT:=by
 intro value slice pj s σ H ι σi h x y v u Q E N rx ry K hs;obtain⟨xv,rx,qx⟩:=rx;obtain⟨yv,ry,qy⟩:=ry;cases x with
 |ref i=>
  obtain⟨a,e1,ha⟩:=qx;subst e1;dsimp only[VT]at K;cases hi:h[i]? with|none=>rw[hi]at K;exact Zf K|some ob=>
   rw[hi]at K;cases ob with
   |dct kvs=>
    dsimp only at K;cases ek:keyI y with|none=>rw[ek]at K;exact Zf K|some k=>
     rw[ek]at K;dsimp only at K;obtain⟨ws,e1,r1⟩:=N.at hi ha;cases Jh7 ek qy;cases (show v=.ref a from rx);obtain⟨z,hd,ps,rel,dd⟩:=Jw4 N.inv.hok e1;rcases r1.get k with⟨p,q⟩|⟨v1,w1,p,q,r⟩
     ·rw[p]at K;exact Zf K
     ·rw[p]at K;have rr:=rel.val k;rw[q]at rr;obtain⟨w',hw,rw'⟩:=RelO.some_of rr;exact Zd2 (x:=w') dd.typeIs PySem.F.slot_dict_getitem.lookup (wpAny_getItem_of (Q:=λr s'=>r=w'/\Q r s') (Jxt ry) dd.mapOf hw #[rfl,fin0 N K r _ _ (N.inv.tok _) rw']) hs
   |_=>exact Zf K
 |_=>exact Zf K
noncomputable def cInD (x c:IV)(h:IH):Res IV:=match c with|.ref i=>(match h[i]? with|some (.dct kvs)=>(match keyI x with|some k=>.ok (.bl (valI kvs k).isSome) h|none=>.stuck)|_=>.stuck)|_=>.stuck
theorem J4m:OpI ce X (ZaC .In) cInD:=by
 intro pj s σ H ι σi h x y v u Q E N rx ry K;obtain⟨xv,rx,qx⟩:=rx;obtain⟨yv,ry,qy⟩:=ry;cases y with
 |ref i=>
  obtain⟨a,e1,ha⟩:=qy;subst e1;dsimp only[cInD]at K;cases hi:h[i]? with|none=>rw[hi]at K;exact Zf K|some ob=>
   rw[hi]at K;cases ob with
   |dct kvs=>
    dsimp only at K;cases ek:keyI x with|none=>rw[ek]at K;exact Zf K|some k=>
     rw[ek]at K;dsimp only at K;obtain⟨ws,e1,r1⟩:=N.at hi ha;cases Jh7 ek qx;cases (show u=.ref a from ry);obtain⟨z,hd,ps,rel,dd⟩:=Jw4 N.inv.hok e1;refine wpAny_in_of (Jxt rx) hd dd.mapOf ?_;rw[<-(rel.val k).isSome_eq];have es:(valV ws k).isSome=(valI kvs k).isSome:=by rcases r1.get k with⟨p,q⟩|⟨v1,w1,p,q,r⟩<;>rw[p,q]<;>rfl
     rw[es];exact fin0 N K rfl _ _ (N.inv.tok _) rfl
   |_=>exact Zf K
 |_=>exact Zf K
def Yq:IV->IV->IV->ISt->IH->SRes
 |.ref i,iv,v,σ,h=>match h[i]? with
  |some (.dct kvs)=>(match keyI iv with
   |some k=>if kvs.length<sizeLine then .next σ (h.set i<|.dct<|putD kvs k v)else .stuck
   |none=>.stuck)
  |_=>.stuck
 |_,_,_,_,_=>.stuck
def gSbD(o i:E1):G1:=λv σ h=>rS σ (o σ h) λov h1=>rS σ (i σ h1) λiv h2=>Yq ov iv v σ h2
theorem J0h{oe ie:Expr}{mo mi:E1}{pos:Pos}(ho:PEi ce X oe mo)(hi:PEi ce X ie mi)
  (ha:∀v,Ze4 (.Subscript oe ie pos) X.env v=(do
   let ov<-Zce [v] (Zby oe X.env)
   let iv<-Zce [v,ov] (Zby ie X.env)
   ZfJ pos
   Zce [v,ov,iv] (setItem ov iv v)
   release [v,ov,iv] [])):PGi ce X (.Subscript oe ie pos) (gSbD mo mi):=by
 intro pj s σ H ι σi h v u Q E N r K;rw[ha];refine Zc<|ZT<|krun ho N K λov h1 ou s1 H1 ι1 N1 n1 r1 K1=>?_
 refine Zc<|ZT<|krun hi N1 K1 λiv h2 iu s2 H2 ι2 N2 n2 r2 K2=>?_
 have r':RU X.K ι2 H2 v u:=(r.mono n1).mono n2;obtain⟨ox,ro,qo⟩:=r1.mono n2;obtain⟨ix,ri,qi⟩:=r2;obtain⟨vx,rvx,qv⟩:=r';refine Zc<|ZbT<|Zc<|ZT ?_;cases ov with
 |ref i=>
  obtain⟨a,rfl,haa⟩:=qo;dsimp only[Yq]at K2;cases hh:h2[i]? with|none=>rw[hh]at K2;exact Zf K2|some ob=>
   rw[hh]at K2;cases ob with
   |dct kvs=>
    dsimp only at K2;cases ek:keyI iv with|none=>rw[ek]at K2;exact Zf K2|some k=>
     rw[ek]at K2;dsimp only at K2;split at K2
     ·rename_i hl;obtain⟨ws,e1,r1'⟩:=N2.at hh haa;cases Jh7 ek qi;cases (show ou=.ref a from ro);obtain⟨z,hd,ps,rel,dd⟩:=Jw4 N2.inv.hok e1;have hz:ps.length<=sizeLine:=by rw[<-rel.length];exact z
      have hlen:(putK ws k vx).length<=sizeLine:=by have h1:=Jk0 ws k vx;have h2:=r1'.length;lia
      refine wpAny_setItem_pairs (hsz:=hz) (Jxt ri) dd λh' dd' hs=>?_
      have he:∃q,h'.get? a=Za q:=let ⟨q,_,_,hq,_⟩:=dd';#[q,hq];have I4:=Jw3 (t':=s2.toks+1) N2.inv (by rw[e1];exact Za8) hs he<|Jz8 hlen hd (rel.put k rvx) dd';have n:Nxt ι2 H2 ι2 (upd H2 a<|.dK<|putK ws k vx):=#[#[[],03],Ext.upd_mut e1<|by rw[e1];exact Za8];obtain⟨R3,_⟩:=N2.rel.write (o:=.dK<|putK ws k vx) (io:=.dct<|putD kvs k v) haa e1 (by rw[e1];exact Za8) #[_,Jz,RPs.putKK (RV.mono n _ _ qv)<|RPs.mono n _ _ r1'];exact wpAny_release<|K2 _ σ _ ι2 #[I4,R3,N2.st.mono n] n
     ·exact Zf K2
   |_=>exact Zf K2
 |_=>exact Zf K2
end
def leZ(a b:Int):Bool:=decide (a<=b)
def Vp(ns:Tp):Tp:=ns.mergeSort leZ
theorem Ju2(ns:Tp):(Vp ns).Pairwise (· <= ·):=by have:=List.pairwise_mergeSort (le:=leZ) (λa b c h1 h2=>by simp only[leZ,decide_eq_true_eq]at *;lia) (λa b=>by simp only[leZ,ZaY,decide_eq_true_eq];lia) ns;exact this.imp λh=>by simpa[leZ]using h
theorem Ju1{ns ns':Tp}(p:ns'.Perm ns)(s:ns'.Pairwise (· <= ·)):ns'=Vp ns:=List.Perm.eq_of_pairwise (le:=(· <= ·)) (λa b _ _ h1 h2=>ZdU h1 h2) s (Ju2 ns) (p.trans (List.mergeSort_perm ns leZ).symm)
theorem XD:∀{us:Tv}{ns:Tp},Zbs us ns->Vals (ns.map V.int) us|_,_,.nil=>.nil|_,_,.cons _ _ r=>.cons #[_,rfl]<|XD r
theorem Jid{K:W.Frag}{ι:Tw}{H:Hp}:∀ns:Tp,RVs K ι H (ns.map IV.int) (ns.map V.int)|[]=>rfl|_::ns=>#[_,_,rfl,rfl,Jid ns]
def srtI(xs:Tx):Option (Tx):=match JF xs with|some ns=>Za<|(Vp ns).map .int|none=>Zd
section
variable{ce:CeT}{X:Cx}
def J48:IV->IH->Res IV
 |.ref i,h=>match h[i]? with
  |some (.lst xs)=>if xs.length<64 then(match srtI xs with
   |some ys=>.ok (.ref h.length)<|h++[.lst ys]
   |none=>.stuck)else .stuck
  |_=>.stuck
 |_,_=>.stuck
end
def Q2(f:Nat->Int):Nat->Int|0=>0|1=>f 0|j+2=>if f (j+1)<Q2 f (j+1)then f (j+1)else Q2 f (j+1)
theorem Jd9(f:Nat->Int)(hj:0<j):Q2 f (j+1)=if f j<Q2 f j then f j else Q2 f j:=by cases j with|zero=>lia|succ j=>rfl
theorem Jlu(f:Nat->Int):∀k,Q2 f (k+1)=f (argBest (λi j=>decide (f i<f j)) k)|0=>rfl|k+1=>by rw[Jd9 f<|Nat.succ_pos k,Jlu f k];show _=f (if decide (f (k+1)<f (argBest _ k))=Zh then k+1 else argBest _ k);simp only[decide_eq_true_eq];split<;>rfl
section
variable{pr:ZD}{wd:ZV}{B:ZH}{E:QvT}{z:Zk}{l:Zo}{us:Tv}{ns:Tp}{Q:QvT}
theorem Jx5(hh:B.handled=Zd)(hl:z.heap.IsList l us.toArray)(hi:Zbs us ns)(hne:ns≠[])
  (hQ:∀v h2 tk,(∃u,v=.int (Q2 (λi=>ns.getD i 0) ns.length) u)->(∀b o,z.heap.get? b=Za o->h2.get? b=Za o)->Q v {z with heap:=h2,toks:=tk}):
  Zt (Zz pr wd) B (call (.builtin "min") [.ref l]) Q E z:=by
 obtain⟨ol,hol,_⟩:=id hl;have lt:l<z.heap.objs.size:=Z0 hol;have ll:=Jbu hi;have pos:0<ns.length:=List.length_pos_iff.mpr hne;have sz:us.toArray.size=us.length:=Zx ..;have hf:∀(i:Nat)(v:Zg),us.toArray[i]?=Za v->∃t,v=.int ((λi=>ns.getD i 0) i) t:=λi v q=>Zf5 hi i v<|by simpa using q
 refine call_min_walk (Zbk hl #[_,[_,l],[_],_,_,_,_,rfl,Zdn (A:=B.in1) hh _ l (Z5 lt) us.toArray,#[#[_,Zv _ rfl,rfl,rfl],hl.push _],λb hb=>?_,by rw[sz];lia,CmpOf.ints_lt (λi=>ns.getD i 0) hf,λv h' tk hP hk=>?_])
 ·show b<(z.heap.push _).objs.size;rw[ZdG];rcases ZB.mp hb with rfl|hb
  ·exact Za4 _
  ·cases Z9.mp hb;exact Zb1 lt
 ·obtain⟨u,rfl⟩:=hf _ _ hP;have e:us.toArray.size-1+1=ns.length:=by rw[sz];lia
  refine hQ _ h' tk #[u,?_] λb o e=>hk b o (λq=>Z5 (Z0 e)<|Z9.mp q)<|Ze _ e
  rw[<-e,Jlu]
end
section
variable{ce:CeT}{X:Cx}
def Xv:IV->IH->Res IV
 |.ref i,h=>match h[i]? with
  |some (.lst xs)=>(match JF xs with
   |some ns=>if ns=[]then .stuck else .ok (.int<|Q2 (λi=>ns.getD i 0) ns.length) h
   |none=>.stuck)
  |_=>.stuck
 |_,_=>.stuck
theorem Jz4(hh:X.A.handled=Zd):Qr ce X (.builtin "min") (on1 Xv):=Vy λpj s σ H ι σi h x xv u Q E N ru qx K=>by
 cases x with
 |ref i=>
  obtain⟨a,e1,ha⟩:=qx;subst e1;cases ru;dsimp only[Xv]at K;cases hi:h[i]? with|none=>rw[hi]at K;exact Zf K|some ob=>
   rw[hi]at K;cases ob with
   |lst xs=>
    dsimp only at K;cases hb:JF xs with|none=>rw[hb]at K;exact Zf K|some ns=>
     rw[hb]at K;dsimp only at K;split at K
     ·exact Zf K
     ·rename_i hne;obtain⟨vs,e1,r1⟩:=N.at hi ha;obtain⟨its,rv,pl,hz⟩:=N.inv.list<|SqL.of e1;refine Jx5 hh pl.isList (Vi hb r1 rv) hne λv h2 tk ⟨t,ev⟩ kk=>?_
      subst ev;exact fin0 N K rfl _ _ (N.inv.kept (t':=tk) kk) #[t,rfl]
   |_=>exact Zf K
 |_=>exact Zf K
end
theorem RVs.erase{K:W.Frag}{ι:Tw}{H:Hp}:∀{xs:Tx}{vs:Ud}(k:Nat),RVs K ι H xs vs->RVs K ι H (xs.eraseIdx k) (vs.eraseIdx k)|[],vs,k,h=>by cases (show vs=[]from h);exact rfl|_::_,_,0,h=>by obtain⟨v,r,rfl,q,t⟩:=h;exact t|_::_,_,k+1,h=>by obtain⟨v,r,rfl,q,t⟩:=h;exact#[v,r.eraseIdx k,rfl,q,RVs.erase k t]
section
variable{ce:CeT}{X:Cx}
noncomputable def Xo:IV->Tx->IH->Res IV
 |.ref i,[.ref j],h=>match h[i]? with
  |some (.lst xs)=>(match h[j]? with
   |some (.lst ys)=>if xs.length+ys.length<=sizeLine then .ok .non (h.set i<|.lst<|xs++ys)else .stuck
   |_=>.stuck)
  |_=>.stuck
 |_,_,_=>.stuck
theorem Jt1:MtI ce X "list" "list.extend" Xo:=by
 intro pj s σ H ι σi h x xs v us Q E N rx rs K;obtain⟨xv,rx,qx⟩:=rx;obtain⟨vs,rv,qs⟩:=rs;cases x with
 |ref i=>
  match xs,K with
  |[y],K=>
   cases y with
   |ref j=>
    obtain⟨a,rfl,ha⟩:=qx;obtain⟨w,rfl,b,rfl,hb⟩:=qs.one_of;dsimp only[Xo]at K;cases hi:h[i]? with|none=>rw[hi]at K;exact Zf K|some ob=>
     rw[hi]at K;cases ob with
     |lst zs=>
      dsimp only at K;cases hj:h[j]? with|none=>rw[hj]at K;exact Zf K|some oj=>
       rw[hj]at K;cases oj with
       |lst ys=>
        dsimp only at K;split at K
        ·rename_i hl;obtain⟨ws,e1,r1⟩:=N.at hi ha;obtain⟨ws2,e2,r2⟩:=N.at hj hb;exact Jry (Jq1 (X:=X.wish E)) N.inv rx rv #[a,b,ws,ws2,rfl,rfl,e1,e2,by rw[r1.length,r2.length];exact hl,finW (ys:=zs++ys) N K ha e1 (r1.append r2) rfl]
        ·exact Zf K
       |_=>exact Zf K
     |_=>exact Zf K
   |_=>exact Zf K
  |[],K=>exact Zf K
  |y::_::_,K=>cases y<;>exact Zf K
 |_=>cases xs with|nil=>exact Zf K|cons y r=>cases y<;>cases r<;>exact Zf K
def isK(k:Int):Zg->Bool|.int a _=>a==k|_=>Zj
theorem Jqc:∀(us:Tv)(ns:Tp),us.length=ns.length->(∀i v,us[i]?=Za v->∃t:Tok,v=ZcC (ns.getD i 0) t)->Zbs us ns|[],[],_,_=>.nil|u::us,n::ns,hl,h=>by obtain⟨t,e⟩:=h 0 u rfl;cases (show u=.int n t from e);exact .cons n t (Jqc us ns (by simpa using hl) λi v q=>h (i+1) v q)|[],_::_,hl,_=>by cases hl|_::_,[],hl,_=>by cases hl
theorem X3(j:Int):rngI 0 j=((ZU j.toNat).map λk=>((k:Nat):Int)).map IV.int:=by simp[rngI]
end
open AutoSeq1 (wpAny_loadPart') in
section
variable{prog:ZD}{w:ZV}{A:ZH}{E:QvT}{s:Zk}
end
noncomputable def QW (a:ZcT):Wv:=match a with| {posonlyargs:=[],args:=[p],vararg:=Zd,kwonlyargs:=[],kw_defaults:=[],kwarg:=Zd,defaults:=[]}=>Za p.arg|_=>Zd
noncomputable abbrev lamQ (q:Str):Str:=q++".<locals>."++"<lambda>"
abbrev lamO(q:Str)(params:ZcT)(body:Expr)(scope:ZbF)(cl:Wn)(pm ctv:Zg)(c:Zo):Obj:=W.kla_obj "<lambda>" (lamQ q) params body scope cl pm c ctv
def Qy(mg:Str->Wz)(base:Zaw):Prop:=∃bm ob,mg "__builtins__"=Za (.ref bm)/\bm≠Zdm/\bm≠Zu/\base.get? bm=Za ob/\ob.cls=.type "module"/\ob.dict=Za Zdm/\ob.data=.plain
theorem QC.rec(l:QC H q cv)(hok:HOk P w H h):h.CodeRec cv (lamQ q):=by obtain⟨c,oc,vs,t,e1,e2,e3,e4⟩:=l;exact#[c,oc,vs,t,e1,(hok c _ e2).1,e3,e4]
theorem QC.mono(fz:∀b o u,H b=Za (.frz o u)->H' b=Za (.frz o u))(l:QC H q cv):QC H' q cv:=by obtain⟨c,oc,vs,t,e1,e2,r⟩:=l;exact#[c,oc,vs,t,e1,fz _ _ _ e2,r]
theorem Jgs:∀(l:Tv),TriplesOk l->ZeI pos (l++[ZaB a,ZaB b,c])=Za cv->ZeI pos l=Za cv∨cv=c
 |[],_,e=>by
  simp only[Zbr,ZaB,ZeI]at e;split at e
  ·cases e;exact .inr rfl
  ·cases e
 |.int x t::.int y u::z::rest,h,e=>by
  simp only[ZaK,ZeI]at e ⊢;split at e
  ·rename_i hh;rw[if_pos hh];exact .inl e
  ·rename_i hh;rw[if_neg hh];exact Jgs rest h e
 |[.int _ _],h,_=>(show False from h).elim
 |[.int _ _,.int _ _],h,_=>(show False from h).elim
section
variable{ce:CeT}{X:Cx}
theorem Now.pinO{pj:PnT}{ι:Tw}{σi:ISt}{h:IH}{σ:L2.St}{H:Hp}{s:Zk}{f:Zo}{fo:Obj}(N:Now ce X pj ι σi h σ H s)(e:s.heap.get? f=Za fo)(F:FpOk X pj H f)(d:∀v,fo.data≠.cell v):Now ce X (pj++[(f,fo)]) ι σi h σ H s:=by
 have I:=N.inv.pinned (fp:=[f]) (λb hb=>by rw[Z9.mp hb];exact F) (λb hb=>by rw[Z9.mp hb];exact#[fo,e,d]);have ep:Q9 [f] s.heap=[(f,fo)]:=by simp[Q9,e]
 rw[ep]at I;exact#[I,N.rel,N.st]
theorem Jl5{q:Str}{j:Nat}{params:ZcT}{body:Expr}{scope:ZbF}{pos:Pos}{cl:Wn}{pj:PnT}{s:Zk}{σ:L2.St}{H:Hp}{ι:Tw}{σi:ISt}{h:IH}{Q E:QvT}
  (N:Now ce X pj ι σi h σ H s)(hj:h[j]?=Za (.tab q))(hcd:W.codeIn X.K X.env.code q=Zh)(hq:X.env.qual=q++".<locals>.")(hdef:defaultsOf params X.env=([],[]))(hcl:Zeo scope X.env=pure cl)(B:Qy X.mg X.base)
  (K:∀f c pm ctv s' H',Now ce X (pj++[(f,lamO q params body scope cl pm ctv c)]) ι σi h σ H' s'->Nxt ι H ι H'->QC H' q (.ref c)->Q (.ref f) s'):
  Zt (Zz X.prog X.w) X.A (Zby (.Lambda params body scope pos) X.env) Q E s:=by
 obtain⟨a,ha,hc,ps,hP,ht,hcodes⟩:=N.rel.at_ j _ hj;obtain⟨c,ec,hhd⟩:=hc _ hcd;have I:=N.inv;have C:=W.codeHd_of_K I.kIn hhd;have gP:s.heap.get? a=Za (W.tabObj ps):=I.hok a _ hP;have hg:s.heap.Ns Zu X.mg:=I.ok.mod.glob.keeps I.bk;obtain⟨bm,ob,b1,b2,b3,b4,b5,b6,b7⟩:=B;have gb:=I.bs bm ob b4;have nba:bm≠a:=λz=>by rw[z,hP]at gb;cases gb.2
 have hb:s.heap.BuiltinsAt X.mg a:=#[bm,ob,b1,b2,b3,nba,gb.1,b5,b6,b7];have nga:Zu≠a:=λz=>by obtain⟨o,es,ep,e,d,_⟩:=hg;rw[z,gP]at e;cases e;cases d
 refine W.kla_eval hdef ?_;rw[hq];cases ea:ZeI pos ps.toList with
 |some cv=>
  have LC:=hcodes pos cv ea;obtain⟨c',oc,vs,t,ecv,_⟩:=id LC;subst ecv;refine W.kla_makeFunctionHit hcl I.ok.glob hg ec C gP ht ea hb λctv h' tk hk hsz=>?_
  have I1:=I.kept (h':=h'.push<|lamO q params body scope cl ((X.mg "__name__").getD .none) ctv c') (t':=tk) λb o e=>Ze _<|hk b o e
  have N1:Now ce X pj ι σi h σ H _:=#[I1,N.rel,N.st];exact K h'.objs.size c' _ ctv _ H (N1.pinO (Zv _ rfl) (I.fpOk hsz<|I.hok.fresh hsz) λv z=>by have z':Data.func _=Zgk v:=z;cases z') .refl LC
 |none=>
  refine W.kla_makeFunction hcl I.ok.glob hg ec C gP ht ea nga hb λc' ctv h' tk hx hge hlt hrec htb=>?_
  obtain⟨c2,oc,vs,t,e2,hoc,hd,hv⟩:=hrec;cases e2;generalize hps:ps++(Zay [ZaB pos.line,ZaB pos.col,.ref c'])=ps' at htb;generalize hob:lamO q params body scope cl ((X.mg "__name__").getD .none) ctv c'=fo;have fc:H c'=Zd:=I.hok.fresh hge;have nca:c'≠a:=λz=>by rw[z,hP]at fc;cases fc
  have lts:s.heap.objs.size<=h'.objs.size:=ZC hge<|Zaa hlt;obtain⟨H',hH⟩:∃H',H'=upd (upd H a<|.tbl ps') c' (.frz oc<|.own 0):=#[_,rfl];have Ha:H' a=Za (.tbl ps'):=by rw[hH,Jn<|ZP nca,Jz]
  have Hc:H' c'=Za (.frz oc<|.own 0):=by rw[hH,Jz]
  have Ho:∀b,b≠a->b≠c'->H' b=H b:=λb h1 h2=>by rw[hH,Jn h2,Jn h1]
  have kp:∀b o,b≠a->s.heap.get? b=Za o->(h'.push fo).get? b=Za o:=λb o hb e=>Ze _<|hx b o hb e
  have ga:(h'.push fo).get? a=Za (W.tabObj ps'):=Ze _ htb;have frz:∀b o u,H b=Za (.frz o u)->H' b=Za (.frz o u):=λb o u e=>by rw[Ho b (λz=>by rw[z,hP]at e;cases e) λz=>by rw[z,fc]at e;cases e];exact e
  have tup:∀b xs,H b=Za (.tup xs)->H' b=Za (.tup xs):=λb xs e=>by rw[Ho b (λz=>by rw[z,hP]at e;cases e) λz=>by rw[z,fc]at e;cases e];exact e
  have own:∀b x,H b=Za (.own x)->H' b=Za (.own x):=λb x e=>by rw[Ho b (λz=>by rw[z,hP]at e;cases e) λz=>by rw[z,fc]at e;cases e];exact e
  have I1:Inv X pj σ H' {s with heap:=h'.push fo,toks:=tk}:=by
   refine I.step (g':=s.gens) (d':=s.drawn) (ch:=[]) (λb hb=>absurd hb 03) (λb o _ _ _ e n=>kp b o (λz=>by rw[z,hP]at n;cases n) e) (λb o _ _ _ e n=>#[o.slots,kp b o (λz=>by rw[z,hP]at n;cases n) e]) (λb o _ e n=>?_) (λb o _ e=>?_) tup frz (λb qs e=>?_) (λm hm=>?_) (λb u e=>?_) I.bare
   ·rw[Ho b (λz=>by rw[z,hP]at n;cases n)<|Z5<|Z4 (Z0 e) hge];exact n
   ·by_cases hb:b=a
    ·subst hb;exact#[_,ga]
    ·exact#[o,kp b o hb e]
   ·by_cases hb:b=a
    ·subst hb;rw[hP]at e;cases e;exact#[_,by rw[Ha,<-hps]]
    ·exact#[#[],by rw[Ho b hb (λz=>by rw[z,fc]at e;cases e),e];simp]
   ·obtain⟨o,es,ep,ho,r⟩:=hm;exact#[o,es,ep,kp _ o (λz=>by have:=I.free;rw[z,hP]at this;cases this) ho,r]
   ·by_cases hb:b=a
    ·subst hb;rw[Ha]at e;cases e;exact ga
    ·by_cases hb2:b=c'
     ·subst hb2;rw[Hc]at e;cases e;exact#[Ze _ hoc,_,Ze _ hoc]
     ·rw[Ho b hb hb2]at e;refine(I.hok b u e).stay (λd v hd r=>kp d v (λz=>?_) r) (λd z=>own d _ z) tup;subst z;rcases hd with z|z
      ·exact hb z.symm
      ·rw[hP]at z;cases z
  have n:Nxt ι H ι H':=#[#[[],03],#[tup,frz]];have LC:QC H' q (.ref c'):=#[c',oc,vs,t,rfl,Hc,hd,hv];have R:Rel ce X.K ι h H':=by
   refine#[N.rel.len,N.rel.nd,λi o e=>?_];obtain⟨b,eb,ro⟩:=N.rel.at_ i o e;refine#[b,eb,?_];by_cases hb:b=a
   ·subst hb;have hij:i=j:=N.rel.inj eb ha;subst hij;rw[hj]at e;cases e;refine#[hc,ps',Ha,?_,λpos' cv ea'=>?_]
    ·rw[<-hps,ZS];exact TriplesOk_snoc _ _ _ _ ht
    ·rw[<-hps,ZS]at ea';rcases Jgs ps.toList ht ea' with z|z
     ·exact(hcodes pos' cv z).mono frz
     ·rw[z];exact LC
   ·refine ro.mono n λu hu=>?_
    rw[Ho b hb λz=>by rw[z,fc]at hu;cases hu];exact hu
  have N1:Now ce X pj ι σi h σ H' _:=#[I1,R,N.st.mono n];subst hob;exact K h'.objs.size c' _ ctv _ H' (N1.pinO (Zv _ rfl) (I.fpOk lts<|by rw[Ho _ (ZaN<|Z4 (Z0 gP) lts)<|ZaN hlt];exact I.hok.fresh lts) λv z=>by have z':Data.func _=Zgk v:=z;cases z') n LC
end
abbrev envL(q:Str)(scope:ZbF)(L f:Zo)(cd:Zg)(cl:Wn):Env:=newEnv scope L Zu cl (lamQ q++".<locals>.") (Za f) cd Zd Zdm
def cxL(X:Cx)(A:ZH)(N':Tk)(q:Str)(scope:ZbF)(f:Zo)(cd:Zg)(s:Zk)(H:Hp):Cx:={X with A:=A.deeper<|envL q scope s.heap.objs.size f cd<|clOf X.env.cells scope.names [],N:=N',s₀:=s,H₀:=H,env:=envL q scope s.heap.objs.size f cd<|clOf X.env.cells scope.names [],outer:=X.stack,stack:=envL q scope s.heap.objs.size f cd (clOf X.env.cells scope.names [])::X.stack,ex:=[],calm:=Zh,fn:=λ_=>Zj,pn:=[],xe:=λ_ _=>False}
structure LamSc(N0:Tk)(sc₀:Wh)(x:Str)(caps:Tk)(js:Tq)(scope:ZbF):Prop where
 kind:scope.kind=.function
 co:scope.isCoroutine=Zj
 gen:scope.isGenerator=Zj
 nocell:∀y∈scope.names,y.2≠.cell
 par:scope.names.lookup x=Za .local
 free:∀y∈scope.names,y.2=.free->sc₀.lookup y.1=Za .cell
 fr:∀y,scope.names.lookup y=Za .free->(y,.free)∈scope.names
 cap:∀(k j:Nat)(y:Str),js[k]?=Za j->caps[k]?=Za y->N0[j]?=Za y/\scope.names.lookup y=Za .free
 len:js.length=caps.length
 nd:(x::caps).Nodup
theorem Jss:Zf0 (W.kla_fn nm qu {posonlyargs:=[],args:=[p],vararg:=Zd,kwonlyargs:=[],kw_defaults:=[],kwarg:=Zd,defaults:=[]} body scope cl pm cd ctv) #[[u],[]]=pure [(p.arg,u)]:=by have e:(Zcc p.arg [(p.arg,u)]).isNone=Zj:=03;unfold Zf0;simp[Zdy,e];rfl
section
variable{ce:CeT}{X:Cx}
theorem Jqq{k:Nat}{A:ZH}{q x:Str}{caps:Tk}{js:Tq}{params:ZcT}{body:Expr}{scope:ZbF}{pm ctv:Zg}{c f:Zo}{m:E1}{v:IV}{u:Zg}{pj:PnT}{s:Zk}{σ:L2.St}{H:Hp}{ι:Tw}{σi:ISt}{h:IH}{Q E:QvT} (hA:A.frames=Za X.stack)(hr:Room (k+1) A)(N:Now ce X pj ι σi h σ H s)(hf:s.heap.get? f=Za (lamO q params body scope (clOf X.env.cells scope.names []) pm ctv c))(LC:QC H q<|.ref c)(hx:QW params=Za x)(S:LamSc X.N X.env.scope.names x caps js scope) (hb:∀s' H',PEi ce (cxL X A (x::caps) q scope f (.ref c) s' H') body m)(ru:RU X.K ι H v u)(K:Kont ce X RU pj ι σi σ H ((m (Za v::js.map λj=>(σi[j]?).join) h).nx) Q E):Zt (Zz X.prog X.w) A (call (.ref f) [u]) Q E s:=by
 have I:=N.inv;have e0:=I.env0;have lim:s.heap.NoLimit:=e0.mod.nolimit.keeps λb o e=>(e0.bs b o e).1
 refine ZeY<|W.kla_callFunE hr.depth hf rfl S.co S.gen rfl (LC.rec I.hok) ?_;have hbind:Zf0 (W.kla_fn "<lambda>" (lamQ q) params body scope (clOf X.env.cells scope.names []) pm (.ref c) ctv) #[[u],[]]=pure [(x,u)]:=by
  unfold QW at hx;split at hx
  ·cases hx;exact Jss
  ·cases hx
 rw[hbind];refine Zn (wpAny_newFunctionEnv S.nocell (λy hy=>by rw[Z9.mp hy];exact S.par) (λh3 hns hsb=>#[lim.fresh _ hsb,?_]) S.kind);obtain⟨w,rw',qw⟩:=ru;have keep:∀b o,s.heap.get? b=Za o->h3.get? b=Za o:=λb o z=>(hsb.2 b<|Z5<|Z0 z).trans<|Ze _ z
 have cells':∀y d,(clOf X.env.cells scope.names []).lookup y=Za d->X.env.cells.lookup y=Za d:=Jhp _ _ (λy d z=>by simp at z);have okX:(cxL X A (x::caps) q scope f (.ref c) s H).Ok:=by
  have noA:∀b:Zo,b∉(cxL X A (x::caps) q scope f (.ref c) s H).ex:=λb z=>absurd (show b∈([]:Tw)from z) 03
  refine#[I.ok.mod,S.kind,rfl,rfl,Zm _,λy y' d a b=>I.ok.inj y y' d (cells' y d a)<|cells' y' d b,λy hy=>?_,λy d z=>absurd (show Zj=Zh from z) Zw,λ_=>hr.hd,Around.frames_deeper hA,.inr #[rfl,rfl],λb z=>absurd z<|noA b,e0.bs,e0.bsz,λb _ _=>noA b,λb z=>absurd z<|noA b,e0.funs,e0.frf];have hy':scope.names.lookup y=Za .cell∨scope.names.lookup y=Za .free:=hy;rcases hy' with z|z
  ·exact absurd rfl (S.nocell _<|Zap z)
  ·have hm:=Zap z;obtain⟨d,hd⟩:=I.ok.has y<|.inl<|S.free (y,.free) hm rfl;exact ZbC.mp<|XX _ _ y d hm hd
 have I3:Inv (cxL X A (x::caps) q scope f (.ref c) s H) [] (Za w::js.map λj=>(σ[j]?).join) H {s with heap:=h3,toks:=s.toks+[(x,u)].length}:=by
  refine#[okX,rfl,I.bare,Un.kept keep,#[_,hns,λi y z a b cc=>?_],λy d z=>?_,I.hok.fresh<|Zm _,λy d z=>I.freeC y d<|cells' y d z,λp hp=>absurd (show p∈([]:PnT)from hp) 03,I.hok.kept keep,by show _=(x::caps).length;simp[S.len]]
  ·cases i with|zero=>have a':Za x=Za y:=a;cases a';have b':Za (Za w)=Za (Za z):=b;cases b';exact#[u,rw',.inl #[S.par,03]]|succ i=>
    have a':caps[i]?=Za y:=a;have b':(js.map λj=>(σ[j]?).join)[i]?=Za (Za z):=b;rw[Zy]at b';cases ej:js[i]? with|none=>rw[ej]at b';cases b'|some j=>
     rw[ej]at b';have b2:(σ[j]?).join=Za z:=Zam b';have hσ:σ[j]?=Za (Za z):=by cases es:σ[j]? with|none=>rw[es]at b2;cases b2|some o=>rw[es]at b2;rw[show o=Za z from b2]
     obtain⟨hx1,hx2⟩:=S.cap i j y ej a';have hm:=Zap hx2;have hk:=S.free (y,.free) hm rfl;obtain⟨m0,hn,hl⟩:=I.loc;obtain⟨u',ru',lk⟩:=hl j y z hx1 hσ<|.inr<|.inl hk;rcases lk with⟨e,_⟩|⟨e,d,hd,hcell⟩
     ·have hk':X.env.scope.names.lookup y=Za .cell:=hk;have e':X.env.scope.names.lookup y=Za .local:=e;rw[hk']at e';cases e'
     ·obtain⟨d',hd2⟩:=ZbC.mp<|XX (cells:=X.env.cells) scope.names [] y d hm hd;have:=cells' y d' hd2;rw[hd]at this;cases this;obtain⟨oc,hoc,hdd⟩:=hcell;exact#[u',ru',.inr #[.inr hx2,d,hd2,oc,keep _ _ hoc,hdd]]
  ·obtain⟨z',o,ho,hd⟩:=I.cell y d<|cells' y d z;exact#[z',o,keep _ _ ho,hd]
 have N3:Now ce (cxL X A (x::caps) q scope f (.ref c) s H) [] ι (Za v::js.map λj=>(σi[j]?).join) h (Za w::js.map λj=>(σ[j]?).join) H {s with heap:=h3,toks:=s.toks+[(x,u)].length}:=by
  refine#[I3,N.rel,03,λi z a=>?_];cases i with|zero=>have a':Za (Za v)=Za (Za z):=a;cases a';exact#[w,rfl,qw]|succ i=>
   have a':(js.map λj=>(σi[j]?).join)[i]?=Za (Za z):=a;rw[Zy]at a';cases ej:js[i]? with|none=>rw[ej]at a';cases a'|some j=>
    rw[ej]at a';have a2:(σi[j]?).join=Za z:=Zam a';have hσ:σi[j]?=Za (Za z):=by cases es:σi[j]? with|none=>rw[es]at a2;cases a2|some o=>rw[es]at a2;rw[show o=Za z from a2]
    obtain⟨z',ez,qz⟩:=N.st.2 j z hσ;refine#[z',?_,qz];show(js.map λj=>(σ[j]?).join)[i]?=Za (Za z');rw[Zy,ej];show Za ((σ[j]?).join)=_;rw[ez];rfl
 refine W.kla_codeExpr<|Zar (hb s H [] _ _ H ι _ h (λu' s'=>Q u' s') (λ_ _=>False) N3 ?_) (λ_ _ z=>z) λ_ _ z=>z.elim
 cases er:m (Za v::js.map λj=>(σi[j]?).join) h with|ok v' h'=>rw[er]at K;intro u' s' H' ι' N' n' ⟨z,rz,qz⟩;have J:=N'.inv;obtain⟨_,_,I',rz',e1,e2⟩:=I.after (Q:=λz2 H2=>z2=z/\H2=H') #[z,H',J.os,J.bare,J.base,J.hok,rz,rfl,rfl];subst e1;subst e2;exact K u' s' _ ι' #[I',N'.rel,N.st.mono n'] n' #[_,rz',qz]|exc n h'=>rw[er]at K;exact Zf K|stuck=>rw[er]at K;exact Zf K
end
def QV(gt:IV->IV->Wu)(mk:IV->IH->Res IV)(i n:Nat):Nat->IV->IV->IH->Res IV|0,b,_,h=>(match h[i]? with|some (.lst ys)=>if ys.length=n then .ok b h else .stuck|_=>.stuck)|r+1,b,kb,h=>(match h[i]? with|some (.lst ys)=>if ys.length=n then(match ys[n-(r+1)]? with|some y=>(mk y h).nx.bind λk h'=>(match gt k kb with|some Zh=>QV gt mk i n r y k h'|some Zj=>QV gt mk i n r b kb h'|none=>.stuck)|none=>.stuck)else .stuck|_=>.stuck)
def VQ(gt:IV->IV->Wu)(mk:IV->IH->Res IV)(i:Nat)(d:Te)(h:IH):Res IV:=match h[i]? with|some (.lst ys)=>(match ys[0]? with|some y=>(mk y h).nx.bind λk h'=>QV gt mk i ys.length (ys.length-1) y k h'|none=>(match d with|some d=>.ok d h|none=>.stuck))|_=>.stuck
theorem FpOk.more{X:Cx}{pj:PnT}{H:Hp}{b:Zo}{p:Zo×Obj}(F:FpOk X pj H b)(ne:p.1≠b):FpOk X (pj++[p]) H b:=by
 refine#[F.1,F.2.1,F.2.2.1,F.2.2.2.1,F.2.2.2.2.1,λq hq=>?_];rcases ZK.mp hq with z|z
 ·exact F.2.2.2.2.2 q<|ZW _ z
 ·rcases ZK.mp z with z|z
  ·exact F.2.2.2.2.2 q<|Zq _ z
  ·rw[Z9.mp z];exact ne
theorem FpOk.at{X:Cx}{pj:PnT}{H H':Hp}{b:Zo}(F:FpOk X pj H b)(n:H' b=Zd):FpOk X pj H' b:=#[n,F.2]
theorem Jlh{xs:Ud}{us:Tv}{i:Nat}{u:Zg}(r:Vals xs us)(e:us[i]?=Za u):∃x,xs[i]?=Za x/\RelV x u:=by have hi:=(Zs.mp e).1;have hl:=r.length;have hi2:i<xs.length:=00;have hx:xs[i]?=Za xs[i]:=Zb hi2;obtain⟨u',e',q⟩:=r.get hx;rw[e]at e';cases e';exact#[_,hx,q]
section
variable{ce:CeT}{X:Cx}
theorem Now.turned{pj:PnT}{ι:Tw}{σi:ISt}{h:IH}{σ:L2.St}{H:Hp}{s:Zk}{it:Zo}{h':Zaw}{t':Nat}(N:Now ce X pj ι σi h σ H s)(F:FpOk X pj H it)(k:∀b o,b≠it->s.heap.get? b=Za o->h'.get? b=Za o):Now ce X pj ι σi h σ H {s with heap:=h',toks:=t'}:=#[N.inv.turned k F.1 F.2.1 F.2.2.2.1 F.2.2.2.2.1 F.2.2.2.2.2,N.rel,N.st]
theorem Now.keptH{pj:PnT}{ι:Tw}{σi:ISt}{h:IH}{σ:L2.St}{H:Hp}{s:Zk}{h':Zaw}{t':Nat}(N:Now ce X pj ι σi h σ H s)(k:∀b o,s.heap.get? b=Za o->h'.get? b=Za o):Now ce X pj ι σi h σ H {s with heap:=h',toks:=t'}:=#[N.inv.kept k,N.rel,N.st]
def CmpK(ce:CeT)(X:Cx)(A:ZH)(op:CmpOp)(gt:IV->IV->Wu):Prop:=∀(pj:PnT)(ι:Tw)(σi:ISt)(h:IH)(σ:L2.St)(H:Hp)(s:Zk)(k kb:IV)(u ub:Zg)(b:Bool)(Q:QvT)(E:QvT),Now ce X pj ι σi h σ H s->RU X.K ι H k u->RU X.K ι H kb ub->gt k kb=Za b ->(∀h' t',(∀a o,s.heap.get? a=Za o->h'.get? a=Za o)->Q (.bool b) {s with heap:=h',toks:=t'})->Zt (Zz X.prog X.w) A (ZdP op u ub) Q E s
def XR(ce:CeT)(X:Cx)(A:ZH)(σi:ISt)(σ:L2.St)(pj:PnT)(G:Hp->Prop)(fv:Zg)(mk:IV->IH->Res IV):Prop:=∀(pl:PnT)(s:Zk)(H:Hp)(ι:Tw)(h:IH)(v:IV)(u:Zg)(Q:QvT),Now ce X (pj++pl) ι σi h σ H s->G H->RU X.K ι H v u->Kont ce X RU (pj++pl) ι σi σ H (mk v h).nx Q (λ_ _=>False) ->Zt (Zz X.prog X.w) A (call fv [u]) Q (λ_ _=>False) s
theorem Jq4{α γ:Type}{pj:PnT}{ι:Tw}{σi:ISt}{σ:L2.St}{H:Hp}{R:REL α Zg}{R':REL γ Zg}{r:Res α}{g:α->IH->Res γ}{Q E:QvT}{pl:PnT}{Q1:QvT} (K:Kont ce X R' pj ι σi σ H (r.nx.bind g) Q E) (step:∀x h1 u s1 H1 ι1,Now ce X (pj++pl) ι1 σi h1 σ H1 s1->Nxt ι H ι1 H1->R X.K ι1 H1 x u->Kont ce X R' pj ι1 σi σ H1 (g x h1) Q E->Q1 u s1):Kont ce X R (pj++pl) ι σi σ H r.nx Q1 (λ_ _=>False):=by cases r with|ok v h'=>exact λu s' H' ι' N' n' q=>step v h' u s' H' ι' N' n' q<|Kont.mono (r:=g v h') K n'|exc n h'=>exact Zf K|stuck=>exact Zf K
section
variable{A:ZH}{R:ZeV->Zk->Prop}{Q E:QvT}{pj:PnT}{σi:ISt}{σ:L2.St}{G:Hp->Prop}{fq:Zo}{mk:IV->IH->Res IV}{gt:IV->IV->Wu}{i n:Nat}{l I C:Zo}{kw:Wk}
theorem Jxv(M:Mm nm L op)(hh:A.handled=Zd)(cm:CmpK ce X A.in1 op gt)(ko:XR ce X A.in1 σi σ pj G (.ref fq) mk)(hG:∀H H',Ext H H'->G H->G H')(hR:∀v s',Q v s'->R (.ok<|.ret v) s')(hIC:I≠C):
  ∀(r j:Nat)(z:Zk)(H:Hp)(ι:Tw)(h:IH)(b kb:IV)(vb uk:Zg)(c:Nat),n-j=r->0<j->j<=n->Now ce X pj ι σi h σ H z->G H->ι[i]?=Za l->FpOk X pj H I->FpOk X pj H C->z.heap.IsListIter I l j ->
   z.heap.get? C=Za (ZR "list" (Zay [vb,uk]) c)->RU X.K ι H b vb->RU X.K ι H kb uk->Kont ce X RU pj ι σi σ H (QV gt mk i n r b kb h) Q E ->
   ZcR (Zz X.prog X.w) A (.builtin L #[[.ref I,.ref fq,.ref C],kw]) R z:=by
 intro r;induction r with
 |zero=>
  intro j z H ι h b kb vb uk c hr h0 hj N g hi fI fC st gC rb rk K;obtain rfl:j=n:=00;unfold QV at K;cases eh:h[i]? with|none=>rw[eh]at K;exact Zf K|some ob=>
   rw[eh]at K;cases ob with
   |lst ys=>
    dsimp only at K;split at K
    ·rename_i hlen;obtain⟨ws,e1,r3⟩:=N.at eh hi;obtain⟨its,rv2,pl,_⟩:=N.inv.list<|SqL.of e1;have ne:l≠I:=λq=>by have:=fI.1;rw[<-q,e1]at this;cases this
     have sz:its.toArray.size=j:=by rw[Zx,<-rv2.length,r3.length,hlen]
     have W:=Zdn (prog:=X.prog) (w:=X.w) (A:=A.in1) hh I l ne its.toArray;refine Zaq M.en ?_;rw[Zaf M.pl _];show Zt _ A.in1 (Zdy (.ref C)>>=_) _ _ z;refine Zc<|ZbW gC rfl ?_;show Zt _ A.in1 (tryCatch (ZbP<|.ref I) _>>=_) _ _ z;refine Zc (ZaT<|W.done z _ _ #[by rw[sz];exact st,pl.isList] λh2 tk keep=>?_);have gC2:=keep C _ (λq=>hIC (Z9.mp q).symm) gC;have N1:=N.turned (h':=h2) (t':=tk) fI λb o hb e=>keep b o (λq=>hb<|Z9.mp q) e
     show Zt _ A.in1 (Zgo C (λ_=>#[])>>=_) _ _ _;refine Zc ?_;refine Zc9 gC2 rfl (Zc<|Zc1<|Zn ?_);have N2:=N1.turned (h':=h2.update C<|ZY λ_=>#[]) (t':=tk) fC λb o hb e=>(Z1 _ _<|ZP hb).trans e
     exact hR _ _<|K _ _ _ _ N2 .refl rb
    ·exact Zf K
   |_=>exact Zf K
 |succ r ih=>
  intro j z H ι h b kb vb uk c hr h0 hj N g hi fI fC st gC rb rk K;unfold QV at K;cases eh:h[i]? with|none=>rw[eh]at K;exact Zf K|some ob=>
   rw[eh]at K;cases ob with
   |lst ys=>
    dsimp only at K;split at K
    ·rename_i hlen;obtain⟨ws,e1,r3⟩:=N.at eh hi;obtain⟨its,rv2,pl,_⟩:=N.inv.list<|SqL.of e1;have ne:l≠I:=λq=>by have:=fI.1;rw[<-q,e1]at this;cases this
     have sz:its.toArray.size=n:=by rw[Zx,<-rv2.length,r3.length,hlen]
     have ej:n-(r+1)=j:=00;rw[ej]at K;have W:=Zdn (prog:=X.prog) (w:=X.w) (A:=A.in1) hh I l ne its.toArray;refine Zaq M.en ?_;rw[Zaf M.pl _];show Zt _ A.in1 (Zdy (.ref C)>>=_) _ _ z;refine Zc<|ZbW gC rfl ?_;show Zt _ A.in1 (tryCatch (ZbP<|.ref I) _>>=_) _ _ z;refine Zc (ZaT<|W.item j z _ _ (by rw[sz];omega) #[st,pl.isList] λy h2 tk hP st2 keep=>?_);have ey:its[j]?=Za y:=by simpa using hP
     obtain⟨x,ex,rx⟩:=Jlh rv2 ey;obtain⟨yv,eyv,qy⟩:=r3.get' ex;rw[eyv]at K;dsimp only at K;have gC2:=keep C _ (λq=>hIC (Z9.mp q).symm) gC;have N1:=N.turned (h':=h2) (t':=tk) fI λb o hb e=>keep b o (λq=>hb<|Z9.mp q) e
     obtain⟨oI,hoI,hoc,hod⟩:=id st2.1;have N2:=(N1.pinO gC2 fC λv z=>by cases z).pinO hoI (FpOk.more (p:=(C,ZR "list" (Zay [vb,uk]) c)) fI<|ZP hIC) λv z=>by rw[hod]at z;cases z
     rw[Zae]at N2;show Zt _ A.in1 (tryCatch (Zce [y]<|call (.ref fq) [y]) _>>=_) _ _ _;refine Zc<|ZaT<|ZT<|nof<|ko _ _ _ _ _ yv y _ N2 g #[x,rx,qy]<|Jq4 K λk h3 u s3 H3 ι3 N3 n3 ru K3=>?_
     have pC:=N3.inv.pin (C,ZR "list" (Zay [vb,uk]) c)<|Zq _<|Zq _ 03;have pI:=N3.inv.pin (I,oI)<|Zq _<|Zq _ 03;have N4:=N3.pins;have hi3:=n3.at hi;have g3:=hG _ _ n3.ext g;have fI3:=FpOk.at (H':=H3) fI pI.2.1;have fC3:=FpOk.at (H':=H3) fC pC.2.1;have it3:s3.heap.IsListIter I l (j+1):=#[oI,pI.1,hoc,hod];have ry3:RU X.K ι3 H3 yv y:=RU.mono n3 #[x,rx,qy];cases eg:gt k kb with|none=>rw[eg]at K3;exact Zf K3|some bb=>
      show Zt _ A.in1 (tryCatch (Zce [y,u]<|ZdP op u uk>>=_) _>>=_) _ _ _;refine Zc<|ZaT<|ZT<|Zc<|cm _ _ _ _ _ _ _ k kb u uk bb _ _ N4 ru (rk.mono n3) eg λh5 t5 k5=>?_
      refine Zc<|ZT<|ZbI ?_;refine Zc<|Zc1<|Zn ?_;have N5:=N4.keptH (h':=h5) (t':=t5) k5;have gC5:=k5 _ _ pC.1;obtain⟨oI5,hoI5,hoc5,hod5⟩:=id it3;have it5:h5.IsListIter I l (j+1):=#[oI5,k5 _ _ hoI5,hoc5,hod5];rw[eg]at K3;cases bb with
      |true=>
       simp only[if_true];refine Zc ?_;refine Zc9 gC5 rfl (Zc<|Zc1 ?_);rw[M.nm];have N6:=N5.turned (h':=h5.update C<|ZY λ_=>(Zay [y,u])) (t':=t5) fC3 λb o hb e=>(Z1 _ _<|ZP hb).trans e
       obtain⟨c2,hc2⟩:∃c2,(h5.update C<|ZY λ_=>(Zay [y,u])).get? C=Za (ZR "list" (Zay [y,u]) c2):=#[_,Zbu gC5 λ_=>(Zay [y,u])];refine Zn #[ZaM M.pl _,ih (j+1) _ H3 ι3 h3 yv k y u c2 00 00 00 N6 g3 hi3 fI3 fC3 ?_ hc2 ry3 ru K3];exact#[oI5,(Z1 _ _<|ZP hIC).trans<|k5 _ _ hoI5,hoc5,hod5]
      |false=>simp only[Zad,if_false];refine Zc<|Zc1 ?_;rw[M.nm];exact Zn #[ZaM M.pl _,ih (j+1) _ H3 ι3 h3 b kb vb uk c 00 00 00 N5 g3 hi3 fI3 fC3 it5 gC5 (rb.mono n3) (rk.mono n3) K3]
    ·exact Zf K
   |_=>exact Zf K
theorem Jxu{F:Fin->Zk->Prop}(M:Mm nm L op)(hh:A.handled=Zd)(cm:CmpK ce X A.in1 op gt)(ko:XR ce X A.in1 σi σ pj G (.ref fq) mk)(hG:∀H H',Ext H H'->G H->G H')(N:Now ce X pj ι σi h σ H z)(g:G H)(hi:ι[i]?=Za l)(rd:∀y,d=Za y->∃u,dv=Za u/\RU X.K ι H y u)
  (hR:∀v s',Q v s'->R (.ok<|.ret v) s')(hF:∀c s',c.quiet=Zh->ZcR (Zz X.prog X.w) A c R s'->F (.again c) s')(K:Kont ce X RU pj ι σi σ H (VQ gt mk i d h) Q E):
  Zt (Zz X.prog X.w) A.in1 (Zel (.ref l)>>=λit=>newList []>>=λc=>Zgc<|.builtin (toString nm++toString ".loop") #[[it,.ref fq,c],dv.toList.map λu=>(Zba "default",u)]) F E z:=by
 unfold VQ at K;cases eh:h[i]? with|none=>rw[eh]at K;exact Zf K|some ob=>
  rw[eh]at K;cases ob with
  |lst ys=>
   dsimp only at K;obtain⟨ws,e1,r3⟩:=N.at eh hi;obtain⟨its,rv2,pl,_⟩:=N.inv.list<|SqL.of e1;have hl:=pl.isList;obtain⟨ol,hol,_⟩:=id hl;have lt:l<z.heap.objs.size:=Z0 hol;have sz:its.toArray.size=ys.length:=by rw[Zx,<-rv2.length,r3.length]
   refine Zc<|Zbk hl ?_;refine Zc<|Zcj ?_<|ZA _;rw[M.nm];have ne:l≠z.heap.objs.size:=Z5 lt;have W:=Zdn (prog:=X.prog) (w:=X.w) (A:=A.in1) hh z.heap.objs.size l ne its.toArray;have hS:(z.heap.push<|liOb l).objs.size=z.heap.objs.size+1:=ZdG ..;obtain⟨C,hC⟩:∃C,C=(z.heap.push<|liOb l).objs.size:=#[_,rfl];have hIC:z.heap.objs.size≠C:=by rw[hC,hS];exact Z5<|Za4 _
   have old:∀b o,z.heap.get? b=Za o->((z.heap.push<|liOb l).push<|ZR "list" #[] 0).get? b=Za o:=λb o e=>Ze _<|Ze _ e
   have gI:((z.heap.push<|liOb l).push<|ZR "list" #[] 0).get? z.heap.objs.size=Za (liOb l):=Ze _<|Zv _ rfl;have gC:((z.heap.push<|liOb l).push<|ZR "list" #[] 0).get? C=Za (ZR "list" #[] 0):=by rw[hC];exact Zv _ rfl
   rw[<-hC];have fI:FpOk X pj H z.heap.objs.size:=N.inv.fpOk (Zm _)<|N.inv.hok.fresh<|Zm _;have fC:FpOk X pj H C:=N.inv.fpOk (by rw[hC,hS];exact ZaR _) (N.inv.hok.fresh<|by rw[hC,hS];exact ZaR _);have N0:=N.keptH (t':=z.toks) old;refine Zn<|hF _ _ (ZaM M.pl _)<|Zaq M.en ?_;rw[Zaf M.pl _];show Zt _ A.in1 (Zdy (.ref _)>>=_) _ _ _;refine Zc<|ZbW gC rfl ?_;show Zt _ A.in1 (tryCatch (ZbP<|.ref z.heap.objs.size) _>>=_) _ _ _;cases e0:ys[0]? with
   |none=>
    have h0:ys.length=0:=by have:=List.getElem?_eq_none_iff.mp e0;omega
    rw[e0]at K;cases d with|none=>exact Zf K|some dy=>
     obtain⟨u,rfl,ru⟩:=rd dy rfl;refine Zc (ZaT<|W.done _ _ _ (by rw[sz,h0];exact#[#[_,gI,rfl,rfl],(hl.push _).push _]) λh2 tk keep=>?_);have N1:=N0.turned (h':=h2) (t':=tk) fI λb o hb e=>keep b o (λq=>hb<|Z9.mp q) e
     show Zt _ A.in1 (rule _>>=_) _ _ _;exact Zc<|Zb9<|Zn<|hR _ _<|K _ _ _ _ N1 .refl ru
   |some yv=>
    have h0:0<ys.length:=(Zs.mp e0).1;rw[e0]at K;dsimp only at K;refine Zc (ZaT<|W.item 0 _ _ _ (by rw[sz];exact h0) #[#[_,gI,rfl,rfl],(hl.push _).push _] λy h2 tk hP st2 keep=>?_);have ey:its[0]?=Za y:=by simpa using hP
    obtain⟨x,ex,rx⟩:=Jlh rv2 ey;obtain⟨yv',eyv,qy⟩:=r3.get' ex;rw[e0]at eyv;cases eyv;have gC2:=keep C _ (λq=>hIC (Z9.mp q).symm) gC;have N1:=N0.turned (h':=h2) (t':=tk) fI λb o hb e=>keep b o (λq=>hb<|Z9.mp q) e
    obtain⟨oI,hoI,hoc,hod⟩:=id st2.1;have N2:=(N1.pinO gC2 fC λv z=>by cases z).pinO hoI (FpOk.more (p:=(C,ZR "list" #[] 0)) fI<|ZP hIC) λv z=>by rw[hod]at z;cases z
    rw[Zae]at N2;show Zt _ A.in1 (tryCatch (Zce [y]<|call (.ref fq) [y]) _>>=_) _ _ _;refine Zc<|ZaT<|ZT<|nof<|ko _ _ _ _ _ yv y _ N2 g #[x,rx,qy]<|Jq4 K λk h3 u s3 H3 ι3 N3 n3 ru K3=>?_
    have pC:=N3.inv.pin (C,ZR "list" #[] 0)<|Zq _<|Zq _ 03;have pI:=N3.inv.pin (z.heap.objs.size,oI)<|Zq _<|Zq _ 03;have N4:=N3.pins;have fI3:=FpOk.at (H':=H3) fI pI.2.1;have fC3:=FpOk.at (H':=H3) fC pC.2.1;have ry3:RU X.K ι3 H3 yv y:=RU.mono n3 #[x,rx,qy];show Zt _ A.in1 (Zgo C (λ_=>(Zay [y,u]))>>=_) _ _ _;refine Zc ?_;refine Zc9 pC.1 rfl ?_;rw[M.nm];have N6:=N4.turned (h':=s3.heap.update C<|ZY λ_=>(Zay [y,u])) (t':=s3.toks) fC3 λb o hb e=>(Z1 _ _<|ZP hb).trans e
    obtain⟨c2,hc2⟩:∃c2,(s3.heap.update C<|ZY λ_=>(Zay [y,u])).get? C=Za (ZR "list" (Zay [y,u]) c2):=#[_,Zbu pC.1 λ_=>(Zay [y,u])];refine Zn #[ZaM M.pl _,Jxv M hh cm ko hG hR hIC (ys.length-1) 1 _ H3 ι3 h3 yv k y u c2 rfl 00 00 N6 (hG _ _ n3.ext g) (n3.at hi) fI3 fC3 ?_ hc2 ry3 ru K3];exact#[oI,(Z1 _ _<|ZP hIC).trans pI.1,hoc,hod]
  |_=>exact Zf K
end
theorem Kont.more{α β:Type}{R:REL α β}{pj pl:PnT}{ι:Tw}{σi:ISt}{σ:L2.St}{H:Hp}{r:Res α}{Q:β->Zk->Prop}{E:QvT}(K:Kont ce X R pj ι σi σ H r Q E):Kont ce X R (pj++pl) ι σi σ H r Q E:=by cases r with|ok v h'=>exact λu s' H' ι' N n q=>K u s' H' ι' N.pins n q|exc m h'=>exact λpl' a s' H' ι' N n q=>K (pl++pl') a s' H' ι' (by rw[<-Zae];exact N) n q|stuck=>exact K
theorem Jl4{params:ZcT}{x:Str}{env:Env}(hx:QW params=Za x):defaultsOf params env=([],[]):=by
 unfold QW at hx;split at hx
 ·rfl
 ·cases hx
end
def bmV:Tv:=[.type "ValueError",.type "Exception",.type "BaseException",.type "object"]
def XCls(K:W.Frag)(C:Zo):Prop:=W.excIn K C bmV "ValueError.__new__"=Zh
theorem XCls.obj{K:W.Frag}{C:Zo}{h:Zaw}(x:XCls K C)(I:K.In h):∃bm N nm q bs hdct sn sub ab col dd k0 k1 k2 k3 k5 mN,h.get? C=Za (excClassObj nm q C N bs bm hdct sn sub ab col dd k0 k1 k2 k3 k5 "ValueError.__new__")/\h.Ns N mN/\mN "__init__"=Zd/\OwnTail h bmV bm:=by
 unfold XCls W.excIn at x;split at x;case h_2=>cases x
 rename_i dd cd sl ho;split at x;case h_2=>cases x
 rename_i D bm k0 k1 k2 k3 n k5 em es;simp only[Zp,beq_iff_eq,Zbl]at x;obtain⟨⟨⟨⟨⟨e1,e2⟩,e3⟩,e4⟩,e5⟩,e6⟩:=x;subst e1 e2;obtain⟨nm,bs,mro,N,qn,hd,sn,sub,ab,col,del⟩:=cd;have em:mro=.ref D::bm:=em;have e3:del=Zj:=e3;subst em e3;have es:sl=(Zay [k0,k1,k2,k3,Za<|.builtin "ValueError.__new__",k5]):=by rw[<-Array.toArray_toList (xs:=sl),es]
 subst es;exact#[bm,N,nm,qn,bs,hd,sn,sub,ab,col,dd,k0,k1,k2,k3,k5,_,I _ _ ho,.of_isNs<|W.isNs_of_in I e5,W.nsMap_none_of_in I e5 e6,W.tail_of_in I e4]
def VB(c:Str)(a:A1):S1:=λσ h=>rS σ (a σ h) λvs h1=>if vs.length<=sizeLine then .exc h1.length σ (h1++[.exc c []])else .stuck
section
variable{ce:CeT}{X:Cx}{C:Zo}{x c:Str}{np cpos pos:Pos}{e:Expr}{es:Td}{ma:A1}
theorem Jyo(hc:X.calm=Zh)(hg:Gl X x)(hm:X.mg x=Za (.ref C))(hC:W.nsIn X.K Zu c=Za (Za<|.ref C))(xc:XCls X.K C)(ha:PAi ce X (e::es) ma)(hdb:(x==("__debug__":Str))=Zj:=by decide) (he:ZG (e::es) X.env=(Zj,Zby e X.env)::ZG es X.env:=by rfl)(hpl:(Zbz cpos<|ZG es X.env).any (·.1)=Zj:=by rfl):PS1 ce X (.Raise (Za<|.Call (.Name x np) (e::es) [] cpos) Zd pos) (VB c ma):=by
 intro pj s σ H ι σi h Q E N K;obtain⟨bm,Na,nm,q,bs,hdct,sn,sub,ab,col,dd,k0,k1,k2,k3,k5,mN,hCo,hN,hni,T⟩:=xc.obj N.inv.mod.kin;have hpa:(Zbz cpos<|ZG (e::es) X.env).any (·.1)=Zj:=by rw[he];show(Zj||(Zbz cpos (ZG es X.env)).any (·.1))=Zj;rw[hpl];rfl
 refine wpAny_Raise_call_subU (mN:=mN) (nm:=nm) (q:=q) (N:=Na) (bs:=bs) (hdct:=hdct) (sn:=sn) (sub:=sub) (ab:=ab) (col:=col) (dd:=dd) (k0:=k0) (k1:=k1) (k2:=k2) (k3:=k3) (k5:=k5) F.excBase_ValueError 01 F.excBase_ValueError (T.hasType 01) (N.inv.ok.hd hc) hpa hni<|V4 N.inv hg hm #[rfl,?_] hdb;have hs:=ha cpos;rw[he]at hs ⊢;refine Calls.evalArgs_plain<|krun hs N K λvs h1 us s1 H1 ι1 N1 n1 r1 K1=>?_
 change J8 ce X pj ι1 H1 (if vs.length<=sizeLine then _ else _) Q E at K1;split at K1;case isFalse=>exact K1.elim
 rename_i hz;have kb:=N1.inv.bk;have hl:us.length=vs.length:=by obtain⟨ws,rv,qv⟩:=r1;rw[<-rv.length,qv.length]
 refine#[rfl,by show us.length<=_;lia,kb _ _ hCo,hN.keeps kb,T.keeps kb,λh' a M=>?_];obtain⟨t,hat,_,_⟩:=M.there;have hf:H1 a=Zd:=by cases z:H1 a with|none=>rfl|some u=>obtain⟨o,z'⟩:=Jv3<|N1.inv.hok a u z;rw[M.new]at z';cases z'
 obtain⟨R2,n2⟩:=N1.rel.alloc (o:=ExF a C .none Zd) (io:=.exc c []) hf #[C,.none,Zd,.inl #[rfl,rfl],hC,Jz,.inl rfl];have kk:∀b u,s1.heap.get? b=Za u->h'.get? b=Za u:=λb u q=>M.keeps b u q
 have up:∀{b:Zo}{u:HO},H1 b=Za u->upd H1 a (ExF a C .none Zd) b=Za u:=λ{b u} q=>by rw[Jn λz=>by subst z;rw[hf]at q;cases q];exact q
 have un:Un X.fs [] H1 (upd H1 a<|ExF a C .none Zd) s1.heap h':=#[λb o q _ _ _=>kk b o q,λb o q _ _ _=>#[o.slots,kk b o q],λb o q n _=>by rw[Jn λz=>by subst z;rw[M.new]at q;cases q];exact n,λb o q _=>#[o,kk b o q],λb xs q=>up q,λb o u q=>up q,λb ps q=>#[#[],by rw[up q];simp]];have ok:HOk X.prog X.w (upd H1 a<|ExF a C .none Zd) h':=λb u q=>by
  by_cases z:b=a
  ·subst z;rw[Jz]at q;cases q;exact ExF.ok hat rfl rfl rfl rfl rfl
  ·rw[Jn z]at q;exact(N1.inv.hok b u q).stay (λd v _ p=>kk d v p) (λd p=>up p) λd xs p=>up p
 have I2:Inv X pj σ (upd H1 a<|ExF a C .none Zd) {s1 with heap:=h'}:=N1.inv.un (t':=s1.toks) un ok;refine K1 [] a _ σ _ _ #[by simpa using I2,R2,N1.st.mono n2] n2 ?_ _<|.inl rfl;rw[<-N1.rel.len,ZE<|Zm _];simp
end
abbrev JB(X:Cx)(a:Zo):Cx:={X with A:=X.A.mark<|Za<|.ref a,calm:=Zj}
section
variable{ce:CeT}{X:Cx}{a C:Zo}{pj:PnT}{σ:L2.St}{H:Hp}{s:Zk}{ι:Tw}{σi:ISt}{h:IH}{n:Nat}{c:Str}{fs:Wl}{tv:Zg}
theorem Jh8(I:Inv X pj σ H s)(a:Zo):Inv (JB X a) pj σ H s:=#[#[I.ok.mod,I.ok.kind,I.ok.glob,I.ok.blt,I.ok.above,I.ok.inj,I.ok.has,I.ok.cab,nofun,I.ok.frames,I.ok.stk,I.ok.exf,I.ok.bs,I.ok.bsz,I.ok.noex,I.ok.exfs,I.ok.funs,I.ok.frf],I.os,I.bare,I.base,I.loc,I.cell,I.free,I.freeC,I.pin,I.hok,I.len]
theorem Jg5(ok:X.Ok)(I:Inv (JB X a) pj σ H s):Inv X pj σ H s:=#[ok,I.os,I.bare,I.base,I.loc,I.cell,I.free,I.freeC,I.pin,I.hok,I.len]
theorem _root_.L2.Inv.fewer(I:Inv X pj σ H s)(k:∀p∈X.pn++pj',p∈X.pn++pj):Inv X pj' σ H s:=#[I.ok,I.os,I.bare,I.base,I.loc,I.cell,I.free,I.freeC,λp hp=>I.pin p<|k p hp,I.hok,I.len]
theorem Jub(N:Now ce X pj ι σi h σ H s)(hj:h[n]?=Za (.exc c fs))(hi:ι[n]?=Za a)(hC:W.nsIn X.K Zu c=Za (Za<|.ref C))(ha:H a=Za (ExF a C tv d))(p:Past X H s.heap a C d T oT h'):Now ce X pj ι σi h σ (upd (upd H T<|.frz oT<|.own 0) a<|ExF a C (.ref T) d) {s with heap:=h'}/\Nxt ι H ι (upd (upd H T<|.frz oT<|.own 0) a<|ExF a C (.ref T) d):=by
 obtain⟨C',tv',d',fe,_,ha',_⟩:=Jug N.rel hj hi;rw[Js4 N.inv.hok ha' ha]at fe;obtain⟨R4,n4⟩:=N.rel.grow (o:=.frz oT<|.own 0) p.new;have ha4:upd H T (.frz oT<|.own 0) a=Za (ExF a C tv d):=by rw[Jn<|ZP p.ne];exact ha
 obtain⟨R5,n5⟩:=R4.write hi ha4 (by rw[ha4];trivial) (o:=ExF a C (.ref T) d) (io:=.exc c fs) #[C,.ref T,d,fe.mono p.un.frzs,hC,Jz,.inr #[T,oT,_,rfl,by rw[Jn p.ne,Jz],p.fld.choose_spec]];rw[Jil hj]at R5;have I:=N.inv.call (g':=s.gens) (t':=s.toks) (d':=s.drawn) (ch:=[]) p.un p.hok N.inv.bare λb z=>absurd z 03
 exact#[#[I,R5,N.st.mono<|n4.trans n5],n4.trans n5]
theorem Jjc{M:Model}{A:ZH}{E:QvT}(ok:HOk X.prog X.w H s.heap)(ha:H a=Za (ExF a C tv d))(ht:TvOk H tv)(k:∀h',(∀b o,s.heap.get? b=Za o->h'.get? b=Za o)->Q () {s with heap:=h'}):Zt M A (ZeL (.ref a) Zd) Q E s:=by
 obtain⟨oe,vs,e1,e2,e3,e4,_⟩:=ExF.get ok ha;unfold ZeL;refine Zc<|ZcK e1 e3 e4 ?_;rcases ht with rfl|⟨T,oT,ts,rfl,q1,q2,q3⟩
 ·rw[if_neg 01];exact Zn<|k s.heap λ_ _ q=>q
 ·have gT:s.heap.get? T=Za oT:=(ok T _ q1).1;rw[if_pos 03];refine Zbp gT q2 (ZaS.mp q3).1 (k _ λb o q=>?_);by_cases z:b=T
  ·subst z;rw[gT]at q;cases q;exact Jlg gT q2 q3
  ·rw[Z1 _ _<|ZP z];exact q
theorem Jtc{M:Model}{A:ZH}{E:QvT}{Q:Unit->Zk->Prop}{i:Nat}{x:Str}{pos:Pos}(I:Inv X pj σ H s)(hN:X.N.Nodup)(hi:X.N[i]?=Za x)(hx:X.env.kindOf x=Za .local)(k:∀s',Inv X pj (σ.set i Zd) H s'->Q () s'):
  Zt M A (do bindName X.env x .none;unbindBehindTheSuite X.env x pos) Q E s:=by
 obtain⟨m,hn,hl⟩:=id I.loc;have hcls:(X.env.scope.kind==.class||(X.env.scope.kind==.module&&X.env.locals != X.env.globals))=Zj:=by rw[I.ok.kind];rfl
 have cne:=I.cne;refine wpAny_nameGoes_keeps hx hn hcls λh' v hn' hs=>?_
 have up:∀{b:Zo}{o:Obj},X.s₀.heap.get? b=Za o->b≠X.env.locals:=λe=>Z5<|Z4 (Z0 e) I.ok.above
 refine k _ #[I.ok,I.os,I.bare,#[λb o e nn hb hx=>?_,λb o e nn hb hx=>?_,I.base.free,λb o e hx=>?_,I.base.tups,I.base.frzs,I.base.tbls],#[_,hn',λj y w e1 e2 e3=>?_],λy cc e=>?_,I.free,I.freeC,λp hp=>?_,λb ob e=>?_,by rw[Zbq];exact I.len]
 ·exact(hs.2 b<|up e).trans<|I.base.keep b o e nn hb hx
 ·obtain⟨sl,e1⟩:=I.base.slot b o e nn hb hx;exact#[sl,(hs.2 b<|up e).trans e1]
 ·obtain⟨o',e1⟩:=I.base.there b o e hx;exact#[o',(hs.2 b<|up e).trans e1]
 ·by_cases z:j=i
  ·subst z;have hj:j<σ.length:=by rw[I.len];exact(Zs.mp hi).1
   rw[ZO hj]at e2;cases e2
  ·rw[ZX<|ZP z]at e2;obtain⟨u,r,q⟩:=hl j y w e1 e2 e3;refine#[u,r,?_];rcases q with⟨q1,q2⟩|⟨q1,cc,q2,q3⟩
   ·refine .inl #[q1,?_];show(if y=x then v else m y)=Za u;rw[if_neg<|show ¬y=x from λz2=>z<|Jia hN e1<|by rw[z2];exact hi];exact q2
   ·exact .inr #[q1,cc,q2,q3.sameBut hs<|cne y cc q2]
 ·obtain⟨w',z⟩:=I.cell y cc e;exact#[w',z.sameBut hs<|cne y cc e]
 ·obtain⟨e,nn,ne,nf,d⟩:=I.pin p hp;exact#[(hs.2 p.1 ne).trans e,nn,ne,nf,d]
 ·have nb:∀{d:Zo}{u:HO},H d=Za u->d≠X.env.locals:=λq z=>by rw[z,I.free]at q;cases q
  refine(I.hok b ob e).stay (λd w' hc q=>(hs.2 d ?_).trans q) (λ_ q=>q) λ_ _ q=>q
  rcases hc with rfl|hc
  ·exact nb e
  ·exact nb hc
end
theorem RSt.unset{K:W.Frag}{ι:Tw}{H:Hp}{σi:ISt}{σ:L2.St}(r:RSt K ι H σi σ)(i:Nat):RSt K ι H (σi.set i Zd) (σ.set i Zd):=by
 refine#[by simp[r.len],λj w e=>?_];by_cases z:j=i
 ·subst z;have hl:j<σi.length:=by have:=(Zs.mp e).1;simpa using this
  rw[ZO hl]at e;cases e
 ·rw[ZX<|ZP z]at e;obtain⟨u,e1,q1⟩:=r.at_ j w e;exact#[u,by rw[ZX<|ZP z];exact e1,q1]
abbrev HdI:=(Str->Wu)×Option Nat×S1
abbrev _root_.Tr:=List HdI
noncomputable def VU (sl:Wy)(x:Te)(σ:ISt):ISt:=match sl with|some i=>σ.set i x|none=>σ
def SRes.drop(sl:Wy)(r:SRes):SRes:=match r with|.next σ h=>.next (VU sl Zd σ) h|.brk σ h=>.brk (VU sl Zd σ) h|.cont σ h=>.cont (VU sl Zd σ) h|.ret v h=>.ret v h|_=>.stuck
def V2:Tr->Str->Nat->S1|[],_,_=>λ_ _=>.stuck|q::r,c,n=>λσ h=>match q.1 c with|some Zh=>(q.2.2 (VU q.2.1 (Za<|.ref n) σ) h).drop q.2.1|some Zj=>V2 r c n σ h|none=>.stuck
def sTry(b:S1)(hs:Tr):S1:=λσ h=>match b σ h with|.exc n σ1 h1=>(match h1[n]? with|some (.exc c _)=>V2 hs c n σ1 h1|_=>.stuck)|r=>r
def PSH(ce:CeT)(X:Cx)(a:Zo)(sl:Wy)(suite:Tn)(m:S1):Prop:=∀(pj:PnT)(s:Zk)(σ:L2.St)(H:Hp)(ι:Tw)(σi:ISt)(h:IH)(Q:Flow->Zk->Prop)(E:QvT)(n:Nat)(c:Str)(fs:Wl),X.Ok->Now ce (JB X a) pj ι σi h σ H s->h[n]?=Za (.exc c fs)->ι[n]?=Za a->(∀i,sl=Za i->i<σi.length->σi[i]?=Za (Za<|.ref n)) ->J8 ce (JB X a) pj ι H (m σi h) Q E->Zt (Zz X.prog X.w) (JB X a).A (execs suite X.env) Q E s
theorem PS2.h(p:PS2 ce (JB X a) suite m):PSH ce X a sl suite m:=λpj s σ H ι σi h Q E _ _ _ _ N _ _ _ K=>p pj s σ H ι σi h Q E N K
structure HdOk(ce:CeT)(X:Cx)(t:Expr)(nm:Wv)(suite:Tn)(f:Str->Wu)(sl:Wy)(m:S1):Prop where
 test:∀(a:Zo)(c:Str)(C:Zo)(b:Bool)(pj:PnT)(σ:L2.St)(H:Hp)(s:Zk)(Q:Bool->Zk->Prop)(E:QvT),f c=Za b->W.nsIn X.K Zu c=Za (Za<|.ref C)->Inv (JB X a) pj σ H s->(∃oe,s.heap.get? a=Za oe/\oe.cls=.ref C)->Q b s ->Zt (Zz X.prog X.w) (JB X a).A (Zby t X.env) (λv s₁=>Zt (Zz X.prog X.w) (JB X a).A (excMatches (.ref a) v) Q E s₁) E s
 nm:(nm=Zd/\sl=Zd)∨∃n i,nm=Za n/\sl=Za i/\X.N[i]?=Za n/\X.env.kindOf n=Za .local
 run:∀a,PSH ce X a sl suite m
inductive HdsOk(ce:CeT)(X:Cx):Ts->Tr->Prop|nil:HdsOk ce X [] []|cons {t:Expr}{nm:Wv}{b₀:ZcZ}{suite:Tn}{pos:Pos}{f:Str->Wu}{sl:Wy}{m:S1}{hs:Ts}{ms:Tr}:HdOk ce X t nm (b₀::suite) f sl m->HdsOk ce X hs ms->HdsOk ce X (.ExceptHandler (Za t) nm (b₀::suite) pos::hs) ((f,sl,m)::ms)
section
variable{ce:CeT}{X:Cx}
theorem Jp5(hN:X.N.Nodup)(O:HdsOk ce X hs ms){a:Zo}{pj:PnT}{σ:L2.St}{H:Hp}{s:Zk}{ι:Tw}{σi:ISt}{h:IH}{n:Nat}{c:Str}{fs:Wl}{Q:Flow->Zk->Prop}{E:QvT}
  (N:Now ce X pj ι σi h σ H s)(hj:h[n]?=Za (.exc c fs))(hi:ι[n]?=Za a)(K:J8 ce X pj ι H (V2 ms c n σi h) Q E):Zt (Zz X.prog X.w) X.A (handleBy (.ref a) X.env hs) Q E s:=by
 obtain⟨C,tv,d,fe,hC,ha,ht⟩:=Jug N.rel hj hi;obtain⟨oe,vs,e1,e2,_⟩:=ExF.get N.inv.hok ha;induction O with|nil=>exact Zf K|@cons t nm b₀ suite pos f sl m hs ms o O ih=>
  unfold V2 at K;dsimp only at K;cases hb:f c with|none=>rw[hb]at K;exact Zf K|some b=>
   rw[hb]at K;refine wpAny_handleBy_cons (codeAny_handlers_test<|o.test a c C b pj σ H s _ _ hb hC (Jh8 N.inv a) #[oe,e1,e2] ?_) (by intro q;cases q);cases b with|false=>exact ih K|true=>
    dsimp only at K;rcases o.nm with⟨rfl,rfl⟩|⟨x,i,rfl,rfl,hx,hk⟩
    ·have K:J8 ce X pj ι H ((m σi h).drop Zd) Q E:=K;refine codeAny_handlers_suite<|Jjc N.inv.hok ha ht λh' kp=>?_
     have N2:Now ce (JB X a) pj ι σi h σ H {s with heap:=h'}:=#[Jh8 (N.inv.kept (t':=s.toks) kp) a,N.rel,N.st];refine o.run a pj _ σ H ι σi h _ _ n c fs N.inv.ok N2 hj hi (λi z=>by cases z) ?_;have un:∀{pj:PnT}{ι:Tw}{σi:ISt}{h:IH}{σ:L2.St}{H:Hp}{s:Zk},Now ce (JB X a) pj ι σi h σ H s->Now ce X pj ι σi h σ H s:=λq=>#[Jg5 N.inv.ok q.inv,q.rel,q.st]
     cases em:m σi h with|next σ2 h2=>rw[em]at K;exact λs3 σ3 H3 ι3 N3 n3=>K s3 σ3 H3 ι3 (un N3) n3|brk σ2 h2=>rw[em]at K;exact λs3 σ3 H3 ι3 N3 n3=>K s3 σ3 H3 ι3 (un N3) n3|cont σ2 h2=>rw[em]at K;exact λs3 σ3 H3 ι3 N3 n3=>K s3 σ3 H3 ι3 (un N3) n3|ret v h2=>rw[em]at K;exact λu s3 σ2 σ3 H3 ι3 N3 n3 r3=>K u s3 σ2 σ3 H3 ι3 (un N3) n3 r3|exc k σ2 h2=>rw[em]at K;exact Zf K|stuck=>rw[em]at K;exact Zf K
    ·have K:J8 ce X pj ι H ((m (σi.set i<|Za<|.ref n) h).drop<|Za i) Q E:=K;refine codeAny_handlers_suite_as<|Jjc N.inv.hok ha ht λh' kp=>?_
     have I2:Inv (JB X a) pj σ H {s with heap:=h'}:=Jh8 (N.inv.kept (t':=s.toks) kp) a;refine Yu (X:=JB X a) (v:=V.ref a) I2 hN hx (.inl hk) rfl (λs3 I3=>?_) (.inr hk);have N3:Now ce (JB X a) pj ι (σi.set i<|Za<|.ref n) h (σ.set i<|Za<|V.ref a) H s3:=#[I3,N.rel,N.st.set i #[a,rfl,hi]];refine o.run a pj _ _ H ι _ h _ _ n c fs N.inv.ok N3 hj hi (λj z l=>by cases z;exact ZO<|by simpa using l) ?_;have fin:∀{ι3:Tw}{σ2:ISt}{h2:IH}{σ3:L2.St}{H3:Hp}{s3:Zk}{W:Unit->Zk->Prop},Now ce (JB X a) pj ι3 σ2 h2 σ3 H3 s3->(∀s4,Now ce X pj ι3 (σ2.set i Zd) h2 (σ3.set i Zd) H3 s4->W () s4)->Zt (Zz X.prog X.w) X.A (do bindName X.env x .none;unbindBehindTheSuite X.env x pos) W E s3:=λq k=>
      Jtc (Jg5 N.inv.ok q.inv) hN hx hk λs4 I4=>k s4 #[I4,q.rel,q.st.unset i]
     cases em:m (σi.set i<|Za<|.ref n) h with|next σ2 h2=>rw[em]at K;exact λs3 σ3 H3 ι3 N3 n3=>fin N3 λs4 N4=>K s4 _ H3 ι3 N4 n3|brk σ2 h2=>rw[em]at K;exact λs3 σ3 H3 ι3 N3 n3=>fin N3 λs4 N4=>K s4 _ H3 ι3 N4 n3|cont σ2 h2=>rw[em]at K;exact λs3 σ3 H3 ι3 N3 n3=>fin N3 λs4 N4=>K s4 _ H3 ι3 N4 n3|ret v h2=>rw[em]at K;exact λu s3 σ2 σ3 H3 ι3 N3 n3 r3=>fin N3 λs4 N4=>K u s4 _ _ H3 ι3 N4 n3 r3|exc k σ2 h2=>rw[em]at K;exact Zf K|stuck=>rw[em]at K;exact Zf K
theorem J47(hN:X.N.Nodup)(hk:X.stack=X.env::X.outer)(hf:X.env.frame=Za X.env.locals)(hb:PS2 ce X body mb)(O:HdsOk ce X (h₀::hs) ms):PS1 ce X (.Try body (h₀::hs) [] [] pos) (sTry mb ms):=by
 intro pj s σ H ι σi h Q E N K;unfold sTry at K;refine wpAny_Try_except<|hb pj s σ H ι σi h _ _ N ?_;cases e:mb σi h with|next σ2 h2=>rw[e]at K;exact λs3 σ3 H3 ι3 N3 n3=>Zdk<|K s3 σ3 H3 ι3 N3 n3|brk σ2 h2=>rw[e]at K;exact K|cont σ2 h2=>rw[e]at K;exact K|ret v h2=>rw[e]at K;exact K|stuck=>rw[e]at K;exact K|exc n σ2 h2=>
  rw[e]at K;dsimp only at K;cases hj:h2[n]? with|none=>rw[hj]at K;exact Zf K|some ob=>
   cases ob with
   |exc c fs=>
    rw[hj]at K;intro pl a s3 σ3 H3 ι3 N3 n3 hi s4 fl;have N3:Now ce X pj ι3 σ2 h2 σ3 H3 s3:=#[N3.inv.fewer λp hp=>ZK.mpr<|(ZK.mp hp).imp_right λz=>ZW _ z,N3.rel,N3.st];obtain⟨C,tv,d,fe,hC,ha,ht⟩:=Jug N3.rel hj hi;refine Jl9 N3.inv fl hk hf ha ht λT oT h' p=>?_
    obtain⟨N4,n4⟩:=Jub N3 hj hi hC ha p;exact Jp5 hN O N4 hj hi<|J8.mono (r:=V2 ms c n σ2 h2) K<|n3.trans n4
   |_=>rw[hj]at K;exact Zf K
end
theorem Jor(a:Zg):Zfa "max" #[[a],[]]:=by unfold Zfa;kernel_rfl
section
variable{ce:CeT}{X:Cx}
def Xu:IV->IH->Res IV
 |.ref i,h=>match h[i]? with
  |some (.lst xs)=>(match JF xs with
   |some ns=>if ns=[]then .stuck else .ok (.int<|JT (λi=>ns.getD i 0) ns.length) h
   |none=>.stuck)
  |_=>.stuck
 |_,_=>.stuck
theorem Jz3(hh:X.A.handled=Zd):Qr ce X (.builtin "max") (on1 Xu):=Vy λpj s σ H ι σi h x xv u Q E N ru qx K=>by
 cases x with
 |ref i=>
  obtain⟨a,e1,ha⟩:=qx;subst e1;cases ru;dsimp only[Xu]at K;cases hi:h[i]? with|none=>rw[hi]at K;exact Zf K|some ob=>
   rw[hi]at K;cases ob with
   |lst xs=>
    dsimp only at K;cases hb:JF xs with|none=>rw[hb]at K;exact Zf K|some ns=>
     rw[hb]at K;dsimp only at K;split at K
     ·exact Zf K
     ·rename_i hne;obtain⟨vs,e1,r1⟩:=N.at hi ha;obtain⟨its,rv,pl,hz⟩:=N.inv.list<|SqL.of e1;refine Jq2 (d:=Zd) rfl (Jor _) (λq=>absurd q hne) hh pl.isList (Vi hb r1 rv) λv h2 tk mi kk=>?_
      rcases mi with⟨e,_⟩|⟨_,t,ev⟩
      ·exact absurd e hne
      ·subst ev;exact fin0 N K rfl _ _ (N.inv.kept (t':=tk) kk) #[t,rfl]
   |_=>exact Zf K
 |_=>exact Zf K
def Xr:IV->IH->Res IV
 |.ref i,h=>match h[i]? with
  |some (.dct kvs)=>.ok (.int kvs.length) h
  |_=>.stuck
 |_,_=>.stuck
theorem Jz1:Qr ce X (.builtin "len") (on1 Xr):=Vy λpj s σ H ι σi h x xv u Q E N ru qx K=>by
 cases x with
 |ref i=>
  obtain⟨a,e1,ha⟩:=qx;subst e1;cases ru;dsimp only[Xr]at K;cases hi:h[i]? with|none=>rw[hi]at K;exact Zf K|some ob=>
   rw[hi]at K;cases ob with
   |dct kvs=>
    obtain⟨ws,e1,r1⟩:=N.at hi ha;refine J3s N.inv (.of e1) λt s' I'=>?_
    rw[r1.length];exact fin0 N K rfl _ _ I' #[_,rfl]
   |_=>exact Zf K
 |_=>exact Zf K
structure BasK(K:W.Frag)(C:Zo):Prop where
 sp:W.specialIn K (.ref C) "__getattribute__"=Za (Za<|.builtin "type.__getattribute__")
 rd:W.readsIn K C (.type "type")=Zh
 fc:∃fa,W.findIn K (.ref C) "__init__"=Za (Za<|.ref fa)/\W.findCls K (.ref C) (.type "type") "__init__"=Za (.val<|.ref fa)/\W.keepIn K (.ref fa)=Zh
variable{k:Nat}{fa C:Zo}{fd:Zbc}{ps:Tk}{f:Tx->IH->Res IV}{dvs:Tx}{ds:Tv}{x:Str}{p pos apos:Pos}{e:Expr}{es:Td}{ma:A1}{pl:Sem Bool}
theorem J0o(F:FnOk X.prog X.w X.K X.mg X.base (CXI X.prog X.w) k fa fd ps<|spI ce X.K ps f)(hr:Room k X.A)(hg:Gl X x)(hm:X.mg x=Za (.ref C))(B:BasK X.K C)(M:Mk X.K C fa)(hb:Qh X.K fd ps ds)(hd:∃vs,Vals vs ds/\∀ι H,RVs X.K ι H dvs vs) (ha:PAi ce X (e::es) ma)(hlen:∀σ h xs h',ma σ h=.ok xs h'->xs.length+ds.length=ps.length)(hdb:(x==("__debug__":Str))=Zj:=by decide)(he:ZG (e::es) X.env=(Zj,Zby e X.env)::ZG es X.env:=by rfl)(hpl:(Zbz pos<|ZG es X.env).any (·.1)=Zj:=by rfl) (ht:Zby (.Call (.Attribute (.Name x p) "__init__" apos) (e::es) [] pos) X.env=(do
   let ov<-Zby (.Name x p) X.env
   ZfJ apos.atName
   let (f,first)<-Zce [ov] (ZeF ov "__init__" pl)
   callWith pos f first (Zbz pos<|ZG (e::es) X.env) (ZeM pos<|Zdw [] X.env)):=by rfl):
  PEi ce X (.Call (.Attribute (.Name x p) "__init__" apos) (e::es) [] pos) (Jl f dvs ma):=by
 intro pj s σ H ι σi h Q E N K;obtain⟨fa',f1,f2,hk⟩:=B.fc;have ef:fa'=fa:=by have:=f1.symm.trans M.init;cases this;rfl
 subst ef;refine W.methodCall_KW (pl:=pl) (V4 N.inv hg hm ?_ hdb) ht;refine W.method_cls N.inv.kIn B.sp<|W.cls_value N.inv.kIn B.rd f2 rfl ?_;have N':Now ce X pj ι σi h σ H {s with toks:=s.toks+1}:=#[N.inv.tok _,N.rel,N.st];refine W.callWith_K (h₀:=X.base) N.inv.ok.mod.kin hk ?_ he hpl;have K':=K;unfold Jl at K';refine ha pos pj _ σ H ι σi h _ E N' ?_;cases e0:ma σi h with|exc n h'=>rw[e0]at K';exact K'|stuck=>rw[e0]at K';exact K'|ok xs h'=>
  rw[e0]at K';intro us s1 H1 ι1 N1 n1 r1;have hl:xs.length=us.length:=by obtain⟨vs,rv,q⟩:=r1;rw[<-rv.length,q.length]
  have hl2:=hlen σi h xs h' e0;exact#[N1.inv.kIn,Yp (us:=us) F hr hb hd 05 N1 r1<|Kont.mono (r:=f (xs++dvs) h') K' n1]
end
section
variable{prog:ZD}{w:ZV}{A:ZH}{E:QvT}{s:Zk}{x y:Str}{t u:Tok}{Q:QvT}
open Builtin Builtin.Str in
end
noncomputable def neIn (K:W.Frag)(C:Zo):Bool:=match K.lookup C with|some ⟨.type "type",_,.cls cd,sl⟩=>(match cd.mro,sl.toList with|[.ref C',.type "object"],[_,_,_,_,Za (.builtin _),_]=>C'==C&&!cd.hasDel&&W.nsOkIn K cd.ns&&W.nsIn K cd.ns "__eq__"==Za Zd&&W.nsIn K cd.ns "__ne__"==Za Zd|_,_=>Zj)|_=>Zj
noncomputable def Jhc:Ty->Wu|.lst=>Za Zh|.ins c=>if c=="Work" then Za Zj else Zd|.exc _=>Zd|_=>Za Zj
theorem Jnv{ce:CeT}{K:W.Frag}(h:∀C,ce "Work"=Za C->ClsI K C/\W.kitOne K (.ref C) (.type "list")=Za Zj):IsOk ce K (.type "list") Jhc:=by
 have O:IsOk ce K (.type "list") QT:=Jjp;refine#[O.non,O.bl,O.int,O.str,O.lst,O.tup,O.dct,λk C b e hk=>?_,(λk C b e=>by cases e)];unfold Jhc at e;dsimp only at e;split at e
 ·rename_i q;cases beq_iff_eq.mp q;cases e;exact h C hk
 ·cases e
def ExC(h:Zaw)(C:Zo):Prop:=∃nm q N bs bm hdct sn sub ab col dd k0 k1 k2 k3 k5 newId,h.get? C=Za (excClassObj nm q C N bs bm hdct sn sub ab col dd k0 k1 k2 k3 k5 newId)/\bm.contains (.type "BaseException")=Zh
def Jzv(K:W.Frag)(C f:Zo):Bool:=match K.lookup C with|some ⟨.type "type",_,.cls cd,sl⟩=>(match cd.mro,sl.toList with|.ref C'::bm,[_,_,_,_,Za (.builtin n),_]=>C'==C&&n=="ValueError.__new__"&&!cd.hasDel&&W.tailIn K bmV bm&&W.nsOkIn K cd.ns&&W.nsIn K cd.ns "__init__"==Za (Za<|.ref f)&&(match K.lookup f with|some o=>o.cls==.type "function"|none=>Zj)|_,_=>Zj)|_=>Zj
structure BasX(K:W.Frag)(D:Zo):Prop where
 sp:W.specialIn K (.ref D) "__getattribute__"=Za (Za<|.builtin "type.__getattribute__")
 rd:W.readsIn K D (.type "type")=Zh
 fc:W.findCls K (.ref D) (.type "type") "__init__"=Za (.val<|.builtin "ValueError.__init__")
def Jvo:Tv->Bool|.ref _::r=>Jvo r|l=>l==bmV
section
variable{prog:ZD}{w:ZV}{A:ZH}{K:W.Frag}{C x:Zo}{s:Zk}{R:ZeV->Zk->Prop}{ox:Obj}{name:Str}{v:Zg}
structure StoX(K:W.Frag)(C:Zo)(name:Str):Prop where
 line:(W.clsIn K C).any (λcd=>Jvo cd.mro&&cd.hasDict)=Zh
 free:W.takerIn K C name=Za Zd
 way:W.findIn K (.ref C) "__setattr__"=Za (Za<|.builtin "object.__setattr__")
end
end L3
namespace L3
open PySem PySem.Spec PySem.Calls PyProof.Rows L2
end L3
namespace L3
open PySem PySem.Spec PyProof.Rows L2
section
variable{ce:CeT}{X:Cx}
section
variable{A:ZH}{R:ZeV->Zk->Prop}{Q E:QvT}{pj:PnT}{σi:ISt}{σ:L2.St}{G:Hp->Prop}{fq:Zo}{mk:IV->IH->Res IV}{gt:IV->IV->Wu}{i n:Nat}{l I C:Zo}{kw:Wk}
theorem Jt6(hh:A.handled=Zd)(cm:CmpK ce X A.in1 .Lt gt)(ko:XR ce X A.in1 σi σ pj G (.ref fq) mk)(hG:∀H H',Ext H H'->G H->G H')(N:Now ce X pj ι σi h σ H z)(g:G H)(hi:ι[i]?=Za l) (K:Kont ce X RU pj ι σi σ H (VQ gt mk i Zd h) Q E):Zt (Zz X.prog X.w) A (call (.builtin "min") [.ref l] [(Zba "key",.ref fq)]) Q E z:=by refine kmk_tree PySem.F.kind_min PySem.F.plain_min PySem.F.entry_min (kmk_min_key _ _) ?_;show Zt _ A.in1 (ZbR "min" ["key","default"] 0 #[[],[(Zba "key",.ref fq)]]>>=_) _ _ z;refine Zc<|Zf4 (show ZbR "min" ["key","default"] 0 #[[],[(Zba "key",.ref fq)]]=pure [Za<|.ref fq,Zd]from rfl) ?_;refine Zc<|Zn ?_;exact Jxu (dv:=Zd) mmN hh cm ko hG N g hi (λy e=>by cases e) (λv s' q=>q) (λc s' q r=>#[q,r]) K
end
def Xm(gt:IV->IV->Wu)(q:Str)(j:Nat)(js:Tq)(aa:A1)(m:E1):E1:=λσ h=>(aa σ h).bind λxs h1=>match h1[j]? with|some (.tab q')=>if q'=q then(match xs with|[.ref i]=>VQ gt (λv h'=>m (Za v::js.map λj=>(σ[j]?).join) h') i Zd h1|_=>.stuck)else .stuck|_=>.stuck
theorem J0x{k:Nat}{q x:Str}{caps:Tk}{js:Tq}{j:Nat}{a body:Expr}{aa:A1}{m:E1}{lt:IV->IV->Wu}{params:ZcT}{scope:ZbF}{p lp pos kp:Pos}(hg:Gl X "min")(hm:X.mg "min"=Zd)(ha:PAi ce X [a] aa)(cm:∀A:ZH,A.units+64<cLine->CmpK ce X A .Lt lt)(hs:ZG [a] X.env=[(Zj,Zby a X.env)])
  (hr:Room (k+2) X.A)(hcd:W.codeIn X.K X.env.code q=Zh)(hq:X.env.qual=q++".<locals>.")(B:Qy X.mg X.base)(hx:QW params=Za x)(S:LamSc X.N X.env.scope.names x caps js scope)
  (hb:∀f cd s' H',PEi ce (cxL X X.A.in1 (x::caps) q scope f cd s' H') body m):
  PEi ce X (.Call (.Name "min" p) [a] [#[Za "key",.Lambda params body scope lp,kp]] pos) (Xm lt q j js aa m):=λpj s σ H ι σi h Q E N K=>by
 have hcl:Zeo scope X.env=pure (clOf X.env.cells scope.names []):=Jbi λy hm hk=>N.inv.ok.has y.1<|.inl<|S.free y hm hk
 refine Zal<|Qp N.inv hg hm rfl ?_;refine callWith_kw ?_ (by rw[hs];rfl) (by rw[hs];rfl) rfl rfl;refine(ha pos).run N K λxs h1 us s1 H1 ι1 N1 n1 r1 K1=>?_
 cases ej:h1[j]? with|none=>rw[ej]at K1;exact Zf K1|some ob=>
  rw[ej]at K1;cases ob with
  |tab q'=>
   dsimp only at K1;split at K1
   ·rename_i eq;subst eq;refine ZbY<|Zc<|Jl5 N1 ej hcd hq (Jl4 hx) hcl B λf c pm ctv s2 H2 N2 n2 LC=>Zc<|ZbT<|Zn ?_
    refine Zdd ?_;have K3:=Kont.more (pl:=[(f,lamO q' params body scope (clOf X.env.cells scope.names []) pm ctv c)])<|Kont.mono K1 n2;obtain⟨vs,rv,qs⟩:=r1.mono n2;cases xs with|nil=>exact Zf K3|cons x t=>
     cases t with|cons _ _=>cases x<;>exact Zf K3|nil=>
      cases x with
      |ref i=>
       obtain⟨w,rfl,ad,rfl,hav⟩:=qs.one_of;obtain⟨u,rfl,ru⟩:=QP rv;cases ru;refine Jt6 (G:=λH=>QC H q'<|.ref c) (mk:=λv h'=>m (Za v::js.map λj=>(σi[j]?).join) h') hr.hd (cm _ hr.in1.units) ?_ (λH H' e g=>g.mono e.frzs) N2 LC hav ?_
       ·intro pl s4 H4 ι4 h4 v u Q4 N4 g4 ru4 K4;have pf:=N4.inv.pin (f,lamO q' params body scope (clOf X.env.cells scope.names []) pm ctv c)<|Zq _<|ZW _<|Zq _<|Z9.mpr rfl;exact Jqq (A:=X.A.in1) N.inv.ok.frames hr.in1 N4 pf.1 g4 hx S (hb f<|.ref c) ru4 K4
       ·exact K3
      |_=>exact Zf K3
   ·exact Zf K1
  |_=>exact Zf K1
end
def ltL:Tp->Tp->Bool|a::as,b::bs=>if a=b then ltL as bs else decide (a<b)|_,_=>Zj
abbrev ivl(l:Wi):Tv:=l.map λp=>.int p.1 p.2
section
open PySem.AutoSeq1 (wpAny_loadPart')
open PySem.MeetsSeq PySem.MeetsSeq2 PySem.MeetsSeq3 PySem.SeqRoads2
theorem Jog(l b:Zo)(as bs:Wi)(hl:as.length=bs.length)(n n2:Nat)(dd dd2:Tc)(sl sl2:Wc):
  Meets (Zb5.«tuple.__lt__» #[[.ref l,.ref b],[]])
   (λA R s=>s.heap.get? l=Za {cls:=.type "tuple",dict:=dd,data:=.seq (ivl as).toArray n,slots:=sl}/\s.heap.get? b=Za {cls:=.type "tuple",dict:=dd2,data:=.seq (ivl bs).toArray n2,slots:=sl2} /\
    R (.ok (.ret (.bool (ltL (as.map (·.1)) (bs.map (·.1)))))) s):=
 .of_wp λprog w A R s h=>by
  obtain⟨hp,g,d,tk,os⟩:=s;obtain⟨ho,hb,h⟩:=h;have f2:=AutoSeq1.sub_tuple_tuple
  wp_walk using Zdj ho,Zdj hb,wpAny_forIn_list _ (λrest b s'=>b.1=Zd/\s'=#[hp,g,d,tk,os]/\∃xs ys:Wi,xs.length=ys.length/\rest=(ivl xs).zip (ivl ys) /\
   R (.ok (.ret (.bool (ltL (xs.map (·.1)) (ys.map (·.1)))))) #[hp,g,d,tk,os]) _
  case turn=>
   rintro⟨y,x⟩ rest b s' ⟨hb',rfl,xs,ys,ll,hz,hR⟩;match xs,ys,ll,hz,hR with
   |p::xs,q::ys,ll,hz,hR=>
    injection hz with hyx hrest
    have hy:ZcC p.1 p.2=y:=(congrArg Prod.fst hyx).symm;have hx:ZcC q.1 q.2=x:=(congrArg Prod.snd hyx).symm;subst hy hx;refine Zc<|wpAny_eqBool_int ?_;by_cases e:p.1=q.1
    ·rw[beq_iff_eq.mpr e]
     wp_walk
     exact#[rfl,rfl,xs,ys,by simpa using ll,hrest,by simpa[ltL,e]using hR]
    ·rw[beq_eq_false_iff_ne.mpr e];have cmp:=CmpOf.ints_lt (prog:=prog) (w:=w) (A:=A.in1) (P:=λi v=>∃t,v=.int (if i=0 then p.1 else q.1) t) (λi=>if i=0 then p.1 else q.1) λ_ _ q=>q
     have hc:∀(Q:QvT)(E:QvT)(s:Zk),Q (.bool<|decide (p.1<q.1)) s->Zt (Zz prog w) A.in1 (ZdP .Lt (.int p.1 p.2)<|.int q.1 q.2) Q E s:=λQ E s h=>by have:=cmp 0 1 (.int p.1 p.2) (.int q.1 q.2) s Q E #[p.2,03] #[q.2,03];simp only[if_true,show ¬(1:Nat)=0 by decide,if_false]at this;exact this h
     show Zt _ A.in1 (rule _>>=λ_=>ZdP .Lt (.int p.1 p.2) (.int q.1 q.2)>>=λv=>ret v>>=λf=>pure<|ForInStep.done (Za f,())) _ _ _;refine Zc<|Zb9<|Zc<|hc _ _ _<|Zc<|Zn<|Zn<|Zn #[_,rfl,?_];simpa[ltL,e]using hR
   |[],ys,ll,hz,hR=>cases hz
   |_::_,[],ll,hz,hR=>cases hz
  case fin=>
   rintro⟨b1,b2⟩ s' ⟨hb',rfl,xs,ys,ll,hz,hR⟩;simp only at hb';subst hb';match xs,ys,ll,hz,hR with
   |[],[],_,_,hR=>
    wp_walk
    exact#[_,rfl,by simpa[Builtin.Tuple.tupleCompareSizes,hl,ltL]using hR]
   |_::_,_::_,_,hz,_=>cases hz
  case h=>exact#[rfl,rfl,as,bs,hl,03,h]
end
theorem Jfw:∀{us:Tv}{ns:Tp},Zbs us ns->∃l:Wi,us=ivl l/\l.map (·.1)=ns|[],[],_=>#[[],rfl,rfl]|[],_::_,h=>by cases h|_::_,[],h=>by cases h|u::us,n::ns,h=>by cases h;rename_i t r;obtain⟨l,e1,e2⟩:=Jfw r;exact#[(n,t)::l,by rw[e1];rfl,by rw[<-e2];rfl]
def ltT:IV->IV->Wu|.tup xs,.tup ys=>(match JF xs,JF ys with|some as,Za bs=>if as.length=bs.length then Za (ltL as bs)else Zd|_,_=>Zd)|_,_=>Zd
section
variable{ce:CeT}{X:Cx}
theorem J1h{A:ZH}(hu:A.units<cLine)(N:Now ce X pj ι σi h σ H s)(r:RU X.K ι H k u)(rb:RU X.K ι H kb ub)(e:ltT k kb=Za b)(q:Q (.bool b) s):Zt (Zz X.prog X.w) A (ZdP .Lt u ub) Q E s:=by
 cases k with
 |tup xs=>
  cases kb with
  |tup ys=>
   obtain⟨x,rx,a,vs,rfl,sa,ra⟩:=r;obtain⟨y,ry,c,ws,rfl,sc,rc⟩:=rb;have ru:u=.ref a:=rx;have rub:ub=.ref c:=ry;subst ru rub;unfold ltT at e;dsimp only at e;cases e1:JF xs with|none=>rw[e1]at e;cases e|some as=>
    cases e2:JF ys with|none=>rw[e1,e2]at e;cases e|some bs=>
     rw[e1,e2]at e;dsimp only at e;split at e
     ·rename_i hl;cases e;obtain⟨its,v1,⟨⟨cls,dd,data,sl⟩,ho,hc,n,hd⟩,_⟩:=N.inv.tuple sa;obtain⟨jts,v2,⟨⟨cls2,dd2,data2,sl2⟩,ho2,hc2,n2,hd2⟩,_⟩:=N.inv.tuple sc;simp only at hc hd hc2 hd2;subst hc hd hc2 hd2;obtain⟨l,rfl,rfl⟩:=Jfw<|Vi e1 ra v1;obtain⟨m,rfl,rfl⟩:=Jfw<|Vi e2 rc v2;exact richCompare_meets_room (op:=.Lt) #[_,ho,rfl] #[_,ho2,rfl] PySem.F.slot_tuple_lt PySem.F.entry_tuple_lt (PySem.F.args_tuple_lt_2 _ _) (Jog a c l m (by simpa using hl) n n2 dd dd2 sl sl2) #[ho,ho2,show ZdF (ltL (l.map (·.1)) (m.map (·.1)))≠Value.notImplemented/\Q (.bool (ltL (l.map (·.1)) (m.map (·.1)))) s from#[(λx=>nomatch x),q]] hu
     ·cases e
  |_=>cases e
 |_=>cases e
theorem Jwz{A:ZH}(hu:A.units<cLine):CmpK ce X A .Lt ltT:=λ_ _ _ _ _ _ s _ _ _ _ _ _ _ N r rb e q=>J1h hu N r rb e<|q s.heap s.toks λ_ _ e=>e
end
end L3
namespace L3
open PySem PySem.Spec PyProof.Rows L2 PySem.W
noncomputable def Jr {α:Type}(lt:Nat->Nat->Bool):KasT α->α|.ret a=>a|.ask i j k=>Jr lt<|k<|lt i j
def Asks{α:Type}(n:Nat)(P:α->Prop):KasT α->Prop|.ret a=>P a|.ask i j k=>i<n/\j<n/\∀b,Asks n P<|k b
theorem Asks.mono{α:Type}{n:Nat}{P P':α->Prop}(f:∀a,P a->P' a):∀{t:KasT α},Asks n P t->Asks n P' t|.ret _,h=>f _ h|.ask _ _ _,⟨h1,h2,h3⟩=>#[h1,h2,λb=>Asks.mono f<|h3 b]
theorem Asks.bind{α β:Type}{n:Nat}{P:α->Prop}{P':β->Prop}{f:α->KasT β}(hf:∀a,P a->Asks n P' (f a)):∀{t:KasT α},Asks n P t->Asks n P' (t.bind f)|.ret _,h=>hf _ h|.ask _ _ _,⟨h1,h2,h3⟩=>#[h1,h2,λb=>Asks.bind hf<|h3 b]
theorem Asks.run:∀{t:KasT α},Asks n P t->P (Jr lt t)|.ret _,h=>h|.ask i j k,⟨_,_,h⟩=>Asks.run (t:=k<|lt i j)<|h<|lt i j
theorem Asks.wp{α:Type}{P:α->Prop}{Q:α->Zk->Prop}(hc:∀i j,i<n->j<n->∀C:Bool->Zk->Prop,C (lt i j) s->cmp i j C s):∀{t:KasT α},Asks n P t->Q (Jr lt t) s->t.kasWp cmp Q s|.ret _,_,q=>q|.ask i j k,⟨h1,h2,h3⟩,q=>hc i j h1 h2 _<|Asks.wp (t:=k<|lt i j) hc (h3<|lt i j) q
def Bd(n:Nat)(p:Tf):Prop:=0<n/\p.toList.Perm (ZU n)
theorem Bd.at(h:Bd n p)(i:Nat):p.getD i 0<n:=by
 by_cases hi:i<p.size
 ·rw[Zbx,Zbd hi];have:p[i]∈p.toList:=03;exact Za0.mp<|h.2.mem_iff.mp this
 ·rw[Zbx,Zc4 05];exact h.1
theorem Jhf{n:Nat}{p:Tf}(h:Bd n p):∀f m,Asks n (λ_=>True) (Zc5 p f m)|0,_=>trivial|f+1,m=>#[h.at _,h.at _,λb=>by
   dsimp only;split
   ·trivial
   ·exact Jhf h f _]
theorem Jd6{n:Nat}{p:Tf}(h:Bd n p)(k:Nat):∀f l r,Asks n (λ_=>True) (Zei p k f l r)
 |0,_,_=>trivial
 |f+1,l,r=>by
  unfold Zei;split
  ·trivial
  ·exact#[h.at _,h.at _,λb=>by
    dsimp only;split
    ·exact Jd6 h k f _ _
    ·exact Jd6 h k f _ _]
theorem Bd.perm{p q:Tf}(h:Bd n p)(r:q.Perm p):Bd n q:=#[h.1,(ZcL.mp r).trans h.2]
theorem Bd.rev(h:Bd n p)(i j:Nat):Bd n (Zcm p i j):=h.perm<|Zex _ _ _ _
theorem Jc4:∀f (p:Tf) m q,Bd n p->Asks n (λr=>Bd n r.1) (ZdQ f p m q)|0,_,_,_,h=>h|f+1,p,m,q,h=>#[h.at _,h.at _,λb=>by
   dsimp only;split
   ·split
    ·exact Jc4 f _ _ _<|h.rev _ _
    ·exact Jc4 f _ _ _ h
   ·exact#[h.at _,h.at _,λd=>by
     dsimp only;split
     ·exact h
     ·exact Jc4 f _ _ _ h]]
theorem Jgt{n:Nat}{p:Tf}(h:Bd n p)(m r:Nat):Asks n (λr=>Bd n r.2) (ZfK m r p):=by unfold ZfK;refine Asks.bind (P:=λ_=>True) (λx _=>?_)<|Jhf (h.rev _ _) _ _;exact h.rev _ _
theorem Jc5{n:Nat}{p:Tf}(h:Bd n p)(m r:Nat):Asks n (λr=>Bd n r.2) (Zd6 m r p):=Asks.bind (λx hx=>by
  split
  ·exact Jgt (hx.rev _ _) _ _
  ·exact Jgt hx _ _) (Jc4 _ _ _ _ h)
theorem Jnf{n:Nat}{p:Tf}(h:Bd n p)(r:Nat):Asks n (λr=>Bd n r.2) (ZeO r p):=Asks.bind (λm _=>by
  split
  ·exact h
  ·split
   ·exact#[h.at _,h.at _,λb=>by
     dsimp only;split
     ·exact h
     ·exact Jc5 (h.rev _ _) _ _]
   ·exact Jc5 h _ _) (Jhf h _ _)
theorem Jlr{n:Nat}:∀f (p:Tf) k,Bd n p->Asks n (Bd n) (kas_bin f p k)|0,_,_,h=>h|f+1,p,k,h=>Asks.bind (λl _=>Jlr f _ _<|h.perm<|bubble_perm _ _ _)<|Jd6 h k _ _ _
theorem Jfg{n:Nat}(hn:0<n):Asks n (Bd n) (ZcA n):=Asks.bind (λr hr=>by
  split
  ·exact Jlr _ _ _ hr
  ·exact hr) (Jnf #[hn,ZcM _] n)
theorem Ju4(vs:Tv)(h:vs.length<2):(Jr lt<|ZcA vs.length).toList.map (λi=>vs.getD i Zac)=vs:=by match vs,h with|[],_=>simp[ZcA,ZeO,Zc5,KasT.bind,Zd6,ZdQ,ZfK,Jr,Zcm,mirror,Array.swapIfInBounds]|[v],_=>have:=(Jfg (n:=1) 01).run (lt:=lt);have e:(Jr lt<|ZcA 1).toList=[0]:=List.perm_singleton.mp this.2;show(Jr lt<|ZcA 1).toList.map _=_;rw[e];rfl|_::_::_,h=>simp at h;lia
theorem Jkf(r:Vals vs us):∀p:Tq,(∀i∈p,i<vs.length)->Vals (p.map λi=>vs.getD i .non) (p.map λi=>us.getD i Zac)
 |[],_=>.nil
 |i::p,h=>by
  have hi:=h i<|Z2 ..;obtain⟨u,eu,ru⟩:=r.get<|Zb hi;refine .cons ?_<|Jkf r p λj hj=>h j<|Zl _ hj
  show L2.RelV (vs.getD i .non)<|us.getD i Zac;rw[Zi,Zi,Zb hi,eu];exact ru
theorem Jmg{K:W.Frag}{ι:Tw}{H:Hp}{xs:Tx}{vs:Ud}(r:RVs K ι H xs vs):∀p:Tq,(∀i∈p,i<xs.length)->RVs K ι H (p.map λi=>xs.getD i .non) (p.map λi=>vs.getD i .non)
 |[],_=>rfl
 |i::p,h=>by have hi:=h i<|Z2 ..;obtain⟨v,ev,rv⟩:=r.get<|Zb hi;refine#[_,_,rfl,?_,Jmg r p λj hj=>h j<|Zl _ hj];show RV K ι H (xs.getD i .non)<|vs.getD i .non;rw[Zi,Zi,Zb hi,ev];exact rv
theorem Xp{α β:Type}{lt:Nat->Nat->Bool}{f:α->KasT β}:∀(t:KasT α),Jr lt (t.bind f)=Jr lt (f<|Jr lt t)|.ret _=>rfl|.ask i j k=>Xp<|k<|lt i j
section
variable{kf:Nat->Int}{p:Tf}{n i j:Nat}
abbrev ltF(kf:Nat->Int)(i j:Nat):Bool:=decide (kf i<kf j)
def kAt(kf:Nat->Int)(p:Tf)(i:Nat):Int:=kf<|p.getD i 0
def Ris(kf:Nat->Int)(p:Tf)(n:Nat):Prop:=∀i j,i<=j->j<n->kAt kf p i<=kAt kf p j
def Fal(kf:Nat->Int)(p:Tf)(n:Nat):Prop:=∀i j,i<=j->j<n->kAt kf p j<=kAt kf p i
theorem Yh(h:p[i]?=q[j]?):kAt kf p i=kAt kf q j:=by unfold kAt;rw[Zbx,Zbx,h]
theorem Jkz(hj:j<=p.size)(m:Nat):kAt kf (Zcm p i j) m=if i<=m/\m<j then kAt kf p (i+j-1-m)else kAt kf p m:=by
 have e:=getElem?_mirror_all (i:=i) hj m;split at e
 ·rename_i c;rw[if_pos c];exact Yh e
 ·rename_i c;rw[if_neg c];exact Yh e
theorem Jql(hs:k<p.size)(hd:d<=k)(m:Nat):kAt kf (bubble p k d) m=if m=k-d then kAt kf p k else if k-d<m/\m<=k then kAt kf p (m-1)else kAt kf p m:=by
 have e:=getElem?_bubble hs d hd m;split at e
 ·rename_i c;rw[if_pos c];exact Yh e
 ·rename_i c;rw[if_neg c];split at e
  ·rename_i c;rw[if_pos c];exact Yh e
  ·rename_i c;rw[if_neg c];exact Yh e
theorem Jee(hj:j<=p.size)(h:∀m,i<=m->m<j->kAt kf p m=kAt kf p (j-1))(m:Nat):kAt kf (Zcm p i j) m=kAt kf p m:=by
 rw[Jkz hj];split
 ·rw[h _ 05 05,h m 05 05]
 ·rfl
theorem Ris.succ(h:Ris kf p n)(h1:1<=n)(q:kAt kf p (n-1)<=kAt kf p n):Ris kf p (n+1):=λi j hij hj=>by
 by_cases e:j<n
 ·exact h i j hij e
 ·obtain rfl:j=n:=05;by_cases e2:i=j
  ·subst e2;exact ZJ _
  ·exact Zan (h i (j-1) 05 05) q
theorem Fal.succ(h:Fal kf p n)(h1:1<=n)(q:kAt kf p n<=kAt kf p (n-1)):Fal kf p (n+1):=λi j hij hj=>by
 by_cases e:j<n
 ·exact h i j hij e
 ·obtain rfl:j=n:=05;by_cases e2:i=j
  ·subst e2;exact ZJ _
  ·exact Zan q<|h i (j-1) 05 05
theorem Jk9:∀(f n:Nat),1<=n->Ris kf p n->n<=Jr (ltF kf) (Zc5 p f n)/\Jr (ltF kf) (Zc5 p f n)<=n+f/\Ris kf p (Jr (ltF kf)<|Zc5 p f n)/\(Jr (ltF kf) (Zc5 p f n)=n+f∨kAt kf p (Jr (ltF kf)<|Zc5 p f n)<kAt kf p (Jr (ltF kf) (Zc5 p f n)-1))
 |0,n,_,h=>#[Zm _,Zm _,h,.inl rfl]
 |f+1,n,h1,h=>by
  show n<=Jr (ltF kf) (if decide (kAt kf p n<kAt kf p (n-1))=Zh then .ret n else Zc5 p f (n+1))/\_;have e:Jr (ltF kf) (Zc5 p (f+1) n)=Jr (ltF kf) (if decide (kAt kf p n<kAt kf p (n-1))=Zh then .ret n else Zc5 p f (n+1)):=rfl;rw[e];split
  ·rename_i c;exact#[Zm _,by show n<=_;lia,h,.inr<|of_decide_eq_true c]
  ·rename_i c;have c:¬kAt kf p n<kAt kf p (n-1):=by simpa using c
   obtain⟨a,b,d,g⟩:=Jk9 f (n+1) 05<|h.succ h1 05;exact#[05,05,d,g.imp (λz=>05) id]
structure Dn(kf:Nat->Int)(p:Tf)(n q:Nat):Prop where
 f:Fal kf p n
 q1:q+1<=n
 e:∀m,n-(q+1)<=m->m<n->kAt kf p m=kAt kf p (n-1)
theorem Je9:∀(f:Nat)(p:Tf)(n q:Nat),p.size=z->n+f<=z->Dn kf p n q->∀r,Jr (ltF kf) (ZdQ f p n q)=r->r.1.size=z/\n<=r.2.1/\r.2.1<=n+f/\Dn kf r.1 r.2.1 r.2.2
 |0,p,n,q,hz,hf,d,r,e=>by subst e;exact#[hz,Zm _,Zm _,d]
 |f+1,p,n,q,hz,hf,d,r,e=>by
  have dq:=d.q1;have e':Jr (ltF kf) (if decide (kAt kf p n<kAt kf p (n-1))=Zh then(if q>0 then ZdQ f (Zcm p (n-(q+1)) n) (n+1) 0 else ZdQ f p (n+1) 0)
   else .ask (p.getD (n-1) 0) (p.getD n 0) λd=>if d=Zh then .ret (p,n,q)else ZdQ f p (n+1) (q+1))=r:=e
  split at e'
  ·rename_i c;have c:kAt kf p n<kAt kf p (n-1):=by simpa using c
   split at e'
   ·have same:=λm=>Jee (kf:=kf) (i:=n-(q+1)) (j:=n) (p:=p) 05 d.e m
    have d2:Dn kf (Zcm p (n-(q+1)) n) (n+1) 0:=by refine#[λi j hij hj=>?_,05,λm h1 h2=>by rw[show m=n+1-1 by lia]];rw[same,same];exact d.f.succ 05 05 i j hij hj
    obtain⟨a1,a2,a3,a4⟩:=Je9 f _ (n+1) 0 ((ZdR _ _ _ _).trans hz) 05 d2 r e';exact#[a1,05,05,a4]
   ·have d2:Dn kf p (n+1) 0:=#[d.f.succ 05 05,05,λm h1 h2=>by rw[show m=n+1-1 by lia]];obtain⟨a1,a2,a3,a4⟩:=Je9 f _ (n+1) 0 hz 05 d2 r e';exact#[a1,05,05,a4]
  ·rename_i c;have c:¬kAt kf p n<kAt kf p (n-1):=by simpa using c
   have e'':Jr (ltF kf) (if decide (kAt kf p (n-1)<kAt kf p n)=Zh then .ret (p,n,q)else ZdQ f p (n+1) (q+1))=r:=e';split at e''
   ·subst e'';exact#[hz,Zm _,by show n<=_;lia,d]
   ·rename_i c2;have c2:¬kAt kf p (n-1)<kAt kf p n:=by simpa using c2
    have d2:Dn kf p (n+1) (q+1):=by
     refine#[d.f.succ 05 05,05,λm h1 h2=>?_];by_cases em:m=n
     ·subst em;rfl
     ·rw[d.e m 05 05];show _=kAt kf p n;lia
    obtain⟨a1,a2,a3,a4⟩:=Je9 f _ (n+1) (q+1) hz 05 d2 r e'';exact#[a1,05,05,a4]
theorem Jjx{m r:Nat}(h1:1<=m)(hm:m<=r)(hr:r<=p.size)(h:Fal kf p m):∀x,Jr (ltF kf) (ZfK m r p)=x->x.2.size=p.size/\1<=x.1/\x.1<=r/\Ris kf x.2 x.1:=by
 intro x e;have e:Jr (ltF kf) ((Zc5 (Zcm p 0 m) (r-m) m).bind λk=>.ret (k,Zcm p 0 m))=x:=e;rw[Xp]at e;have rs:Ris kf (Zcm p 0 m) m:=λi j hij hj=>by rw[Jkz 05,Jkz 05,if_pos 05,if_pos 05];exact h _ _ 05 05
 obtain⟨a,b,c,_⟩:=Jk9 (r-m) m h1 rs;subst e;exact#[ZdR _ _ _ _,by show 1<=Jr (ltF kf) (Zc5 (Zcm p 0 m) (r-m) m);lia,by show Jr (ltF kf) (Zc5 (Zcm p 0 m) (r-m) m)<=r;lia,c]
theorem Jes{m r:Nat}(hm:m+1<=r)(hr:r<=p.size)(h:Fal kf p<|m+1):∀x,Jr (ltF kf) (Zd6 m r p)=x->x.2.size=p.size/\1<=x.1/\x.1<=r/\Ris kf x.2 x.1:=by
 intro x e;unfold Zd6 at e;rw[Xp]at e;obtain⟨a1,a2,a3,a4⟩:=Je9 (z:=p.size) (r-(m+1)) p (m+1) 0 rfl 05 #[h,05,λk h1 h2=>by rw[show k=m+1-1 by lia]] _ rfl;generalize Jr (ltF kf) (ZdQ (r-(m+1)) p (m+1) 0)=y at a1 a2 a3 a4 e;have q1:=a4.q1;split at e
 ·have same:=λk=>Jee (kf:=kf) (i:=y.2.1-(y.2.2+1)) (j:=y.2.1) (p:=y.1) 05 a4.e k
  have:=Jjx (m:=y.2.1) (r:=r) (p:=Zcm y.1 (y.2.1-(y.2.2+1)) y.2.1) 05 05 (by show r<=(mirror _ _ _ _).size;rw[ZdR];lia) (λi j hij hj=>by rw[same,same];exact a4.f i j hij hj) x e;rw[show(Zcm y.1 (y.2.1-(y.2.2+1)) y.2.1).size=y.1.size from ZdR _ _ _ _,a1]at this;exact this
 ·have:=Jjx (m:=y.2.1) (r:=r) (p:=y.1) 05 05 05 a4.f x e;rw[a1]at this;exact this
theorem Jrf{r:Nat}(h1:1<=r)(hr:r<=p.size):∀x,Jr (ltF kf) (ZeO r p)=x->x.2.size=p.size/\1<=x.1/\x.1<=r/\Ris kf x.2 x.1:=by
 intro x e;unfold ZeO at e;rw[Xp]at e;obtain⟨a,b,c,d⟩:=Jk9 (kf:=kf) (p:=p) (r-1) 1 (Zm _) (λi j hij hj=>by obtain rfl:j=0:=05;obtain rfl:i=0:=05;exact ZJ _);generalize Jr (ltF kf) (Zc5 p (r-1) 1)=n at a b c d e;split at e
 ·subst e;exact#[rfl,a,by show n<=r;lia,c]
 ·rename_i hn;have hn:n≠r:=by simpa using hn
  have dn:kAt kf p n<kAt kf p (n-1):=d.resolve_left 05;split at e
  ·have e':Jr (ltF kf) (if decide (kAt kf p 0<kAt kf p (n-1))=Zh then .ret (n,p)else Zd6 n r (Zcm p 0 n))=x:=e;split at e'
   ·subst e';exact#[rfl,a,by show n<=r;lia,c]
   ·rename_i cc;have cc:¬kAt kf p 0<kAt kf p (n-1):=by simpa using cc
    have al:∀m,0<=m->m<n->kAt kf p m=kAt kf p (n-1):=λm _ hm=>by have:=c 0 m 05 hm;have:=c m (n-1) 05 05;lia
    have same:=λk=>Jee (kf:=kf) (i:=0) (j:=n) (p:=p) 05 al k
    have:=Jes (m:=n) (r:=r) (p:=Zcm p 0 n) 05 (by show r<=(mirror _ _ _ _).size;rw[ZdR];lia) (λi j hij hj=>by
     rw[same,same];by_cases ej:j<n
     ·rw[al i 05 05,al j 05 ej];exact ZJ _
     ·obtain rfl:j=n:=05;by_cases ei:i=j
      ·subst ei;exact ZJ _
      ·rw[al i 05 05];lia) x e'
    rw[show(Zcm p 0 n).size=p.size from ZdR _ _ _ _]at this;exact this
  ·obtain rfl:n=1:=05;refine Jes (m:=1) (r:=r) (p:=p) 05 hr (λi j hij hj=>?_) x e;have dn:kAt kf p 1<kAt kf p 0:=dn;match i,j with|0,0=>exact ZJ _|0,1=>lia|1,1=>exact ZJ _|_,j+2=>lia|i+2,_=>lia|1,0=>lia
theorem Jf6(h:Ris kf p k):∀(f l r:Nat),r<=k->l<=r->r-l<=f->(∀i,i<l->kAt kf p i<=kAt kf p k)->(∀i,r<=i->i<k->kAt kf p k<kAt kf p i)->∀x,Jr (ltF kf) (Zei p k f l r)=x->x<=k/\(∀i,i<x->kAt kf p i<=kAt kf p k)/\∀i,x<=i->i<k->kAt kf p k<kAt kf p i
 |0,l,r,hr,hl,hf,h1,h2,x,e=>by obtain rfl:l=r:=05;subst e;exact#[hr,h1,h2]
 |f+1,l,r,hr,hl,hf,h1,h2,x,e=>by
  unfold Zei at e;split at e
  ·obtain rfl:l=r:=05;subst e;exact#[hr,h1,h2]
  ·have e':Jr (ltF kf) (if decide (kAt kf p k<kAt kf p ((l+r)/2))=Zh then Zei p k f l ((l+r)/2)else Zei p k f ((l+r)/2+1) r)=x:=e;split at e'
   ·rename_i c;have c:kAt kf p k<kAt kf p ((l+r)/2):=by simpa using c
    exact Jf6 h f _ _ 05 05 05 h1 (λi a b=>Int.lt_of_lt_of_le c<|h _ _ a b) x e'
   ·rename_i c;have c:¬kAt kf p k<kAt kf p ((l+r)/2):=by simpa using c
    exact Jf6 h f _ _ hr 05 05 (λi a=>Zan (h i _ (show i<=(l+r)/2 by lia) 05) 05) h2 x e'
theorem Jre:∀(f:Nat)(p:Tf)(k:Nat),k+f<=p.size->Ris kf p k->∀x,Jr (ltF kf) (kas_bin f p k)=x->Ris kf x (k+f)
 |0,p,k,_,h,x,e=>by subst e;exact h
 |f+1,p,k,hk,h,x,e=>by
  unfold kas_bin at e;rw[Xp]at e;obtain⟨a,b,c⟩:=Jf6 h k 0 k (Zm _) (ZA _) (Zm _) (λi q=>05) (λi q r=>05) _ rfl;generalize Jr (ltF kf) (Zei p k k 0 k)=l at a b c e;have:=Jre f (bubble p k<|k-l) (k+1) (by rw[bubble_size];lia) (λi j hij hj=>by
   have ed:k-(k-l)=l:=05;rw[Jql 05 05,Jql 05 05,ed];split
   ·rename_i ei;split
    ·exact ZJ _
    ·split
     ·exact Zbb<|c _ 05 05
     ·lia
   ·split
    ·rename_i n1 y;split
     ·lia
     ·split
      ·exact h _ _ 05 05
      ·lia
    ·split
     ·exact b i 05
     ·split
      ·exact h _ _ 05 05
      ·exact h _ _ hij 05) x e
  rwa [show k+(f+1)=k+1+f by lia]
theorem Juh{n:Nat}(hn:0<n):Ris kf (Jr (ltF kf)<|ZcA n) n:=by
 unfold ZcA;rw[Xp];have hz:(Zay<|ZU n).size=n:=03;obtain⟨a,b,c,d⟩:=Jrf (kf:=kf) (p:=Zay<|ZU n) (r:=n) 05 (by rw[hz];exact Zm _) _ rfl;generalize Jr (ltF kf) (ZeO n<|Zay<|ZU n)=y at a b c d;rw[hz]at a;split
 ·have em:max y.1 1=y.1:=05;rw[em];have:=Jre (kf:=kf) (n-y.1) y.2 y.1 05 d _ rfl;rwa [show y.1+(n-y.1)=n by lia]at this
 ·obtain e:y.1=n:=05;rw[<-e];exact d
end
def ordK(ks:Tp)(n:Nat):Tq:=(Jr (ltF λi=>ks.getD i 0)<|ZcA n).toList
theorem Jf2(ks:Tp)(hn:0<n):(ordK ks n).Perm (ZU n):=((Jfg hn).run (lt:=ltF λi=>ks.getD i 0)).2
theorem Je7(ks:Tp):ordK ks 0=[]:=by simp[ordK,ZcA,ZeO,Zc5,KasT.bind,Zd6,ZdQ,ZfK,Jr,Zcm,mirror,Array.swapIfInBounds]
theorem Ym(ks:Tp):∀i∈ordK ks n,i<n:=by
 intro i hi;rcases Zdo n with e|e
 ·subst e;rw[Je7]at hi;cases hi
 ·exact Za0.mp<|(Jf2 ks e).mem_iff.mp hi
theorem Jma(ks:Tp)(n:Nat):(ordK ks n).length=n:=by
 rcases Zdo n with e|e
 ·subst e;rw[Je7];rfl
 ·rw[(Jf2 ks e).length_eq,Zcg]
theorem Jt9(ks:Tp)(n:Nat):(ordK ks n).Pairwise λi j=>ks.getD i 0<=ks.getD j 0:=by
 rcases Zdo n with e|e
 ·subst e;rw[Je7];exact .nil
 ·have r:=Juh (kf:=λi=>ks.getD i 0) e;have l:=Jma ks n;rw[Zbe];intro i j hi hj hij;have:=r i j 05 05;have g:∀(m:Nat)(hm:m<(ordK ks n).length),(Jr (ltF λi=>ks.getD i 0)<|ZcA n).getD m 0=(ordK ks n)[m]:=λm hm=>by
   have hm':m<(Jr (ltF λi=>ks.getD i 0)<|ZcA n).size:=by rw[<-ZM];exact hm
   rw[Zbx,Zbd hm'];rfl
  unfold kAt at this;rw[g i hi,g j hj]at this;exact this
theorem Jqd{X:Cx}{pj:PnT}{σ:L2.St}{H:Hp}{s:Zk}{h':Zaw}{t':Nat}{it:Zo}{o:HO}(I:Inv X pj σ H s)(k:∀b u,b≠it->s.heap.get? b=Za u->h'.get? b=Za u)(F:FpOk X pj H it)(new:JG X.prog X.w (upd H it o) h' it o):
  Inv X pj σ (upd H it o) {s with heap:=h',toks:=t'}:=by
 obtain⟨hn,hL,_,h1,h2,h3⟩:=F;have nit:∀b u,H b=Za u->b≠it:=λb u e z=>by rw[z,hn]at e;cases e
 refine I.step (g':=s.gens) (d':=s.drawn) (ch:=[it]) (λb hb=>?_) (λb o _ _ hc e _=>k b o (λz=>hc<|by simp[z]) e) (λb o _ _ hc e _=>#[o.slots,k b o (λz=>hc<|by simp[z]) e]) (λb o hc _ n=>by rw[Jn λz=>hc<|by simp[z]];exact n)
  (λb o hc e=>#[o,k b o (λz=>hc<|by simp[z]) e]) (λb _ e=>by rw[Jn<|nit b _ e];exact e) (λb _ _ e=>by rw[Jn<|nit b _ e];exact e) (λb ps e=>#[#[],by rw[Jn<|nit b _ e,e];simp]) (λm hm=>?_) (λb u e=>?_) I.bare
 ·have e:b=it:=by simpa using hb
  subst e;exact#[h1,hL,h2,h3]
 ·obtain⟨o,es,ep,ho,r⟩:=hm;exact#[o,es,ep,k _ o (ZP hL) ho,r]
 ·by_cases hb:b=it
  ·subst hb;rw[Jz]at e;cases e;exact new
  ·rw[Jn hb]at e;refine(I.hok b u e).stay (λc v hc q=>k c v ?_ q) (λc q=>by rw[Jn<|nit c _ q];exact q) λc _ q=>by rw[Jn<|nit c _ q];exact q
   rcases hc with z|z
   ·rw[z];exact hb
   ·exact nit c _ z
def Q7(mk:IV->IH->Res IV):Tx->Tp->IH->Res (Tp)|[],ks,h=>.ok ks h|y::r,ks,h=>(mk y h).nx.bind λk h'=>match k with|.int n=>Q7 mk r (ks++[n]) h'|_=>.stuck
def rvB{α:Type}(b:Bool)(l:List α):List α:=if b then l.reverse else l
theorem QJ{α:Type}{b:Bool}{l:List α}:(rvB b l).length=l.length:=by cases b;rfl;exact Zcn
def Yt(b:Bool)(ys:Tx)(ks:Tp)(h:IH):Res IV:=.ok (.ref h.length)<|h++[.lst<|rvB b<|(ordK ks ys.length).map λi=>ys.getD i .non]
def X8(b:Bool)(ys:Tx)(ks:Tp)(h:IH):Res IV:=Yt b (rvB b ys) (rvB b ks) h
theorem RVs.rvB{K:W.Frag}{ι:Tw}{H:Hp}{b:Bool}{xs:Tx}{vs:Ud}(h:RVs K ι H xs vs):RVs K ι H (L3.rvB b xs) (L3.rvB b vs):=by cases b;exact h;exact h.rev
theorem Jmx{b:Bool}{ws:Ud}{its:Tv}(h:Vals ws its):Vals (rvB b ws) (rvB b its):=by
 cases b
 ·exact h
 ·exact h.reverse
section
variable{ce:CeT}{X:Cx}
section
variable{A:ZH}{Q E:QvT}{P:PySem.Fin->Zk->Prop}{pj:PnT}{σi:ISt}{σ:L2.St}{G:Hp->Prop}{fq D kS:Zo}{mk:IV->IH->Res IV}{ys:Tx}{ws:Ud}{its:Tv}{ks:Tp}{e e1:Nat}{H:Hp}{ι:Tw}{h:IH}{s:Zk}
theorem Jmm{b:Bool}{kA:Tj}{st:Za9}(N:Now ce X pj ι σi h σ H s)(fD:FpOk X pj H D)(fK:FpOk X pj H kS)(hDK:D≠kS)(gD:s.heap.get? D=Za (ZR "list" #[] e1))(gK:s.heap.get? kS=Za (ZR "list" kA e))(hz:kA.size<64) (rv:Vals ws its)(r3:RVs X.K ι H ys ws)(h64:ys.length<64)(hout:(ZL st).map (·.2)=Zay ((ordK ks ys.length).map λi=>its.getD i Zac))(hf:Zd7 st=Zd)(hP:∀s',Q (.ref D) s'->P (.done<|.ret .none) s')(K:Kont ce X RU pj ι σi σ H (Yt b ys ks h) Q E):Zt (Zz X.prog X.w) A (ksk_tail D b e1 (.ref kS) st) P E s:=by
 have lo:=Jma ks ys.length;have lt:=Ym ks (n:=ys.length);have l1:=r3.length;have l2:=rv.length;have s1:∀b u,b≠kS->s.heap.get? b=Za u->(s.heap.update kS<|ZY λ_=>(#[]:Tj)).get? b=Za u:=λb u nb q=>(Z1 _ _<|ZP nb).trans q
 have gD1:=s1 D _ hDK gD;have N1:=N.turned (h':=s.heap.update kS<|ZY λ_=>(#[]:Tj)) (t':=s.toks) fK s1;have hsz:(Zay<|rvB b<|(ordK ks ys.length).map λi=>its.getD i Zac).size=ys.length:=by rw[Zx,QJ,Zr,lo]
 have hrv:(if b=Zh then(Zay<|(ordK ks ys.length).map λi=>its.getD i Zac).reverse else Zay ((ordK ks ys.length).map λi=>its.getD i Zac))=Zay (rvB b<|(ordK ks ys.length).map λi=>its.getD i Zac):=by cases b<;>simp[rvB]
 unfold ksk_tail;try dsimp only
 rw[hout,hrv];refine Zc (Zck gK rfl ?_ (by rw[Zbi];lia) (ZA _));refine Zc<|Zc1 ?_;refine Zc<|Zf6 gD1 rfl ?_;refine Zc (Zck gD1 rfl ?_ (ZA _) (by rw[hsz,Zbi];lia));rw[hf];simp only[bne_self_eq_false,Zad,if_false];refine Zn<|hP _ ?_;obtain⟨c2,hc2⟩:∃c2,((s.heap.update kS<|ZY λ_=>(#[]:Tj)).update D<|ZY λ_=>Zay<|rvB b<|(ordK ks ys.length).map λi=>its.getD i Zac).get? D=Za (ZR "list" (Zay<|rvB b<|(ordK ks ys.length).map λi=>its.getD i Zac) c2):=#[_,Zbu gD1 λ_=>Zay<|rvB b<|(ordK ks ys.length).map λi=>its.getD i Zac];have hl:(rvB b<|(ordK ks ys.length).map λi=>ws.getD i V.non).length<=sizeLine:=by rw[QJ,Zr,lo,Zbi];lia
 have I':=Jqd N1.inv (o:=.lst<|rvB b<|(ordK ks ys.length).map λi=>ws.getD i V.non) (h':=(s.heap.update kS<|ZY λ_=>(#[]:Tj)).update D<|ZY λ_=>Zay<|rvB b<|(ordK ks ys.length).map λi=>its.getD i Zac) (t':=s.toks) (λb u nb q=>(Z1 _ _<|ZP nb).trans q) fD #[hl,rvB b<|(ordK ks ys.length).map λi=>its.getD i Zac,c2,Jmx (Jkf rv _ λi hi=>by have:=lt i hi;lia),hc2];exact finA N1 K D fD.1 #[_,Jz,RVs.new fD.1 (Jmg r3 _ lt).rvB] _ _ I' rfl
theorem Jui{b:Bool}{us:Tv}{ns:Tp}(h:Zbs us ns):Zbs (rvB b us) (rvB b ns):=by
 cases b
 ·exact h
 ·exact h.reverse
theorem Jzx{b:Bool}{kA:Tj}{its:Tv}(h:kA.size=its.length):(if b=Zh then(kA.zip its.toArray).reverse else kA.zip its.toArray)=(rvB b kA.toList).toArray.zip (rvB b its).toArray:=by cases b with|false=>simp[rvB]|true=>apply Array.toList_inj.mp;simp only[rvB,if_true,ZbG,Array.toList_zip];exact List.reverse_zipWith<|by simpa using h
theorem Jyz{b:Bool}{kA:Tj}(N:Now ce X pj ι σi h σ H s)(fD:FpOk X pj H D)(fK:FpOk X pj H kS)(hDK:D≠kS)(gD:s.heap.get? D=Za (ZR "list" #[] e1))(gK:s.heap.get? kS=Za (ZR "list" kA e))(hk:Zbs kA.toList ks)(lk:ks.length=ys.length)
  (rv:Vals ws its)(r3:RVs X.K ι H ys ws)(h64:ys.length<64)(hP:∀s',Q (.ref D) s'->P (.done<|.ret .none) s')(K:Kont ce X RU pj ι σi σ H (X8 b ys ks h) Q E):
  Zt (Zz X.prog X.w) A (ksk_end D b its.toArray e1 (.ref kS) kA) P E s:=by
 have l1:=r3.length;have l2:=rv.length;have l3:=hk.length;have hz:kA.size=its.length:=by rw[<-ZM];lia
 have step:∀t:Sem PySem.Fin,Zt (Zz X.prog X.w) A t P E s->Zt (Zz X.prog X.w) A (if b=Zh then(do let _<-rule "list.sort.reverse";t)else t) P E s:=by
  intro t ht;split
  ·exact Zc<|Zb9 ht
  ·exact ht
 unfold ksk_end;try dsimp only
 refine step _ ?_;rw[Jzx hz];have rv':=Jmx (b:=b) rv;have r3':=r3.rvB (b:=b);have hk':=Jui (b:=b) hk;have h64':(rvB b ys).length<64:=by rw[QJ];exact h64
 have K:Kont ce X RU pj ι σi σ H (Yt b (rvB b ys) (rvB b ks) h) Q E:=K;have ly:(rvB b ys).length=(rvB b its).length:=by rw[QJ,QJ];lia
 have lk':(rvB b ks).length=(rvB b its).length:=by rw[QJ,QJ];lia
 have l4:(rvB b kA.toList).length=(rvB b its).length:=by rw[QJ,QJ,ZM,hz]
 have z2:its.toArray.size=(rvB b its).length:=by rw[QJ,Zx]
 by_cases h2:its.toArray.size<2
 ·rw[if_pos h2,if_pos h2];refine Zc<|Zn ?_;rw[StateT.run_pure];refine Zc<|Zn ?_;try dsimp only
  refine Jmm N fD fK hDK gD gK 05 rv' r3' h64' ?_ rfl hP K;generalize rvB b its=its at *;generalize rvB b kA.toList=kl at *;have e1:(ZL<|Zfd general' (kl.toArray.zip its.toArray) #[] 7 Zd).map (·.2)=its.toArray:=by apply Array.toList_inj.mp;show((kl.toArray.zip its.toArray).map (·.2)).toList=_;rw[Array.toList_map,ksk_zip];exact List.map_snd_zip<|by rw[List.toList_toArray];lia
  rw[e1,ly];exact congrArg Zay (Ju4 (lt:=ltF λi=>(rvB b ks).getD i 0) its 05).symm
 ·rw[if_neg h2,if_neg h2];rw[Zx]at h2;rw[ksk_kind hk 05];refine Zc<|Zn ?_;have zk:kA.size<64:=05;have n0:¬(rvB b its).length<2:=by rw[QJ];exact h2
  generalize rvB b its=its at *;generalize rvB b kA.toList=kl at *;generalize rvB b ks=ks at *;generalize rvB b ys=ys at *;generalize rvB b ws=ws at *;have sp:=Jfg (n:=its.length) 05;refine Zc (Zar (kat_run (ks:=kl) (vs:=its) (Q:=λst' s'=>s'=s/\Zd7 st'=Zd/\ZL st'=(Jr (ltF λi=>ks.getD i 0)<|ZcA its.length).map (kas_item<|kl.toArray.zip its.toArray)) (G:=λp s'=>s'=s/\p=Jr (ltF λi=>ks.getD i 0) (ZcA its.length)) l4 05 05
   (λp st' s' a1 a2 a3 a4=>#[a4.1,a3,a4.2▸a2]) (Asks.wp (n:=its.length) (lt:=ltF λi=>ks.getD i 0) (λi j hi hj C hC=>?_) sp #[rfl,rfl])) ?_ λ_ _ e=>e)
  ·unfold kas_ask;obtain⟨t1,e1⟩:=hk'.get i _ (Zb<|show i<ks.length by lia);obtain⟨t2,e2⟩:=hk'.get j _ (Zb<|show j<ks.length by lia);rw[Zi,Zi,e1,e2];refine kat_lt_int ?_;have hC:C (decide (ks.getD i 0<ks.getD j 0)) s:=hC;rw[Zi,Zi,Zb (show i<ks.length by lia),Zb<|show j<ks.length by lia]at hC;exact hC
  ·rintro⟨⟨⟩,st'⟩ s' ⟨rfl,hfl,har⟩;try dsimp only
   refine Jmm N fD fK hDK gD gK zk rv' r3' h64' ?_ hfl hP K;rw[kat_snds (ks:=kl) (vs:=its) l4 har,ly];rfl
theorem Ju6{b:Bool}(ko:XR ce X A σi σ pj G (.ref fq) mk)(hG:∀H H',Ext H H'->G H->G H')(N:Now ce X pj ι σi h σ H s)(g:G H)(fD:FpOk X pj H D)(fK:FpOk X pj H kS)(hDK:D≠kS)(gD:s.heap.get? D=Za (ZR "list" #[] e1))(gK:s.heap.get? kS=Za (ZR "list" #[] 0))
  (rv:Vals ws its)(r3:RVs X.K ι H ys ws)(h64:ys.length<64)(hP:∀s',Q (.ref D) s'->P (.done<|.ret .none) s')(K:Kont ce X RU pj ι σi σ H ((Q7 mk ys [] h).bind<|X8 b ys) Q E):
  Zt (Zz X.prog X.w) A (ksk_rest D (.ref fq) b its.toArray e1<|.ref kS) P E s:=by
 have l1:=r3.length;have l2:=rv.length;unfold ksk_rest;refine Zc<|Zb9 ?_;rw[List.forIn_toArray];refine Zc (ksk_fold (λj s'=>∃H' ι' h' ks kA e,Now ce X pj ι' σi h' σ H' s'/\G H'/\Nxt ι H ι' H'/\s'.heap.get? D=Za (ZR "list" #[] e1)/\s'.heap.get? kS=Za (ZR "list" kA e)/\Zbs kA.toList ks/\ks.length=j/\H' D=Zd/\H' kS=Zd/\Kont ce X RU pj ι' σi σ H' ((Q7 mk (ys.drop j) ks h').bind<|X8 b ys) Q E) its 0 s
  #[H,ι,h,[],#[],0,N,g,.refl,gD,gK,.nil,rfl,fD.1,fK.1,K] ?step ?done)
 case step=>
  rintro j x s' hx ⟨H',ι',h',ks,kA,e,N',g',n',gD',gK',hk,hlj,hD',hK',K'⟩;simp only[ZbD]at hlj K' ⊢;have fD':=FpOk.at fD hD';have fK':=FpOk.at fK hK';obtain⟨xv,ex,rx⟩:=Jlh rv hx;obtain⟨yv,eyv,qy⟩:=(r3.mono n').get' ex;have hj:j<ys.length:=(Zs.mp eyv).1;have ed:ys.drop j=yv::ys.drop (j+1):=by rw[Zb4 hj,(Zs.mp eyv).2]
  rw[ed]at K';have K':Kont ce X RU pj ι' σi σ H' (((mk yv h').nx.bind λk h''=>match k with|.int n=>Q7 mk (ys.drop<|j+1) (ks++[n]) h''|_=>.stuck).bind<|X8 b ys) Q E:=K';rw[Res.bind_bind]at K';have hz:kA.size=j:=by rw[<-ZM,hk.length,hlj]
  have N2:=(N'.pinO gK' fK' λv z=>by cases z).pinO gD' (FpOk.more (p:=(kS,ZR "list" kA e)) fD'<|ZP hDK) λv z=>by cases z
  rw[Zae]at N2;refine Zc<|Zdf<|nof<|ko _ _ _ _ _ yv x _ N2 g' #[xv,rx,qy]<|Jq4 K' λk h3 u s3 H3 ι3 N3 n3 ru K3=>?_
  have pK:=N3.inv.pin (kS,ZR "list" kA e)<|Zq _<|Zq _ 03;have pD:=N3.inv.pin (D,ZR "list" #[] e1)<|Zq _<|Zq _ 03;have N4:=N3.pins;cases k with
  |int n=>
   obtain⟨v,rv',ev⟩:=ru;have ev:v=.int n:=ev;subst ev;obtain⟨t,rfl⟩:=rv';try dsimp only
   refine Zc (Zck pK.1 rfl ?_ (by rw[Zbi];lia) (ZC (ZcS<|Zfm ..)<|by rw[Zbi];lia));obtain⟨c2,hc2⟩:∃c2,(s3.heap.update kS (ZY (·.push (.int n t)))).get? kS=Za (ZR "list" (kA.push<|.int n t) c2):=#[_,Zbu pK.1 (·.push (.int n t))];have s1:∀b u,b≠kS->s3.heap.get? b=Za u->(s3.heap.update kS (ZY (·.push (.int n t)))).get? b=Za u:=λb u nb q=>(Z1 _ _<|ZP nb).trans q
   have N5:=N4.turned (h':=s3.heap.update kS (ZY (·.push (.int n t)))) (t':=s3.toks) (FpOk.at fK pK.2.1) s1;refine Zn #[rfl,H3,ι3,h3,ks++[n],kA.push<|.int n t,c2,N5,hG _ _ n3.ext g',n'.trans n3,s1 D _ hDK pD.1,hc2,by rw[Zey];exact ksk_snoc hk,by simp[hlj],pD.2.1,pK.2.1,K3]
  |_=>exact Zf K3
 case done=>
  rintro s' ⟨H',ι',h',ks,kA,e,N',g',n',gD',gK',hk,hlj,hD',hK',K'⟩;rw[ZbD]at hlj K';rw[List.drop_of_length_le 05]at K';try dsimp only
  refine Zc<|Zgd gK' rfl ?_;exact Jyz N' (FpOk.at fD hD') (FpOk.at fK hK') hDK gD' gK' hk 05 rv (r3.mono n') h64 hP K'
theorem Jy0{b:Bool}{kw:Wk}{B:ZH}{h2:Zaw}{tk:Nat}(hkw:∀a,Zb5.«list.sort» #[[.ref a],kw]=ksk_tree a (.ref fq) b)(hak:∀a,Zfa "list.sort" #[[a],kw])(ko:XR ce X B.in1 σi σ pj G (.ref fq) mk)(hG:∀H H',Ext H H'->G H->G H')(N:Now ce X pj ι σi h σ H s)(g:G H) (keep:∀b o,s.heap.get? b=Za o->h2.get? b=Za o)(le0:s.heap.objs.size<=h2.objs.size)(rv2:Vals ws its)(r3:RVs X.K ι H ys ws)(h64:ys.length<64)(hP:∀D s',Q (.ref D) s'->P (.done<|.ret<|.ref D) s') (K:Kont ce X RU pj ι σi σ H ((Q7 mk ys [] h).bind<|X8 b ys) Q E):Zt (Zz X.prog X.w) B (do let l<-newList its;let _<-Zce [l] (call (.builtin "list.sort") [l] kw);ret l) P E {s with heap:=h2,toks:=tk}:=by
 have l1:=r3.length;have l2:=rv2.length;refine Zc (Zcj ?_<|by rw[Zbi];lia);have hoL:(h2.push<|ZR "list" its.toArray 0).get? h2.objs.size=Za (ZR "list" its.toArray 0):=Zv _ rfl;have keep3:∀b o,s.heap.get? b=Za o->(h2.push<|ZR "list" its.toArray 0).get? b=Za o:=λb o q=>Ze _<|keep b o q
 have sz3:(h2.push<|ZR "list" its.toArray 0).objs.size=h2.objs.size+1:=ZdG ..;show Zt _ _ _ _ _ {s with heap:=h2.push<|ZR "list" its.toArray 0,toks:=tk};generalize h2.push (ZR "list" its.toArray 0)=h3 at hoL keep3 sz3;refine Zc<|ZT<|wpAny_call_entry_kw slot_list_sort #[_,hoL,rfl] entry_list_sort ?body<|hak _;case body=>
  show Zt (Zz X.prog X.w) B.in1 (Zb5.«list.sort» #[[.ref h2.objs.size],kw]) _ _ _;rw[hkw];unfold ksk_tree;refine Zc<|Zgd hoL rfl ?_;refine Zc (Zck hoL rfl ?_ (by rw[Zx,Zbi];lia) (ZA _));obtain⟨ep,ho1⟩:∃ep,(h3.update h2.objs.size<|ZY λ_=>(#[]:Tj)).get? h2.objs.size=Za (ZR "list" #[] ep):=#[_,Zbu hoL λ_=>#[]];refine Zc<|Zf6 ho1 rfl ?_;refine Zc (Zf7 ?_ (by show its.length<=_;rw[Zbi];lia));refine Zc<|Zcj ?_<|ZA _;refine ZT ?_;have sz5:((h3.update h2.objs.size<|ZY λ_=>(#[]:Tj)).push<|ZR "tuple" its.toArray 0).objs.size=h2.objs.size+2:=by rw[ZdG,Heap.size_update,sz3]
  obtain⟨kS,hkS⟩:∃kS,kS=((h3.update h2.objs.size<|ZY λ_=>(#[]:Tj)).push<|ZR "tuple" its.toArray 0).objs.size:=#[_,rfl];have gK:(((h3.update h2.objs.size<|ZY λ_=>(#[]:Tj)).push<|ZR "tuple" its.toArray 0).push<|ZR "list" #[] 0).get? kS=Za (ZR "list" #[] 0):=by rw[hkS];exact Zv _ rfl
  have gD:(((h3.update h2.objs.size<|ZY λ_=>(#[]:Tj)).push<|ZR "tuple" its.toArray 0).push<|ZR "list" #[] 0).get? h2.objs.size=Za (ZR "list" #[] ep):=Ze _<|Ze _ ho1;have old:∀b o,s.heap.get? b=Za o->(((h3.update h2.objs.size<|ZY λ_=>(#[]:Tj)).push<|ZR "tuple" its.toArray 0).push<|ZR "list" #[] 0).get? b=Za o:=λb o q=>Ze _<|Ze _<|(Z1 _ _<|ZaN<|Z4 (Z0 q) le0).trans<|keep3 b o q
  rw[<-hkS];rw[sz5]at hkS;have fD:FpOk X pj H h2.objs.size:=N.inv.fpOk le0<|N.inv.hok.fresh le0;have le:s.heap.objs.size<=kS:=by rw[hkS];exact ZC le0<|Zas _ _
  have fK:FpOk X pj H kS:=N.inv.fpOk le<|N.inv.hok.fresh le;exact Ju6 ko hG (N.keptH (t':=tk) old) g fD fK (by rw[hkS];exact Z5<|Nat.lt_add_of_pos_right 01) gD gK rv2 r3 h64 (λs' q=>#[_,rfl,Zn<|hP _ _ q]) K
end
end
end L3
namespace L3
open PySem PySem.Spec PyProof.Rows L2
abbrev RisA(xs:Tf):Prop:=xs.toList.Pairwise (· < ·)
section
variable{xs:Tf}{j:Nat}
theorem RisA.get(r:RisA xs)(h:i<k)(hk:k<xs.size):xs.getD i 0<xs.getD k 0:=by have:=Zbe.mp r i k (by simp;lia) (by simpa using hk) h;simpa[Zdp,hk,ZbQ h hk]using this
theorem RisA.le(r:RisA xs)(h:i<=k)(hk:k<xs.size):xs.getD i 0<=xs.getD k 0:=by
 rcases Nat.eq_or_lt_of_le h with e|e
 ·rw[e];exact Zm _
 ·exact Zaa<|r.get e hk
theorem Jhn(r:RisA xs):∀(f lo hi:Nat),lo<=hi->hi<=xs.size->hi-lo<=f->(∀i,i<lo->xs.getD i 0<j)->(∀i,hi<=i->i<xs.size->j<=xs.getD i 0)->∀x,SetTable.below.go xs j f lo hi=x->x<=xs.size/\(∀i,i<x->xs.getD i 0<j)/\∀i,x<=i->i<xs.size->j<=xs.getD i 0
 |0,lo,hi,h1,h2,h3,a,b,x,e=>by obtain rfl:lo=hi:=05;subst e;exact#[h2,a,b]
 |f+1,lo,hi,h1,h2,h3,a,b,x,e=>by
  unfold SetTable.below.go at e;split at e
  ·rename_i hl;have hm:(lo+hi)/2<xs.size:=05;have gd:xs.getD ((lo+hi)/2) j=xs.getD ((lo+hi)/2) 0:=by simp[Zdp,hm]
   dsimp only at e;rw[gd]at e;by_cases c:xs.getD ((lo+hi)/2) 0<j
   ·rw[if_pos c]at e;exact Jhn r f _ _ 05 h2 05 (λi hi'=>Zah (r.le (show i<=(lo+hi)/2 by lia) hm) c) b x e
   ·rw[if_neg c]at e;exact Jhn r f _ _ 05 05 05 a (λi hi' hs=>ZC (ZcW c)<|r.le hi' hs) x e
  ·obtain rfl:lo=hi:=05;subst e;exact#[h2,a,b]
theorem Jho(r:RisA xs)(j:Nat):Za6 xs j<=xs.size/\(∀i,i<Za6 xs j->xs.getD i 0<j)/\∀i,Za6 xs j<=i->i<xs.size->j<=xs.getD i 0:=
 Jhn r xs.size 0 xs.size (ZA _) (Zm _) 05 (λi h=>05) (λi h1 h2=>05) _ rfl
def Ys(xs:Tf):Nat->Nat|0=>0|i+1=>xs.getD i 0+1
theorem Jgu(r:RisA xs):∀{i:Nat},i<=xs.size->Za6 xs (Ys xs i)=i
 |0,_=>by
  obtain⟨h1,h2,h3⟩:=Jho r 0;rcases Zdo (Za6 xs 0)with e|e
  ·exact e
  ·have:=h2 0 e;lia
 |i+1,hi=>by
  obtain⟨h1,h2,h3⟩:=Jho r<|xs.getD i 0+1;show Za6 xs (xs.getD i 0+1)=i+1;generalize Za6 xs (xs.getD i 0+1)=x at h1 h2 h3;rcases Nat.lt_trichotomy x (i+1)with e|e|e
  ·have:=h3 i 05 05;lia
  ·exact e
  ·have a:=h2 (i+1) e;have b:=r.get (show i<i+1 by lia) (show i+1<xs.size by lia);lia
theorem RisA.insert(r:RisA xs)(hj:xs[Za6 xs j]?≠Za j):RisA (SetTable.insertAt xs (Za6 xs j) j):=by
 obtain⟨h1,h2,h3⟩:=Jho r j;generalize Za6 xs j=p at h1 h2 h3 hj;unfold RisA;rw[SetTable.toList_insertAt,ZaU];have lo:∀a∈xs.toList.take p,a<j:=λa ha=>by
  obtain⟨i,hi,rfl⟩:=Za5.mp ha;have hi':i<p/\i<xs.size:=by
   have:i<min p xs.size:=by simpa using hi
   lia
  have:=h2 i hi'.1;simpa[Zdp,hi'.2]using this
 have hi:∀a∈xs.toList.drop p,j<a:=λa ha=>by
  obtain⟨i,hi,rfl⟩:=Za5.mp ha;have hi':p+i<xs.size:=by
   have:i<xs.size-p:=by simpa using hi
   lia
  have ge:=h3 (p+i) 05 hi';have pz:p<xs.size:=05;have np:j≠xs.getD p 0:=λe=>hj<|by rw[Zbd pz];simp[Zdp,pz]at e;rw[e]
  have gp:=h3 p (Zm _) pz;have pi:=r.le (show p<=p+i by lia) hi';have:j<xs.getD (p+i) 0:=05;simpa[Zdp,hi']using this
 exact#[Zft (List.take_sublist _ _) r,ZaV.mpr #[hi,Zft (List.drop_sublist _ _) r],λa ha b hb=>by
  rcases ZB.mp hb with rfl|hb
  ·exact lo a ha
  ·exact ZbQ (lo a ha)<|hi b hb]
end
structure Tb(led:Bool)(t:SetTable):Prop where
 r:RisA t.place
 d:t.dummies=#[]
 l:t.led=led
section
variable{t:SetTable}{led:Bool}
theorem Tb.standIn(b:Tb led t)(n:Nat):Tb led (t.standIn n):=#[by show(Array.range n).toList.Pairwise _;rw[Array.toList_range];exact Zfe,rfl,b.l]
theorem Tb.orStandIn(b:Tb led t)(n:Nat):Tb led (t.orStandIn n):=by
 unfold SetTable.orStandIn;split
 ·exact b
 ·exact b.standIn n
theorem Jp6(j:Nat):Zge #[] j=Zj:=by unfold Zge;simp
theorem Jmb(d:t.dummies=#[]):∀(n:Nat)(p:SetTable.Probe),p.dummy=Zd->∀j dm,SetTable.probe.go t f h n p=Za (.empty j dm)->dm=Zd/\t.place[Za6 t.place j]?≠Za j
 |0,p,_,j,dm,e=>by cases e
 |n+1,p,hp,j,dm,e=>by
  have adv:(t.advance p).dummy=Zd:=by
   unfold SetTable.advance;split
   ·exact hp
   ·exact hp
  unfold SetTable.probe.go at e;unfold SetTable.slot at e;dsimp only at e;by_cases c:(t.place[Za6 t.place p.j]?==Za p.j)=Zh
  ·rw[if_pos c]at e;dsimp only at e;split at e
   ·cases e
   ·exact Jmb d n _ adv j dm e
  ·rw[if_neg c,d,Jp6]at e;simp only[Zad,if_false,ZaQ,SetTable.Met.empty.injEq]at e;obtain⟨rfl,rfl⟩:=e;exact#[hp,λz=>c<|beq_iff_eq.mpr z]
theorem Tb.free(b:Tb led t)(e:t.freeSlot h=Za (sl,wd)):t.place[Za6 t.place sl]?≠Za sl:=by
 unfold SetTable.freeSlot at e;split at e
 ·rename_i j dm ep;obtain⟨rfl,q⟩:=Jmb b.d _ _ rfl j dm ep;simp only[ZaQ,Ze6]at e;rw[<-e.1];exact q
 ·cases e
theorem Tb.layNew(b:Tb led t)(es:Wj)(h:Int)(x:Zg):Tb led (layNew t es h x).2.1:=by
 unfold PySem.layNew;split
 ·rename_i sl wd e;refine Tb.orStandIn ?_ _;refine#[b.r.insert<|b.free e,?_,b.l];show(if Zge t.dummies sl then _ else t.dummies)=#[];rw[b.d,Jp6];rfl
 ·exact b.standIn _
theorem Tb.laid(e:SetTable.laid mask fi mo led pl hs=Za (t',o)):Tb led t':=by unfold SetTable.laid at e;cases q:SetTable.layClean mask hs with|none=>rw[q]at e;cases e|some ow=>rw[q]at e;have e:Za _=Za (t',o):=e;simp only[ZaQ,Ze6]at e;obtain⟨rfl,_⟩:=e;refine#[?_,rfl,rfl];show(List.map _ _).Pairwise _;rw[List.pairwise_map];refine List.Pairwise.filterMap _ (λa a' hlt b hb b' hb'=>?_) Zfe;obtain⟨_,_,rfl⟩:=Z8.mp hb;obtain⟨_,_,rfl⟩:=Z8.mp hb';exact hlt
theorem Tb.relayAll(b:Tb led t)(es:Wj)(w:Nat):Tb led (Zgf t es w).2.1:=by
 unfold PySem.relayAll;split
 ·rename_i t' o e;dsimp only;split
  ·unfold SetTable.relaid at e;rw[b.l]at e;exact Tb.laid e
  ·exact b.standIn _
 ·exact b.standIn _
end
theorem Jeb{α:Type}:∀{l:List α}{i:Nat}{x:α},l[i]?=Za x->(x::l.eraseIdx i).Perm l|[],i,x,e=>by simp at e|a::l,0,x,e=>by simp only[Zct,ZaQ]at e;subst e;exact ZcM _|a::l,i+1,x,e=>by simp only[Zcs]at e;exact(List.Perm.swap a x _).trans<|(Jeb e).cons a
theorem Jq8:∀(f k:Nat)(l:List α)(out:Array α),l.length<=f->(Zgg nx f k l out).toList.Perm (out.toList++l)
 |0,k,l,out,h=>by obtain rfl:l=[]:=ZaF 05;unfold Zgg;simp
 |f+1,k,l,out,h=>by
  unfold Zgg;cases e:l[nx k%l.length]? with
  |none=>
   have:l=[]:=by
    cases l with
    |nil=>rfl
    |cons a l=>have:nx k%(a::l).length<(a::l).length:=Nat.mod_lt _ 03;rw[Zb this]at e;cases e
   subst this;simp
  |some x=>dsimp only;have hl:=(Zs.mp e).1;refine(Jq8 f (k+1) _ _<|by rw[Zer hl];lia).trans ?_;rw[Zey,Zae];exact(Jeb e).append_left _
theorem Jq9(nx:Nat->Nat)(xs:Array α):(ZfL nx xs).toList.Perm xs.toList:=by have:=Jq8 (nx:=nx) xs.size 0 xs.toList #[] 03;unfold ZfL;simpa using this
abbrev byT(wd:ZV):Bool:=wd.params.followText "set-order"
abbrev ents(es:Wj):Tp:=es.toList.map λe=>numOf e.2
def AllI(es:Wo):Prop:=∀e∈es,∃n t,e=(ZfD n,ZcC n t)
def SetI(wd:ZV)(h:Zaw)(a:Zo)(ns:Tp):Prop:=∃o es ep t,h.get? a=Za o/\o.ExactSet/\o.data=.set es ep t/\AllI es.toList/\ents es=ns/\es.size<ZbJ/\t.fits es.size=Zh/\Tb (!byT wd) t
theorem SetI.moved{hp h2:Zaw}(q:SetI wd hp a ns)(m:∀o,hp.get? a=Za o->h2.get? a=Za o):SetI wd h2 a ns:=by obtain⟨o,es,ep,t,ho,rest⟩:=q;exact#[o,es,ep,t,m o ho,rest]
theorem AllI.perm{l l':Wo}(h:AllI l)(p:l'.Perm l):AllI l':=λe he=>h e<|p.mem_iff.mp he
theorem AllI.elems(h:AllI l):ElemsOf (Zcl pr wd) l:=λe he=>by obtain⟨n,t,rfl⟩:=h e he;exact#[#[n,ZfR _ _ _ _,rfl],rfl]
section
variable{pr:ZD}{wd:ZV}{A:ZH}{E:QvT}{s:Zk}{a:Zo}
theorem Jrc{h:Zaw}(ho:h.get? a=Za o)(hd:o.data=.set es ep t):(h.update a<|Obj.putSet es' t').get? a=Za {o with data:=.set es' (ep+1) t'}:=by
 have:=Zat (Obj.putSet es' t') ho<|by rw[putSet_of es' t' hd];rfl
 rwa [putSet_of es' t' hd]at this
theorem Jl3{b:Bool}{s1:Zk}{Q:Unit->Zk->Prop}(h:Q () s1):Zt (Zz pr wd) A (match b with|true=>rule "set.scan.the-table-gave-way"|false=>pure ()) Q E s1:=by cases b<;>first|exact Zn h|exact Zb9 h
theorem Jun{n:Int}{tk:Tok}{Q:Bool->Zk->Prop}(hS:SetI wd s.heap a ns)(room:ns.length+1<ZbJ)
  (h:∀b h' ns',ZbB a s.heap h'->SetI wd h' a ns'->ns'.Perm (if n∈ns then ns else ns++[n])->Q b {s with heap:=h'}):Zt (Zz pr wd) A (setAddHashed a (.int n tk)<|ZfD n) Q E s:=by
 obtain⟨o,es,ep,t,ho,hex,hd,ai,en,hb,hf,tb⟩:=hS;have hel:ElemsOf (Zcl pr wd) es.toList:=ai.elems;have hkey:(Zcl pr wd).is n (.int n tk)=Zh:=ZfR _ _ _ _;have lz:es.size=ns.length:=by rw[<-en,Zr,ZM]
 unfold setAddHashed setAddHashedIn;refine ZT<|Zc<|Zch ho hd hf ?_;dsimp only;rw[byScan_of (knd:=Zcl pr wd) rfl hb hel];simp only[↓reduceIte];unfold setAddByScan;refine Zc ?_;refine Zc<|Zb9 ?_;refine Zc<|wpAny_setScan_of (knd:=Zcl pr wd) hkey ho hd hf hel ?_;cases hr:List.findIdx? (λe=>(Zcl pr wd).is n e.2) es.toList with
 |some j=>
  dsimp only;obtain⟨hj,hpj,_⟩:=Zd0.mp hr;have mem:n∈ns:=by rw[<-en];refine Zaj.mpr #[es.toList[j],ZF hj,?_];obtain⟨m,t',e⟩:=ai _<|ZF hj;rw[e]at hpj ⊢;exact(Zcl pr wd).inj _ _ _ (ZfR _ _ _ _) hpj
  refine Zn<|Zn ?_;have e:s={s with heap:=s.heap}:=by cases s;rfl
  rw[e];exact h _ s.heap ns (Heap.SameBut.refl a s.heap) #[o,es,ep,t,ho,hex,hd,ai,en,hb,hf,tb]<|by rw[if_pos mem]
 |none=>
  dsimp only;have nmem:n∉ns:=λm=>by rw[<-en]at m;obtain⟨e,he,q⟩:=Zaj.mp m;obtain⟨m',t',rfl⟩:=ai e he;have q:m'=n:=q;subst q;have:=Zev.mp hr _ he;rw[show(Zcl pr wd).is m' (.int m' t')=Zh from ZfR _ _ _ _]at this;cases this
  have hperm:=layNew_perm t es (ZfD n)<|.int n tk;have hfits:=layNew_fits t es (ZfD n)<|.int n tk;have tb1:=tb.layNew es (ZfD n)<|.int n tk;generalize layNew t es (ZfD n) (.int n tk)=L at hperm hfits tb1 ⊢;obtain⟨es1,t1,wasDummy,gave⟩:=L;dsimp only at hperm hfits tb1 ⊢;rw[Zey]at hperm;have ai1:AllI es1.toList:=AllI.perm (λe he=>by
   rcases ZK.mp he with he|he
   ·exact ai e he
   ·rw[Z9.mp he];exact#[n,tk,rfl]) hperm
  have en1:(ents es1).Perm (ns++[n]):=by
   have:=hperm.map λe=>numOf e.2
   rw[ZbN]at this;rwa [show es.toList.map (λe=>numOf e.2)=ns from en]at this
  have sz1:es1.size=es.size+1:=by rw[<-ZM,hperm.length_eq,Z7,ZM];rfl
  have hb1:es1.size<ZbJ:=05;have fin:∀h' ns',ZbB a s.heap h'->SetI wd h' a ns'->ns'.Perm (ents es1)->Q Zh {s with heap:=h'}:=λh' ns' sb q p=>h Zh h' ns' sb q<|by rw[if_neg nmem];exact p.trans en1
  refine Zc<|Jl3 ?_;have tail:∀{R:Wu->Zk->Prop},(∀h' ns',ZbB a s.heap h'->SetI wd h' a ns'->ns'.Perm (ents es1)->R (Za Zh) {s with heap:=h'})->Zt (Zz pr wd) A (do
    storeSet a es1 t1
    if (!wasDummy&&t1.tooFull)=Zh then do
      (match (Zgf t1 es1<|Zcu es1.size).2.2 with|true=>rule "set.scan.the-table-gave-way"|false=>pure ())
      storeSet a (Zgf t1 es1<|Zcu es1.size).1 (Zgf t1 es1<|Zcu es1.size).2.1
      pure (Za Zh)
     else pure (Za Zh)) R E s:=λ{R} hR=>by
   refine Zc<|wpAny_storeSet_of ho hd ?_<|Zez hb1;have ho1:=Jrc (es':=es1) (t':=t1) ho hd;have sb1:=Zbh s.heap a<|Obj.putSet es1 t1;split
   ·have hp:=relayAll_perm t1 es1<|Zcu es1.size;have hfr:=relayAll_fits t1 es1<|Zcu es1.size;have tb2:=tb1.relayAll es1<|Zcu es1.size;generalize Zgf t1 es1 (Zcu es1.size)=Rl at hp hfr tb2 ⊢;obtain⟨es2,t3,gave2⟩:=Rl;dsimp only at hp hfr tb2 ⊢;have sz2:es2.size=es1.size:=by rw[<-ZM,hp.length_eq,ZM]
    refine Zc<|Jl3 ?_;refine Zc<|wpAny_storeSet_of ho1 rfl ?_ (Zez 05);exact Zn<|hR _ _ (sb1.trans<|Zbh _ a _) #[_,es2,ep+1+1,t3,Jrc ho1 rfl,hex,rfl,ai1.perm hp,rfl,05,hfr,tb2]<|hp.map _
   ·exact Zn<|hR _ _ sb1 #[_,es1,ep+1,t1,ho1,hex,rfl,ai1,rfl,hb1,hfits,tb1]<|ZcM _
  split
  ·refine Zc ?_;rw[hashByValue_scannable 8 (x:=.int n tk) rfl];refine Zn ?_;exact tail λh' ns' sb q p=>by dsimp only;exact Zn<|fin h' ns' sb q p
  ·refine Zc<|Zn ?_;simp only[↓reduceIte];exact tail λh' ns' sb q p=>by dsimp only;exact Zn<|fin h' ns' sb q p
end
def ddN(f:Nat->Int):Nat->Tp|0=>[]|i+1=>if f i∈ddN f i then ddN f i else ddN f i++[f i]
theorem Jpc(f:Nat->Int):∀i,(ddN f i).length<=i
 |0=>Zm _
 |i+1=>by
  have:=Jpc f i;unfold ddN;split
  ·lia
  ·rw[Z7,Zbn];lia
theorem Jsy{ms:Tp}(p:ms.Perm<|ddN f i):(if f i∈ms then ms else ms++[f i]).Perm (ddN f<|i+1):=by
 unfold ddN;by_cases c:f i∈ms
 ·rw[if_pos c,if_pos<|p.mem_iff.mp c];exact p
 ·rw[if_neg c,if_neg λz=>c<|p.mem_iff.mpr z];exact p.append_right _
theorem Jpd(f:Nat->Int)(x:Int):∀i,x∈ddN f i↔∃j,j<i/\x=f j
 |0=>by simp[ddN]
 |i+1=>by
  have ih:=Jpd f x i;unfold ddN;constructor
  ·intro h;split at h
   ·obtain⟨j,hj,e⟩:=ih.mp h;exact#[j,05,e]
   ·rcases ZK.mp h with h|h
    ·obtain⟨j,hj,e⟩:=ih.mp h;exact#[j,05,e]
    ·exact#[i,05,Z9.mp h]
  ·rintro⟨j,hj,rfl⟩;by_cases e:j=i
   ·subst e;split
    ·assumption
    ·exact Zq _<|Z9.mpr rfl
   ·have:=ih.mpr #[j,05,rfl];split
    ·exact this
    ·exact ZW _ this
abbrev Q6(zs:Tp):Nat->Int:=λi=>zs.getD i 0
def SetD(wd:ZV)(h:Zaw)(a:Zo)(f:Nat->Int)(i:Nat):Prop:=∃ms,SetI wd h a ms/\ms.Perm (ddN f i)
theorem SetD.moved{hp h2:Zaw}(q:SetD wd hp a f i)(m:∀o,hp.get? a=Za o->h2.get? a=Za o):SetD wd h2 a f i:=by obtain⟨ms,h,p⟩:=q;exact#[ms,h.moved m,p]
section
variable{pr:ZD}{wd:ZV}{B:ZH}{R:ZeV->Zk->Prop}{it:Zo}{fps wrs:Tw}{G:Ta->Ta->Prop}{n:Nat}{P:Nat->Zg->Prop}{St:Nat->Zk->Prop}
theorem Jro(W:WalksS pr wd B.in1 it fps wrs G n P St)(C:Zo)(hC:C∉fps)(f:Nat->Int)(hf:∀i v,P i v->∃t,v=.int (f i) t)(room:n+1<ZbJ):∀(r i:Nat)(z:Zk),n-i=r->i<=n->St i z->SetD wd z.heap C f i->(∀z2,Moved (C::wrs) G z z2->SetD wd z2.heap C f n->R (.ok<|.ret .none) z2) ->ZcR (Zz pr wd) B (.builtin "set.update.loop" #[[.ref C,.ref it],[]]) R z:=by
 have nw:C∉wrs:=λq=>hC<|W.sub _ q
 have more:∀b∈wrs,b∈C::wrs:=λb q=>Zl _ q
 intro r;induction r with
 |zero=>
  intro i z hr hi st hS fin;obtain rfl:i=n:=05;refine Zaq Zbg ?_;rw[Zaf Zax _];show Zt _ B.in1 (ZbP (.ref it)>>=_) _ _ z;refine Zc<|W.done z _ _ st λz2 mv=>?_
  show Zt _ B.in1 (ret Zac) _ _ z2;exact Zn<|fin z2 (mv.mono more)<|hS.moved λo e=>mv.heap C _ nw e
 |succ r ih=>
  intro i z hr hi st hS fin;have lt:i<n:=05;refine Zaq Zbg ?_;rw[Zaf Zax _];show Zt _ B.in1 (ZbP (.ref it)>>=_) _ _ z;refine Zc<|W.item i z _ _ lt st λv z2 hP st2 mv=>?_
  obtain⟨t,rfl⟩:=hf i v hP;have hS2:SetD wd z2.heap C f i:=hS.moved λo e=>mv.heap C _ nw e
  show Zt _ B.in1 (Zce [ZcC (f i) t] (setAdd C<|.int (f i) t)>>=_) _ _ z2;refine Zc<|ZT ?_;unfold setAdd;refine ZT ?_;refine Zc<|wpAny_pyHash_int ?_;obtain⟨ms,hm,pm⟩:=hS2;have lm:ms.length<=i:=by rw[pm.length_eq];exact Jpc f i
  refine Jun (s:={z2 with toks:=z2.toks+1}) hm 05 λ_ h3 ms' sb hm' pm'=>?_
  have hS4:SetD wd h3 C f (i+1):=#[ms',hm',pm'.trans<|Jsy pm];refine Zn #[ZaM Zax _,ih (i+1) _ 05 lt (W.frame _ z2 _ _ st2 (ZaR _) λb q o e=>?_) hS4 λz5 m5 hS5=>?_]
  ·rw[sb.2 b λe2:b=C=>hC<|by rw[<-e2];exact q];exact e
  ·refine fin z5 (Moved.trans W.gtrans ((mv.mono more).then_heap (ZaR _) λb o q e=>?_) m5) hS5;rw[sb.2 b λe2:b=C=>q<|by rw[e2];exact Z2];exact e
end
section
variable{pr:ZD}{wd:ZV}{A B:ZH}{E:QvT}{s z:Zk}{l:Zo}{us:Tv}{zs:Tp}{Q:QvT}
theorem Juq(a:Zg)(h:Q₁ (.ref s.heap.objs.size) {s with heap:=s.heap.push (JI (!byT wd))}):ZcR (Zz pr wd) A (.call (.builtin "set.__new__") #[[.type "set",a],[]]) (wants Q₁ E) s:=by
 refine Zfl ?_;show Zt _ A.in1 (do checkBuiltinCall "set.__new__" #[[.type "set",a],[]];Zgc (.builtin "set.__new__" #[[.type "set",a],[]])) _ _ s;refine Zc<|Zf4 (PySem.F.newCall_set_1 a)<|Zn #[ZaM Zfu _,Zaq PySem.F.entry_set_new ?_];rw[Zaf Zfu _];unfold Zb5.«set.__new__» Builtin.Frozenset.newClass;have hsub:=PySem.sub_set_self;obtain⟨hp,g,d,tk,os⟩:=s;dsimp only
 wp_walk
 refine Zcv<|Zn ?_;dsimp only;simp only[newObj];refine Zc<|wpAny_alloc<|Zn ?_;exact Zn h
set_option maxRecDepth 100000 in
theorem Jrn(hh:B.handled=Zd)(hl:z.heap.IsList l us.toArray)(hi:Zbs us zs)(room:zs.length+1<ZbJ)
  (fin:∀(h2:Zaw)(tk:Nat),SetD wd h2 z.heap.objs.size (Q6 zs) zs.length->(∀b o,z.heap.get? b=Za o->h2.get? b=Za o)->Q (.ref z.heap.objs.size) {z with heap:=h2,toks:=tk}):
  Zt (Zz pr wd) B (call (.type "set") [.ref l]) Q E z:=by
 have len:us.toArray.size=zs.length:=by rw[Zx,hi.length]
 have vals:∀(i:Nat)(v:Zg),us.toArray[i]?=Za v->∃t,v=.int (Q6 zs i) t:=λi v q=>by
  have q:us[i]?=Za v:=by simpa using q
  have hz:i<zs.length:=by have:=(Zs.mp q).1;have:=hi.length;lia
  obtain⟨t,e⟩:=hi.get i _<|Zb hz;rw[q]at e;cases e;exact#[t,by simp[Q6,hz]]
 obtain⟨c,tl,hmro⟩:=PySem.F.called_set.mro;have hmade:=PySem.F.called_set.made;have hsub:=PySem.F.called_set.sub;refine ZeY<|Zfl ?_;show Zt _ _ (callAny (.type "set") _) _ _ _;refine Zn #[Code.quiet_builtin _ (by decide +kernel),Zaq ZeN ?_];rw[Around.under_plain (Zfs "set" [.ref l] []) rfl];have no1:=PySem.F.called_set.notType;have no2:=PySem.F.called_set.canCreate;have ok1:=Zfb<|.ref l;repeat (any_goals (first|assumption|wp_step))
 refine Zc3 (Juq (.ref l) (E:=E) (Q₁:=λobj z1=>obj=.ref z.heap.objs.size/\z1={z with heap:=z.heap.push (JI (!byT wd))}) #[rfl,rfl]) λres z1 hr=>?_
 cases res with|error e=>exact hr|ok fl=>
  cases fl with
  |ret obj=>
   obtain⟨rfl,rfl⟩:=hr;have gS:(z.heap.push<|JI (!byT wd)).get? z.heap.objs.size=Za (JI (!byT wd)):=Zv _ rfl;have tS:Ze7 {z with heap:=z.heap.push (JI (!byT wd))} (.ref z.heap.objs.size) "set":=#[_,gS,rfl];have in1:=PySem.F.called_set.init.lookup;have in2:=PySem.F.called_set.init.bind<|.ref z.heap.objs.size;repeat (any_goals (first|assumption|wp_step))
   refine Zc3 (codeAny_call_builtin (R:=wants (λres z2=>res=.none/\∃h2 tk,z2={z with heap:=h2,toks:=tk}/\SetD wd h2 z.heap.objs.size (Q6 zs) zs.length/\(∀b o,z.heap.get? b=Za o->h2.get? b=Za o)) E)
    PySem.F.called_set.init.plain Zfc (check_set_init_1 tS ?_)) λres2 z2 hr2=>?_
   ·obtain⟨ol,hol,hcl,nl,hdl⟩:=hl;obtain⟨ocls,odict,odata,oslots⟩:=ol;simp only at hcl hdl;subst hcl;subst hdl;have gl:(z.heap.push<|JI (!byT wd)).get? l=Za {cls:=.type "list",dict:=odict,data:=.seq us.toArray nl,slots:=oslots}:=Ze _ hol;have sb1:=PySem.F.sub_list_set;have sb2:=Zep;have dne:(Zej "list"==Zej "dict")=Zj:=01;have hl1:(z.heap.push<|JI (!byT wd)).IsList l us.toArray:=#[_,gl,rfl,nl,rfl];unfold Zb5.«set.__init__» noKeywords ZdT;generalize hPI:Zel=PI
    wp_walk
    subst hPI;refine Zbk hl1 ?_;refine Zc<|Zeq ?_;have lS:l<z.heap.objs.size:=Z0 hol;have h3:B.in1.in1.in1.handled=Zd:=by simp[hh]
    have neI:l≠(z.heap.push<|JI (!byT wd)).objs.size:=by rw[ZbV];exact Z5<|Zb1 lS
    have nC:z.heap.objs.size∉[(z.heap.push<|JI (!byT wd)).objs.size,l]:=by rw[ZbV];simp only[ZB,Zai,or_false,not_or];exact#[Z5<|Za4 _,ZaN lS]
    refine Jro ((Zdn h3 _ l neI us.toArray).toS) z.heap.objs.size nC (Q6 zs) vals (by rw[len];exact room) (us.toArray.size-0) 0 _ 05 (ZA _) #[#[_,Zv _ rfl,rfl,rfl],(hl1.push _)] ?start ?stop;case start=>have g0:((z.heap.push<|JI (!byT wd)).push<|liOb l).get? z.heap.objs.size=Za (JI (!byT wd)):=Ze _ gS;exact#[[],#[_,#[],0,_,g0,#[rfl,rfl,rfl],rfl,(λe he=>by simp at he),rfl,01,rfl,#[.nil,rfl,rfl]],ZcM _]
    case stop=>
     intro z5 mv hS5;obtain⟨h5,g5,d5,tk5,os5⟩:=z5;have eg:g5=z.gens:=mv.gens;have ed:d5=z.drawn:=mv.drawn;have eo:os5=z.os:=mv.os;subst eg;subst ed;subst eo;show Zt _ _ _ _ _ _;refine Zn ?_;show Zt _ _ (ret Zac) _ _ _;rw[len]at hS5;refine Zn #[rfl,h5,tk5,rfl,hS5,λb o e=>?_];have lb:=Z0 e;have b1:b≠z.heap.objs.size:=Z5 lb;have b2:b≠(z.heap.push<|JI (!byT wd)).objs.size:=by rw[ZbV];exact Z5<|Zb1 lb
     exact mv.heap b o (by simp only[ZB,Zai,or_false,not_or];exact#[b1,b2])<|Ze _<|Ze _ e
   ·cases res2 with|error e=>exact hr2|ok fl2=>
     cases fl2 with
     |ret rv=>
      obtain⟨rfl,h2,tk,rfl,hS2,keep⟩:=hr2;repeat (any_goals (first|assumption|wp_step))
      exact fin _ _ hS2 keep
     |_=>exact hr2.elim
  |_=>exact hr.elim
end
theorem QK:Slot "set_iterator" "__next__" "set_iterator.__next__" :=.of (owner:="set_iterator") (n:="__next__") (by rw[Zfn,ZdC];kernel_rfl) (by decide +kernel) (by decide +kernel) (by decide +kernel) (by first|exact .inl (by decide +kernel)|exact .inr (by decide +kernel)) (by rw[isSubtype_type];kernel_rfl)
theorem Jmj:Slot "set_iterator" "__iter__" "set_iterator.__iter__" :=.of (owner:="set_iterator") (n:="__iter__") (by rw[Zfn,ZdC];kernel_rfl) (by decide +kernel) (by decide +kernel) (by decide +kernel) (by first|exact .inl (by decide +kernel)|exact .inr (by decide +kernel)) (by rw[isSubtype_type];kernel_rfl)
theorem Je5:entryFor table "set_iterator.__next__"=Za Zb5.«set_iterator.__next__» :=entryFor_of_fast 02
theorem Jhd(a:Zg):Zfa "set_iterator.__next__" #[[a],[]]:=by unfold Zfa;kernel_rfl
theorem Jps:entryFor table "set.__iter__"=Za Zb5.«frozenset.__iter__» :=entryFor_alias (id':="frozenset.__iter__") 02 rfl (by decide +kernel) 02
def IsSI(h:Zaw)(it:Zo)(F:Zg)(i:Nat)(a:Zo)(n ep:Nat):Prop:=∃o,h.get? it=Za o/\o.cls=.type "set_iterator"/\o.data=.fields (Zay [F,.int i 0,.ref a,.int n 0,.int ep 0])
theorem IsSI.ty{s:Zk}(x:IsSI s.heap it F i a n ep):s.TypeIs (.ref it) "set_iterator":=let ⟨o,ho,hc,_⟩:=x;#[o,ho,hc]
section
variable{pr:ZD}{wd:ZV}{A:ZH}{E:QvT}{s:Zk}{a it:Zo}{o:Obj}{es:Wj}{ep i n sl:Nat}{t:SetTable}
theorem Jkg(hb:byT wd=Zh)(ho:s.heap.get? a=Za o)(hd:o.data=.set es ep t)(hf:t.fits es.size=Zh){Q:Wg->Zk->Prop} (h:Q (((ZfL (wd.params.setOrder a ep) es)[i]?).map λe=>(e.2,sl)) s):Zt (Zz pr wd) A (Zeb a sl i ep) Q E s:=by unfold Zeb;refine Zc<|Zch ho hd hf ?_;unfold ZfS;refine Zc<|Zc<|Zcv<|Zn ?_;show Zt _ _ (if byT wd=Zh then _ else _) _ _ s;rw[if_pos hb];dsimp only;rw[if_neg 03];unfold setWalk ZfS;refine Zc<|Zc<|Zch ho hd hf ?_;refine Zc<|Zc<|Zcv<|Zn ?_;show Zt _ _ (if byT wd=Zh then _ else _) _ _ s;rw[if_pos hb];exact Zc<|Zcv<|Zn<|Zn h
theorem Jmy(hb:byT wd=Zj)(ho:s.heap.get? a=Za o)(hd:o.data=.set es ep t)(hf:t.fits es.size=Zh)(hp:(!t.plain&&decide (es.size>1))=Zj)(hl:t.led=Zh){Q:Wg->Zk->Prop} (h:Q (match es[Za6 t.place sl]?,t.place[Za6 t.place sl]? with|some (_,x),Za j=>Za (x,j+1)|_,_=>Zd) s):Zt (Zz pr wd) A (Zeb a sl i ep) Q E s:=by unfold Zeb;refine Zc<|Zch ho hd hf ?_;unfold ZfS;refine Zc<|Zc<|Zcv<|Zn ?_;show Zt _ _ (if byT wd=Zh then _ else _) _ _ s;rw[if_neg<|by rw[hb];exact Zw];show Zt _ _ (if (!t.plain&&decide (es.size>1))=Zh then _ else _) _ _ s;rw[if_neg<|by rw[hp];exact Zw];refine Zc<|show Zt _ _ (if (!t.led&&!es.isEmpty)=Zh then _ else _) _ _ s from ?_;rw[hl];simp only[Zdg,Bool.false_and,Zad,if_false];exact Zn<|Zn h
theorem Joj(ho:s.heap.get? a=Za o)(hd:o.data=.set es ep t)(hf:t.fits es.size=Zh)(hx:es[p]?=Za x)(h:Q x.2 s):Zt (Zz pr wd) A (setNextDrawn a p ep) Q E s:=by unfold setNextDrawn;refine Zc<|Zch ho hd hf ?_;dsimp only;rw[if_neg 03,hx];exact Zn h
theorem Jyv{x:Zg}{nx:Nat}{Q:Wz->Zk->Prop}(hit:IsSI s.heap it (.int sl 0) i a n ep)(ho:s.heap.get? a=Za o)(hd:o.data=.set es ep t)(hf:t.fits es.size=Zh)(hn:es.size=n) (hN:∀(Q':Wg->Zk->Prop)(E':QvT),Q' (Za (x,nx)) s->Zt (Zz pr wd) A.in1 (Zeb a sl i ep) Q' E' s) (hQ:∀h',IsSI h' it (.int nx 0) (i+1) a n ep->ZbB it s.heap h'->Q (Za x) {s with heap:=h'}):Zt (Zz pr wd) A (ZbP<|.ref it) Q E s:=by
 obtain⟨oi,hi,hc,hdi⟩:=id hit;unfold ZbP;refine Zc<|Zdf<|Zcw (name:=Zba "__next__") hit.ty QK<|ZbU QK hit.ty Je5 ?_<|Jhd _;unfold Zb5.«set_iterator.__next__»;refine Zc<|Zn ?_;refine Zc<|Zes hi hdi ?_;show Zt _ A.in1 (ZfT a>>=_) _ _ s;refine Zc<|Zco ho hd hf ?_;rw[if_neg<|by rw[hn];simp];show Zt _ A.in1 (Zeb a sl i ep>>=_) _ _ s;refine Zc<|hN _ _ ?_;show Zt _ A.in1 (Zgb (.ref it) 0 (ZaB nx)>>=_) _ _ s;refine Zc<|Zbp hi hdi 03 ?_;have h1:(s.heap.update it (Zau (·.setIfInBounds 0 (ZaB (nx:Int))))).get? it=Za (oi.mapFields (·.setIfInBounds 0 (ZaB (nx:Int)))):=Zat _ hi<|Zbo<|Zag hdi _;have d1:(oi.mapFields (·.setIfInBounds 0 (ZaB (nx:Int)))).data=.fields (Zay [.int nx 0,.int i 0,.ref a,.int n 0,.int ep 0]):=by rw[Zag hdi];simp[ZaB]
 refine Zc<|Zbp h1 d1 03 ?_;refine Zn #[_,rfl,Zn<|hQ _ #[_,Zat _ h1<|Zbo<|Zag d1 _,(Zd3 ..).trans<|(Zd3 ..).trans hc,?_]<|(Zbh ..).trans<|Zbh ..];rw[Zag d1];simp[ZaB]
theorem Jmo{α:Type}{Qf:α->Zk->Prop}(hh:A.handled=Zd)(e1:Zdv it s.heap h1)(hE:∀h' e,Zdv it s.heap h'->(∃o,h'.get? e=Za o/\o.cls=.type "StopIteration")->E' (.ref e) {s with heap:=h'}):Zt (Zz pr wd) A.in1 (newExc (.type "StopIteration") []>>=λe=>(raiseNew e:Sem α)) Qf E' {s with heap:=h1}:=by
 refine Zc ?_;simp only[newExc,newTuple];refine Zc (Zcf ?_<|by size_fits);refine Zc (m:=firstArgMember _ _) (Zf4 (a:=Zac) (by first|rfl|(simp only[firstArgMember];rfl)) ?_);refine Zcf ?_<|by size_fits
 simp only[raiseNew];refine Zc<|wpAny_handled ?_;rw[show A.in1.handled=Zd from hh];exact Zc<|Zn<|wpAny_throw<|hE _ _ ((e1.push _).push _) #[_,Zv _ rfl,rfl]
theorem J2t{Q:Wz->Zk->Prop}(hh:A.handled=Zd)(hit:IsSI s.heap it (.int sl 0) i a n ep)(ho:s.heap.get? a=Za o)(hd:o.data=.set es ep t)(hf:t.fits es.size=Zh)(hn:es.size=n) (hN:∀(Q':Wg->Zk->Prop)(E':QvT),Q' Zd s->Zt (Zz pr wd) A.in1 (Zeb a sl i ep) Q' E' s) (hQ:∀h',Zdv it s.heap h'->Q Zd {s with heap:=h'}):Zt (Zz pr wd) A (ZbP<|.ref it) Q E s:=by
 obtain⟨oi,hi,hc,hdi⟩:=id hit;unfold ZbP;refine Zc<|Zdf<|Zcw (name:=Zba "__next__") hit.ty QK<|ZbU QK hit.ty Je5 ?_<|Jhd _;unfold Zb5.«set_iterator.__next__»;refine Zc<|Zn ?_;refine Zc<|Zes hi hdi ?_;show Zt _ A.in1 (ZfT a>>=_) _ _ s;refine Zc<|Zco ho hd hf ?_;rw[if_neg<|by rw[hn];simp];show Zt _ A.in1 (Zeb a sl i ep>>=_) _ _ s;refine Zc<|hN _ _ ?_;show Zt _ A.in1 (Zgb (.ref it) 2 .none>>=_) _ _ s;refine Zc<|Zbp hi hdi 03 ?_;refine Jmo (it:=it) hh (Zbh ..).extBut λh' e x ⟨o',g',c'⟩=>?_
 exact Zc<|ZeP (T:="StopIteration") (b:=Zh) #[o',g',c'] isSubtype_stop<|Zn<|hQ _ x
theorem Jys{ot:Obj}{its:Tj}{nt p:Nat}{x:Int×Zg}{tk:Tok}{Q:Wz->Zk->Prop}(hit:IsSI s.heap it (.ref T) i a n ep)(ho:s.heap.get? a=Za o)(hd:o.data=.set es ep t)(hf:t.fits es.size=Zh)(hn:es.size=n) (hT:s.heap.get? T=Za ot)(dT:ot.data=.seq its nt)(hp:its[i]?=Za (.int p tk))(hx:es[p]?=Za x) (hQ:∀h',IsSI h' it (.ref T) (i+1) a n ep->ZbB it s.heap h'->Q (Za x.2) {s with heap:=h'}):Zt (Zz pr wd) A (ZbP<|.ref it) Q E s:=by obtain⟨oi,hi,hc,hdi⟩:=id hit;unfold ZbP;refine Zc<|Zdf<|Zcw (name:=Zba "__next__") hit.ty QK<|ZbU QK hit.ty Je5 ?_<|Jhd _;unfold Zb5.«set_iterator.__next__»;refine Zc<|Zn ?_;refine Zc<|Zes hi hdi ?_;show Zt _ A.in1 (ZfT a>>=_) _ _ s;refine Zc<|Zco ho hd hf ?_;rw[if_neg<|by rw[hn];simp];show Zt _ A.in1 (Zdy (.ref T)>>=_) _ _ s;refine Zc<|ZbW hT dT ?_;simp only[ZaO,hp];refine Zc<|Joj ho hd hf hx ?_;refine Zc<|Zbp hi hdi 03 ?_;refine Zn #[_,rfl,Zn<|hQ _ #[_,Zat _ hi<|Zbo<|Zag hdi _,(Zd3 ..).trans hc,?_]<|Zbh ..];rw[Zag hdi];simp[ZaB]
theorem J2r{ot:Obj}{its:Tj}{nt:Nat}{Q:Wz->Zk->Prop}(hh:A.handled=Zd)(hit:IsSI s.heap it (.ref T) i a n ep)(ho:s.heap.get? a=Za o)(hd:o.data=.set es ep t)(hf:t.fits es.size=Zh)(hn:es.size=n) (hT:s.heap.get? T=Za ot)(dT:ot.data=.seq its nt)(hp:its[i]?=Zd)(hQ:∀h',Zdv it s.heap h'->Q Zd {s with heap:=h'}):Zt (Zz pr wd) A (ZbP<|.ref it) Q E s:=by
 obtain⟨oi,hi,hc,hdi⟩:=id hit;unfold ZbP;refine Zc<|Zdf<|Zcw (name:=Zba "__next__") hit.ty QK<|ZbU QK hit.ty Je5 ?_<|Jhd _;unfold Zb5.«set_iterator.__next__»;refine Zc<|Zn ?_;refine Zc<|Zes hi hdi ?_;show Zt _ A.in1 (ZfT a>>=_) _ _ s;refine Zc<|Zco ho hd hf ?_;rw[if_neg<|by rw[hn];simp];show Zt _ A.in1 (Zdy (.ref T)>>=_) _ _ s;refine Zc<|ZbW hT dT ?_;simp only[ZaO,hp];show Zt _ A.in1 (Zgb (.ref it) 0 (ZaB 0)>>=_) _ _ s;refine Zc<|Zbp hi hdi 03 ?_;have h1:(s.heap.update it (Zau (·.setIfInBounds 0 (ZaB 0)))).get? it=Za (oi.mapFields (·.setIfInBounds 0 (ZaB 0))):=Zat _ hi<|Zbo<|Zag hdi _;have d1:(oi.mapFields (·.setIfInBounds 0 (ZaB 0))).data=.fields (Zay [.int 0 0,.int i 0,.ref a,.int n 0,.int ep 0]):=by rw[Zag hdi];simp[ZaB]
 show Zt _ A.in1 (Zgb (.ref it) 2 .none>>=_) _ _ _;refine Zc<|Zbp h1 d1 03 ?_;have e1:=((Zbh s.heap it (Zau (·.setIfInBounds 0 (ZaB 0)))).trans (Zbh (s.heap.update it (Zau (·.setIfInBounds 0 (ZaB 0)))) it (Zau (·.setIfInBounds 2 .none)))).extBut;refine Jmo (s:=s) (it:=it) (h1:=(s.heap.update it (Zau (·.setIfInBounds 0 (ZaB 0)))).update it (Zau (·.setIfInBounds 2 .none))) hh e1 λh' e x ⟨o',g',c'⟩=>?_
 exact Zc<|ZeP (T:="StopIteration") (b:=Zh) #[o',g',c'] isSubtype_stop<|Zn<|hQ _ x
end
theorem Jpr:entryFor table "set_iterator.__iter__"=Za Zb5.«dict_keyiterator.__iter__» :=entryFor_alias (id':="dict_keyiterator.__iter__") 02 rfl (by decide +kernel) 02
theorem Jsp(a:Zg):Zfa "set_iterator.__iter__" #[[a],[]]:=by unfold Zfa;kernel_rfl
section
variable{pr:ZD}{wd:ZV}{A:ZH}{E:QvT}{s:Zk}{a it T:Zo}{o ot:Obj}{es:Wj}{ep n nt:Nat}{t:SetTable}{ord:Tv}
theorem IsSI.self(hit:IsSI s.heap it F i a n ep)(h:Q (.ref it) s):Zt (Zz pr wd) A (Zel<|.ref it) Q E s:=by refine wpAny_pyIter_slot hit.ty Jmj<|ZbU Jmj hit.ty Jpr ?_<|Jsp _;show Zt _ _ (ret<|.ref it) _ _ s;exact Zn #[_,rfl,"set_iterator",_,hit.ty,QK.lookup,h]
theorem IsSI.at{h h':Zaw}(x:IsSI h it F i a n ep)(e:∀o,h.get? it=Za o->h'.get? it=Za o):IsSI h' it F i a n ep:=let ⟨o,ho,r⟩:=x;#[o,e _ ho,r]
theorem Jrz(hh:A.handled=Zd)(ne:a≠it)(hd:o.data=.set es ep t)(hf:t.fits es.size=Zh)(hn:es.size=n)(sl:Nat->Nat)(lo:ord.length=n) (hN:∀(i:Nat)(s:Zk)(x:Zg),s.heap.get? a=Za o->ord[i]?=Za x->∀(Q':Wg->Zk->Prop)(E':QvT),Q' (Za (x,sl<|i+1)) s->Zt (Zz pr wd) A.in1 (Zeb a (sl i) i ep) Q' E' s) (hE:∀(s:Zk),s.heap.get? a=Za o->∀(Q':Wg->Zk->Prop)(E':QvT),Q' Zd s->Zt (Zz pr wd) A.in1 (Zeb a (sl n) n ep) Q' E' s):Walks pr wd A it [it,a] [it] n (λi v=>ord[i]?=Za v) (λi h=>IsSI h it (.int (sl i) 0) i a n ep/\h.get? a=Za o) where
 sub:=λb hb=>by simp at hb;simp[hb]
 frame:=λ_ _ _ st hk=>#[st.1.at λo e=>hk it 03 o e,hk a 03 _ st.2]
 item:=λi s Q E hi st hQ=>by
  have hx:ord[i]?=Za (ord[i]' 05):=Zb _;refine Jyv st.1 st.2 hd hf hn (hN i s _ st.2 hx) λh' hit' hs'=>?_
  exact hQ _ h' s.toks hx #[hit',(hs'.2 a ne).trans st.2] λb o hb e=>(hs'.2 b λh=>hb<|by simp[h]).trans e
 done:=λs Q E st hQ=>J2t hh st.1 st.2 hd hf hn (hE s st.2) λh' he'=>hQ h' s.toks λb o hb e=>he' b o (λh=>hb<|by simp[h]) e
 self:=λ_ _ _ _ st hQ=>st.1.self hQ
theorem Jy9(hh:A.handled=Zd)(ne:a≠it)(nT:T≠it)(hd:o.data=.set es ep t)(hf:t.fits es.size=Zh)(hn:es.size=n)(ps:Tq)(lp:ps.length=n)(dT:ot.data=.seq (Zay<|ps.map λ(i:Nat)=>ZaB i) nt)(hp:∀p∈ps,p<es.size):Walks pr wd A it [it,a,T] [it] n (λi v=>(ps.map λp=>(es.getD p (0,.none)).2)[i]?=Za v) (λi h=>IsSI h it (.ref T) i a n ep/\h.get? a=Za o/\h.get? T=Za ot) where
 sub:=λb hb=>by simp at hb;simp[hb]
 frame:=λ_ _ _ st hk=>#[st.1.at λo e=>hk it 03 o e,hk a 03 _ st.2.1,hk T 03 _ st.2.2]
 item:=λi s Q E hi st hQ=>by
  have hi':i<ps.length:=05;have pz:=hp _<|ZF hi';refine Jys (p:=ps[i]) (tk:=0) (x:=es[ps[i]]) st.1 st.2.1 hd hf hn st.2.2 dT (by simp[hi',ZaB]) (Zbd pz) λh' hit' hs'=>?_
  refine hQ _ h' s.toks ?_ #[hit',(hs'.2 a ne).trans st.2.1,(hs'.2 T nT).trans st.2.2] λb o hb e=>(hs'.2 b λh=>hb<|by simp[h]).trans e
  simp[hi',Zdp,pz]
 done:=λs Q E st hQ=>J2r hh st.1 st.2.1 hd hf hn st.2.2 dT (by simp[lp]) λh' he'=>hQ h' s.toks λb o hb e=>he' b o (λh=>hb<|by simp[h]) e
 self:=λ_ _ _ _ st hQ=>st.1.self hQ
theorem Jr2(hm:m≠0)(h:∀i d',i<m->Q i {s with drawn:=d'}):Zt (Zz pr wd) A (choose src m) Q E s:=λΓ p _=>by show Sem.wp _ Γ (.choose src m .pure) _ _ p s;rw[Sem.wp];refine#[hm,?_];rw[Sem.wp];exact h _ _<|Nat.mod_lt _<|ZaW hm
theorem Jpl:∀(n:Nat)(xs:List α)(s:Zk)(Q:List α->Zk->Prop),xs.length=n->(∀ys d',ys.Perm xs->Q ys {s with drawn:=d'})->Zt (Zz pr wd) A (drawOrder n xs) Q E s
 |0,xs,s,Q,h,hQ=>by obtain rfl:xs=[]:=ZaF h;unfold drawOrder;exact Zn<|hQ [] s.drawn<|ZcM _
 |n+1,[],s,Q,h,hQ=>by cases h
 |n+1,x::xs,s,Q,h,hQ=>by
  unfold drawOrder;refine Zc<|Jr2 03 λi d' hi=>?_
  have e:(x::xs)[i]?=Za (x::xs)[i]:=Zb hi;have el:((x::xs).eraseIdx i).length=n:=by rw[Zer hi,h];rfl
  have pm:=Jeb e;rw[e];dsimp only;refine Zc<|Jpl n _ _ _ el λys d2 p=>?_
  exact Zn<|hQ _ d2<|(p.cons _).trans pm
structure WalkOf(pr:ZD)(wd:ZV)(a lo it:Zo)(h:Zaw)(ns:Tp)(fp:Tw)(ord:Tv)(St:Nat->Zaw->Prop):Prop where
 w:∀A:ZH,A.handled=Zd->Walks pr wd A it fp [it] ns.length (λi v=>ord[i]?=Za v) St
 st:St 0 h
 fp:∀b∈fp,b=a∨lo<=b
 zs:∃ms,Zbs ord ms/\ms.Perm ns
theorem Jy7{l:Wo}(h:AllI l):Zbs (l.map (·.2)) (l.map λe=>numOf e.2):=by
 have:=intsAre_map (l.map (·.2)) λv hv=>by obtain⟨e,he,rfl⟩:=Zaj.mp hv;obtain⟨n,t,rfl⟩:=h e he;exact#[n,t,rfl]
 rwa [Za2]at this
theorem Jf3{l l':Wo}{ns:Tp}(h:AllI l)(en:l.map (λe=>numOf e.2)=ns)(p:l'.Perm l):∃ms,Zbs (l'.map (·.2)) ms/\ms.Perm ns:=#[_,Jy7<|h.perm p,en▸p.map _]
theorem Jtr(hS:SetI wd s.heap a ns)(hQ:∀it h' d' fp ord St,WalkOf pr wd a s.heap.objs.size it h' ns fp ord St->(∀b o,s.heap.get? b=Za o->h'.get? b=Za o)->s.heap.objs.size<=it->Q (.ref it) {s with heap:=h',drawn:=d'}):
  Zt (Zz pr wd) A (Zel<|.ref a) Q E s:=by
 obtain⟨o,es,ep,t,ho,hex,hd,ai,en,hb,hf,tb⟩:=hS;have hT:s.TypeIs (.ref a) "set":=#[o,ho,hex.1];have ln:es.size=ns.length:=by rw[<-en,Zr,ZM]
 have lt:=Z0 ho;refine wpAny_pyIter_slot hT Zfv<|ZbU Zfv hT Jps ?_<|PySem.F.args_set_iter_1 _;unfold Zb5.«frozenset.__iter__»;refine Zc<|Zn ?_;refine Zc<|Zc<|Zco ho hd hf<|Zn ?_;refine Zc ?_;unfold setDrawn ZfS;refine Zc<|Zch ho hd hf ?_;refine Zc<|Zc<|Zcv<|Zn ?_;refine Zn ?_;show Zt _ _ (if (!byT wd&&(!t.plain&&decide (es.size>1)))=Zh then _ else _) _ _ s;cases c:(!byT wd&&(!t.plain&&decide (es.size>1)))with
 |true=>
  rw[if_pos rfl];refine Zc<|Jpl es.size (ZU es.size) s _ 03 λps d' pm=>?_
  have lp:ps.length=es.size:=by rw[pm.length_eq,Zcg]
  have hp:∀p∈ps,p<es.size:=λp h=>Za0.mp<|pm.mem_iff.mp h
  refine Zc (Zf7 ?_<|by rw[Zr,lp];exact Zez hb);show Zt _ _ (setEpoch a>>=_) _ _ _;refine Zc<|wpAny_setEpoch_of (Ze _ ho) hd hf ?_;refine Zc<|Zcf<|Zn #[_,rfl,"set_iterator",_,#[_,Zv _ rfl,rfl],QK.lookup,?_];have sz:(s.heap.push<|ZR "tuple" (Zay<|ps.map λ(i:Nat)=>ZaB i) 0).objs.size=s.heap.objs.size+1:=ZdG ..;refine hQ _ _ d' [(s.heap.push<|ZR "tuple" (Zay<|ps.map λ(i:Nat)=>ZaB i) 0).objs.size,a,s.heap.objs.size] (ps.map λp=>(es.getD p (0,.none)).2) (λi h=>IsSI h (s.heap.push<|ZR "tuple" (Zay<|ps.map λ(i:Nat)=>ZaB i) 0).objs.size (.ref s.heap.objs.size) i a ns.length ep/\h.get? a=Za o/\h.get? s.heap.objs.size=Za (ZR "tuple" (Zay<|ps.map λ(i:Nat)=>ZaB i) 0)) #[λA hh=>?_,?_,?_,?_] (λb o e=>Ze _<|Ze _ e)<|by rw[sz];exact ZaR _
  ·exact Jy9 (ot:=ZR "tuple" (Zay<|ps.map λ(i:Nat)=>ZaB i) 0) (nt:=0) (o:=o) (ep:=ep) hh (by rw[sz];exact Z5<|Zb1 lt) (by rw[sz];exact Z5<|Za4 _) hd hf ln ps (by rw[lp,ln]) rfl hp
  ·refine#[#[_,Zv _ rfl,rfl,?_],Ze _<|Ze _ ho,Ze _<|Zv _ rfl];simp[ZaB,ln]
  ·intro b hb;simp only[ZB,Zai,or_false]at hb;rcases hb with rfl|rfl|rfl
   ·exact .inr<|by rw[sz];exact ZaR _
   ·exact .inl rfl
   ·exact .inr<|Zm _
  ·have e1:(ps.map λp=>(es.getD p (0,.none)).2)=(ps.map λp=>es.getD p (0,.none)).map (·.2):=by rw[Za2];rfl
   rw[e1];refine Jf3 ai en ?_;have e2:(ZU es.size).map (λp=>es.getD p (0,.none))=es.toList:=by
    refine Zcx 03 λi h1 h2=>?_
    have h3:i<es.size:=by simpa using h1
    simp[Zdp,h3]
   rw[<-e2];exact pm.map _
 |false=>
  rw[if_neg Zw];refine Zc<|Zn ?_;show Zt _ _ (setEpoch a>>=_) _ _ _;refine Zc<|wpAny_setEpoch_of ho hd hf ?_;refine Zc<|Zcf<|Zn #[_,rfl,"set_iterator",_,#[_,Zv _ rfl,rfl],QK.lookup,?_];have fpz:∀b∈[s.heap.objs.size,a],b=a∨s.heap.objs.size<=b:=λb hb=>by
   simp only[ZB,Zai,or_false]at hb;rcases hb with rfl|rfl
   ·exact .inr<|Zm _
   ·exact .inl rfl
  have go:∀(sl:Nat->Nat)(ord:Tv),sl 0=0->(∀A:ZH,A.handled=Zd->Walks pr wd A s.heap.objs.size [s.heap.objs.size,a] [s.heap.objs.size] ns.length (λi v=>ord[i]?=Za v) (λi h=>IsSI h s.heap.objs.size (.int (sl i) 0) i a ns.length ep/\h.get? a=Za o))->(∃ms,Zbs ord ms/\ms.Perm ns) ->
    Q (.ref s.heap.objs.size) {s with heap:=s.heap.push {cls:=.type "set_iterator",data:=.fields (Zay [.int 0 0,.int 0 0,.ref a,.int ns.length 0,.int ep 0])} }:=λsl ord h0 w q=>
   hQ _ _ s.drawn _ ord _ #[w,#[#[_,Zv _ rfl,rfl,by rw[h0];rfl],Ze _ ho],fpz,q] (λb o e=>Ze _ e) (Zm _)
  have ne:a≠s.heap.objs.size:=Z5 lt;rw[ln];show Q (.ref s.heap.objs.size) {s with heap:=s.heap.push {cls:=.type "set_iterator",data:=.fields (Zay [.int 0 0,.int 0 0,.ref a,.int ns.length 0,.int ep 0])} };cases hb':byT wd with
  |true=>
   have pm:=Jq9 (wd.params.setOrder a ep) es;have lo:((ZfL (wd.params.setOrder a ep) es).toList.map (·.2)).length=ns.length:=by rw[Zr,pm.length_eq,ZM,ln]
   refine go (λ_=>0) ((ZfL (wd.params.setOrder a ep) es).toList.map (·.2)) rfl (λA hh=>Jrz hh ne hd hf ln (λ_=>0) lo (λi s' x g e Q' E' q=>Jkg hb' g hd hf ?_) λs' g Q' E' q=>Jkg hb' g hd hf ?_) (Jf3 ai en pm)
   ·rw[Zy,ZcE]at e;obtain⟨y,ey,rfl⟩:=Z8.mp e;rw[ey];exact q
   ·rw[Zc4<|by rw[Zr,ZM]at lo;lia];exact q
  |false=>
   rw[hb']at c tb;have c:(!t.plain&&decide (es.size>1))=Zj:=c;have pz:t.place.size=es.size:=by unfold SetTable.fits at hf;simp only[Zp,beq_iff_eq]at hf;exact hf.1
   have lo:(es.toList.map (·.2)).length=ns.length:=by rw[Zr,ZM,ln]
   refine go (Ys t.place) (es.toList.map (·.2)) rfl (λA hh=>Jrz hh ne hd hf ln (Ys t.place) lo (λi s' x g e Q' E' q=>Jmy hb' g hd hf c tb.l ?_) λs' g Q' E' q=>Jmy hb' g hd hf c tb.l ?_) (Jf3 ai en<|ZcM _)
   ·rw[Zy,ZcE]at e;obtain⟨y,ey,rfl⟩:=Z8.mp e;have hi:i<es.size:=(ZaS.mp ey).1;rw[Jgu tb.r 05,ey,Zbd<|show i<t.place.size by lia];have:Ys t.place (i+1)=t.place[i]+1:=by simp[Ys,Zdp,show i<t.place.size by lia]
    rw[this]at q;exact q
   ·rw[Jgu tb.r 05,Zc4 05];exact q
end
end L3
namespace L3
open PySem PyProof.Rows
abbrev kd(p:Zak):Int:=numOf p.1
def Ik(p:Zak):Prop:=∃n t,p.1=.int n t
def gal:Bool->Zak->Tg->Nat->Nat->Nat->StateT Za9 Sem (Wy):=sortPriv% PySem.Builtin.gallop
section
variable{pr:ZD}{wd:ZV}{A:ZH}{E:QvT}{s:Zk}{st:Za9}
theorem JM(h:xs[i]?=Za p)(hq:Q p st):wpS (Zz pr wd) A E s (elem' xs i) Q st:=by rw[elem'_eq,h];exact Z6 hq
theorem Jtz(hk:kindOf st=Zf8)(hp:Ik p)(hq:Ik q)(h:Q (Za<|decide (kd p<kd q)) st):wpS (Zz pr wd) A E s (lt' p q) Q st:=by obtain⟨p,p2⟩:=p;obtain⟨q,q2⟩:=q;obtain⟨n,t,e⟩:=hp;obtain⟨m,u,e'⟩:=hq;cases e;cases e';rw[lt'_eq];refine Z3<|Ze0 ?_;rw[hk,keyLt'_oneType];exact Z3<|ZeQ<|Zdf<|oneLt_int #[rfl,Z6 h]
theorem galT{F:Nat->Option (Wy)×Nat×Nat->StateT Za9 Sem (ForInStep<|Option (Wy)×Nat×Nat)}{B:Nat->Bool}{n lo hi:Nat}{Q:Option (Wy)×Nat×Nat->Za9->Prop} (hF:∀x l o R,o<=n->(o<=l->R (.done (Zd,l,o)) st)->(∀m,l<=m->m<o->m=l+(o-l)/2->B m=Zh->R (.yield (Zd,m+1,o)) st)->(∀m,l<=m->m<o->m=l+(o-l)/2->B m=Zj->R (.yield (Zd,l,m)) st)->wpS (Zz pr wd) A E s (F x (Zd,l,o)) R st)(mo:∀i j,i<=j->j<n->B j=Zh->B i=Zh) (f1:∀i,i<lo->B i=Zh)(f2:∀i,hi<=i->i<n->B i=Zj)(f3:lo<=hi)(f4:hi<=n) (h:∀k,k<=n->(∀i,i<k->B i=Zh)->(∀i,k<=i->i<n->B i=Zj)->Q (Zd,k,k) st):wpS (Zz pr wd) A E s (forIn [0:n] (Zd,lo,hi) F) Q st:=by
 refine ZbH (ZaH (I:=λx c st'=>st'=st/\∃l o,c=(Zd,l,o)/\l<=o/\o<=n/\o-l<=n-x/\(∀i,i<l->B i=Zh)/\∀i,o<=i->i<n->B i=Zj) (Q:=λc st'=>st'=st/\∃l,c=(Zd,l,l)/\l<=n/\(∀i,i<l->B i=Zh)/\∀i,l<=i->i<n->B i=Zj) ?_ ?_ #[rfl,lo,hi,rfl,f3,f4,00,f1,f2]) ?_
 ·rintro x c st' _ hx ⟨rfl,l,o,rfl,lo,on,d,g1,g2⟩;refine hF x l o _ on (λz=>?_) (λm a b _ e=>?_) λm a b _ e=>?_
  ·obtain rfl:l=o:=00;exact#[rfl,l,rfl,on,g1,g2]
  ·exact#[rfl,_,o,rfl,00,on,00,λi hi=>mo i _ 00 00 e,g2]
  ·refine#[rfl,l,_,rfl,00,00,00,g1,λi hi h'=>?_];cases ei:B i with|false=>rfl|true=>rw[mo _ i hi h' ei]at e;cases e
 ·rintro c st' ⟨rfl,l,o,rfl,lo,on,d,g1,g2⟩;obtain rfl:l=o:=00;exact#[rfl,l,rfl,on,g1,g2]
 ·rintro c st' ⟨rfl,l,rfl,ln,g1,g2⟩;exact h l ln g1 g2
theorem J1k{left:Bool}{key:Zak}{arr:Tg}{base n hint:Nat}{Q:Wy->Za9->Prop}{B:Nat->Bool}(hk:kindOf st=Zf8)(hh:hint<n) (hB:∀i,i<n->∃p,arr[base+i]?=Za p/\Ik p/\B i=(if left then decide (kd p<kd key)else !decide (kd key<kd p)))(ik:Ik key) (mo:∀i j,i<=j->j<n->B j=Zh->B i=Zh) (h:∀k,k<=n->(∀i,i<k->B i=Zh)->(∀i,k<=i->i<n->B i=Zj)->Q (Za k) st):wpS (Zz pr wd) A E s (gal left key arr base n hint) Q st:=by
 have bey:∀i,i<n->∀{Q:Wu->Za9->Prop},Q (Za<|B i) st->wpS (Zz pr wd) A E s (elem' arr (base+i)>>=λx=>if left then lt' x key else lt' key x>>=λy=>pure (y.map (!·))) Q st:=λi hi Q hq=>by obtain⟨p,e,ip,eb⟩:=hB i hi;refine Z3<|JM e ?_;cases left with|true=>exact Jtz hk ip ik<|by simpa[eb]using hq|false=>exact Z3 (Jtz hk ik ip<|Z6<|by simpa[eb]using hq)
 have up:∀{i j:Nat},i<=j->j<n->B i=Zj->B j=Zj:=λ{i j} ij jn e=>by cases ej:B j with|false=>rfl|true=>rw[mo i j ij jn ej]at e;cases e
 refine Z3<|bey hint hh ?_;dsimp only;cases eh:B hint with
 |true=>
  rw[if_pos rfl];refine Z3 (ZbH (ZaH (I:=λx c st'=>st'=st/\∃l o,c=(Zd,l,o)/\x<o/\l<o/\hint+l<n/\B (hint+l)=Zh) (Q:=λc st'=>st'=st/\∃l o,c=(Zd,l,o)/\l<o/\hint+l<n/\B (hint+l)=Zh/\(n<=hint+o∨B (hint+o)=Zj)) ?_ ?_ #[rfl,0,1,rfl,00,00,hh,eh]) ?_)
  ·rintro x c st' _ hx ⟨rfl,l,o,rfl,xo,lo,ln,el⟩;dsimp only;split
   ·exact Z6 #[rfl,l,o,rfl,lo,ln,el,.inl 00]
   ·rename_i g;refine Z3<|bey (hint+o) 00 ?_;cases eo:B (hint+o)with|true=>exact Z6 #[rfl,o,2*o+1,rfl,00,00,00,eo]|false=>exact Z6 #[rfl,l,o,rfl,lo,ln,el,.inr eo]
  ·rintro c st' ⟨rfl,l,o,rfl,xo,lo,ln,el⟩;exact#[rfl,l,o,rfl,lo,ln,el,.inl 00]
  rintro c st' ⟨rfl,l,o,rfl,lo,ln,el,e⟩;dsimp only;have f1:∀i,i<hint+l+1->B i=Zh:=λi hi=>mo i _ 00 ln el
  have f2:∀i,hint+min o (n-hint)<=i->i<n->B i=Zj:=λi hi h'=>by
   rcases e with e|e
   ·omega
   ·exact up 00 h' e
  have f3:hint+l+1<=hint+min o (n-hint):=00;have f4:hint+min o (n-hint)<=n:=00;generalize hint+l+1=lo at *;generalize hint+min o (n-hint)=hi at *;clear e el ln eh;refine Z3<|galT (λx l o R on a b c=>?_) mo f1 f2 f3 f4 λk k1 k2 k3=>Z6<|h k k1 k2 k3
  dsimp only;split
  ·rename_i g;exact Z6 (a g)
  ·refine Z3<|bey (l+(o-l)/2) 00 ?_;cases e:B (l+(o-l)/2)with|true=>exact Z6<|b _ 00 00 rfl e|false=>exact Z6<|c _ 00 00 rfl e
 |false=>
  rw[if_neg 01];refine Z3 (ZbH (ZaH (I:=λx c st'=>st'=st/\∃l o,c=(Zd,l,o)/\x<o/\l<o/\l<=hint/\B (hint-l)=Zj) (Q:=λc st'=>st'=st/\∃l o,c=(Zd,l,o)/\l<o/\l<=hint/\B (hint-l)=Zj/\(hint<o∨B (hint-o)=Zh)) ?_ ?_ #[rfl,0,1,rfl,00,00,00,eh]) ?_)
  ·rintro x c st' _ hx ⟨rfl,l,o,rfl,xo,lo,ln,el⟩;dsimp only;split
   ·exact Z6 #[rfl,l,o,rfl,lo,ln,el,.inl 00]
   ·rename_i g;refine Z3<|bey (hint-o) 00 ?_;cases eo:B (hint-o)with|false=>exact Z6 #[rfl,o,2*o+1,rfl,00,00,00,eo]|true=>exact Z6 #[rfl,l,o,rfl,lo,ln,el,.inr eo]
  ·rintro c st' ⟨rfl,l,o,rfl,xo,lo,ln,el⟩;exact#[rfl,l,o,rfl,lo,ln,el,.inl 00]
  rintro c st' ⟨rfl,l,o,rfl,lo,ln,el,e⟩;dsimp only;have f1:∀i,i<hint+1-min o (hint+1)->B i=Zh:=λi hi=>by
   rcases e with e|e
   ·omega
   ·exact mo i _ 00 00 e
  have f2:∀i,hint-l<=i->i<n->B i=Zj:=λi hi h'=>up 00 h' el
  have f3:hint+1-min o (hint+1)<=hint-l:=00;have f4:hint-l<=n:=00;generalize hint+1-min o (hint+1)=lo at *;generalize hint-l=hi at *;refine Z3<|galT (λx l o R on a b c=>?_) mo f1 f2 f3 f4 λk k1 k2 k3=>Z6<|h k k1 k2 k3
  dsimp only;split
  ·rename_i g;exact Z6 (a g)
  ·refine Z3<|bey (l+(o-l)/2) 00 ?_;cases e:B (l+(o-l)/2)with|true=>exact Z6<|b _ 00 00 rfl e|false=>exact Z6<|c _ 00 00 rfl e
end
def Ord(r:Int->Int->Prop)(l:Tt):Prop:=l.Pairwise λp q=>r (kd p)<|kd q
structure Mg(r:Int->Int->Prop)(L o a b:Tt):Prop where
 pm:(o++a++b).Perm L
 so:Ord r o
 sa:Ord r a
 sb:Ord r b
 oa:∀p∈o,∀q∈a,r (kd p)<|kd q
 ob:∀p∈o,∀q∈b,r (kd p)<|kd q
theorem Mg.swap{r:Int->Int->Prop}{L o a b:Tt}(h:Mg r L o a b):Mg r L o b a:=#[by rw[Zae];exact(List.perm_append_comm.append_left o).trans<|(Zae o a b)▸h.pm,h.so,h.sb,h.sa,h.ob,h.oa]
theorem Mg.step{r:Int->Int->Prop}{L o c a b:Tt}(h:Mg r L o (c++a) b)(hc:∀p∈c,∀q∈b,r (kd p)<|kd q):Mg r L (o++c) a b:=by
 obtain⟨sc,sa,ca⟩:=ZaU.mp h.sa;refine#[by rw[Zae o c a];exact h.pm,ZaU.mpr #[h.so,sc,λp hp q hq=>h.oa p hp q<|ZW _ hq],sa,h.sb,λp hp q hq=>?_,λp hp q hq=>?_]
 ·rcases ZK.mp hp with hp|hp
  ·exact h.oa p hp q<|Zq _ hq
  ·exact ca p hp q hq
 ·rcases ZK.mp hp with hp|hp
  ·exact h.ob p hp q hq
  ·exact hc p hp q hq
theorem Mg.fin{r:Int->Int->Prop}{L o a b:Tt}(h:Mg r L o a b)(hc:∀p∈a,∀q∈b,r (kd p)<|kd q):(o++a++b).Perm L/\Ord r (o++a++b):=by
 refine#[h.pm,ZaU.mpr #[ZaU.mpr #[h.so,h.sa,h.oa],h.sb,λp hp q hq=>?_]];rcases ZK.mp hp with hp|hp
 ·exact h.ob p hp q hq
 ·exact hc p hp q hq
structure Run(a:Tg):Prop where
 ik:∀i,i<a.size->∃p,a[i]?=Za p/\Ik p
 so:∀i j,i<=j->j<a.size->K a i<=K a j
theorem VP(a:Tg){i k j:Nat}(h:i<=k)(h':k<=j):(a.extract i j).toList=(a.extract i k).toList++(a.extract k j).toList:=by rw[<-ZS,Array.extract_append_extract,Zb3 h,Nat.max_eq_right h']
theorem V7{a:Tg}{i j:Nat}{p:Zak}(h:p∈(a.extract i j).toList):∃t,i<=t/\t<j/\t<a.size/\kd p=K a t:=by
 obtain⟨t,ht,e⟩:=Za5.mp h;have ht':t<min (j-i) (a.size-i):=by simpa using ht
 refine#[i+t,05,05,05,?_];rw[K_eq<|show i+t<a.size by lia];subst e;simp
theorem Run.ord{a:Tg}(R:Run a)(i j:Nat):Ord (· <= ·) (a.extract i j).toList:=by
 refine Zbe.mpr λx y hx hy xy=>?_
 have hy':y<min (j-i) (a.size-i):=by simpa using hy
 have:=R.so (i+x) (i+y) 05 05;rw[K_eq (show i+x<a.size by lia),K_eq<|show i+y<a.size by lia]at this;simpa using this
theorem Xf{a b:Tg}{i j i' j':Nat}{key:Int}(h:∀t,i<=t->t<j->t<a.size->K a t<=key)(h':∀t,i'<=t->t<j'->t<b.size->key<=K b t):∀p∈(a.extract i j).toList,∀q∈(b.extract i' j').toList,kd p<=kd q:=λp hp q hq=>by obtain⟨t,a1,a2,a3,e⟩:=V7 hp;obtain⟨u,b1,b2,b3,e'⟩:=V7 hq;rw[e,e'];exact Zan (h t a1 a2 a3)<|h' u b1 b2 b3
theorem Jk7{a:Tg}{i:Nat}{p:Zak}(e:a[i]?=Za p)(o:Tg):(o.push p).toList=o.toList++(a.extract i<|i+1).toList:=by
 have hi:i<a.size:=by
  rcases Zgh i a.size with h|h
  ·exact h
  ·rw[Zc4 h]at e;cases e
 have:a[i]=p:=by simpa[hi]using e
 subst this;simp[List.extract_eq_drop_take,List.take_one,hi]
def Srt(L:Tt)(c:Tg):Prop:=c.toList.Perm L/\Ord (· <= ·) c.toList
def Lo(a b:Tg)(o:Tg)(i j:Nat):Prop:=Mg (· <= ·) (a.toList++b.toList) o.toList (a.extract i a.size).toList (b.extract j b.size).toList
section
variable{a b o:Tg}{i j k:Nat}{key:Int}
theorem Lo.cA(m:Lo a b o i j)(h:i+k<=a.size)(f:∀t,i<=t->t<i+k->t<a.size->K a t<=key)(g:∀t,j<=t->t<b.size->t<b.size->key<=K b t):Lo a b (o++a.extract i (i+k)) (i+k) j:=by unfold Lo at m ⊢;rw[VP a (Zas i k) h]at m;rw[ZS];exact m.step<|Xf f g
theorem Lo.cB(m:Lo a b o i j)(h:j+k<=b.size)(f:∀t,j<=t->t<j+k->t<b.size->K b t<=key)(g:∀t,i<=t->t<a.size->t<a.size->key<=K a t):Lo a b (o++b.extract j (j+k)) i (j+k):=by unfold Lo at m ⊢;rw[VP b (Zas j k) h]at m;rw[ZS];exact(m.swap.step<|Xf f g).swap
theorem Lo.pA{p:Zak}(m:Lo a b o i j)(R:Run a)(h:i<a.size)(e:a[i]?=Za p)(g:∀t,j<=t->t<b.size->t<b.size->K a i<=K b t):Lo a b (o.push p) (i+1) j:=by have:=m.cA (k:=1) h (λt h1 h2 h3=>R.so t i 05 h) g;unfold Lo at this ⊢;rw[ZS]at this;rwa [Jk7 e]
theorem Lo.pB{p:Zak}(m:Lo a b o i j)(R:Run b)(h:j<b.size)(e:b[j]?=Za p)(g:∀t,i<=t->t<a.size->t<a.size->K b j<=K a t):Lo a b (o.push p) i (j+1):=by have:=m.cB (k:=1) h (λt h1 h2 h3=>R.so t j 05 h) g;unfold Lo at this ⊢;rw[ZS]at this;rwa [Jk7 e]
theorem Lo.dn(m:Lo a b o i j)(h:i=a.size∨j=b.size):Srt (a.toList++b.toList) (o++a.extract i a.size++b.extract j b.size):=by unfold Srt;rw[ZS,ZS];exact Mg.fin m λp hp q hq=>by obtain⟨t,a1,a2,_⟩:=V7 hp;obtain⟨u,b1,b2,_⟩:=V7 hq;lia
theorem Lo.la(m:Lo a b o i j)(h:i+1=a.size)(h2:∀t,t<b.size->K b t<=K a (a.size-1)):Srt (a.toList++b.toList) (o++b.extract j b.size++a.extract i a.size):=by
 unfold Srt;rw[ZS,ZS];refine m.swap.fin<|Xf (key:=K a<|a.size-1) (λt _ _ h'=>h2 t h') λt h1 h2 _=>?_
 obtain rfl:t=a.size-1:=05;exact ZJ _
end
def Same(st st':Za9):Prop:=∃g,st'=Zfd (kindOf st) (ZL st) (ZZ st) g (Zd7 st)
theorem Same.rfl{st:Za9}:Same st st:=#[gallopOf st,by cases st;exact Zgi _]
theorem Same.more{st st':Za9}(h:Same st st')(g:Nat):Same st (Zfd (kindOf st') (ZL st') (ZZ st') g<|Zd7 st'):=by obtain⟨_,e⟩:=h;subst e;exact#[g,Zgi _]
theorem Same.kind{st st':Za9}(h:Same st st'):kindOf st'=kindOf st:=by obtain⟨_,e⟩:=h;subst e;exact Zgi _
section
variable{pr:ZD}{wd:ZV}{A:ZH}{E:QvT}{s:Zk}{st:Za9}
theorem Qb{α:Type}{c:Prop}[Decidable c]{x y:StateT Za9 Sem α}{Q:α->Za9->Prop}(h1:c->wpS (Zz pr wd) A E s x Q st)(h2:¬c->wpS (Zz pr wd) A E s y Q st):wpS (Zz pr wd) A E s (if c then x else y) Q st:=by
 split
 ·exact h1 ‹_›
 ·exact h2 ‹_›
theorem JO{α:Type}{i j:Nat}{x y:StateT Za9 Sem α}{Q:α->Za9->Prop}(h1:i=j->wpS (Zz pr wd) A E s x Q st)(h2:i≠j->wpS (Zz pr wd) A E s y Q st):wpS (Zz pr wd) A E s (if (i==j)=Zh then x else y) Q st:=Qb (λg=>h1<|eq_of_beq g) λg=>h2 λe=>g<|beq_iff_eq.mpr e
theorem VH{α:Type}{c:Prop}[Decidable c]{x y:StateT Za9 Sem α}{Q:α->Za9->Prop}(h1:c->wpS (Zz pr wd) A E s x Q st)(h2:¬c->wpS (Zz pr wd) A E s y Q st):wpS (Zz pr wd) A E s (if decide c=Zh then x else y) Q st:=Qb (λg=>h1<|of_decide_eq_true g) λg=>h2 λe=>g<|decide_eq_true e
theorem Xt{left:Bool}{key:Zak}{arr:Tg}{base n hint:Nat}{Q:Wy->Za9->Prop}(hk:kindOf st=Zf8)(hh:hint<n)(hn:base+n<=arr.size)(ik:Ik key) (ia:∀i,i<arr.size->∃p,arr[i]?=Za p/\Ik p)(so:∀i j,base<=i->i<=j->j<base+n->K arr i<=K arr j) (h:∀k,k<=n->(∀t,base<=t->t<base+k->K arr t<=kd key)->(∀t,base+k<=t->t<base+n->kd key<=K arr t)->Q (Za k) st):wpS (Zz pr wd) A E s (gal left key arr base n hint) Q st:=by
 have kv:∀i,i<n->∃p,arr[base+i]?=Za p/\Ik p/\kd p=K arr (base+i):=λi hi=>by obtain⟨p,e,ip⟩:=ia (base+i) 05;exact#[p,e,ip,by unfold K;rw[e]]
 refine J1k (B:=λi=>if left then decide (K arr (base+i)<kd key)else !decide (kd key<K arr (base+i))) hk hh (λi hi=>?_) ik (λi j ij jn e=>?_) λk kn f g=>?_
 ·obtain⟨p,e,ip,ek⟩:=kv i hi;exact#[p,e,ip,by rw[ek]]
 ·have:=so (base+i) (base+j) 05 05 05;cases left<;>simp at e ⊢ <;>lia
 ·refine h k kn (λt h1 h2=>?_) λt h1 h2=>?_
  ·have:=f (t-base) 05;rw[show base+(t-base)=t by lia]at this;cases left<;>simp at this<;>lia
  ·have:=g (t-base) 05 05;rw[show base+(t-base)=t by lia]at this;cases left<;>simp at this<;>lia
end
def mLo:Tg->Tg->StateT Za9 Sem (Tg):=sortPriv% PySem.Builtin.mergeLo
inductive MgQ{τ:Type}(st:Za9)(F:Tg->Prop)(P:τ->Prop):ForInStep (Option (Tg)×τ)->Za9->Prop|fin {r c st'}:Same st st'->F r->MgQ st F P (.done (Za r,c)) st'|brk {c st'}:Same st st'->P c->MgQ st F P (.done (Zd,c)) st'|go {c st'}:Same st st'->P c->MgQ st F P (.yield (Zd,c)) st'
section
variable{pr:ZD}{wd:ZV}{A:ZH}{E:QvT}{s:Zk}{st:Za9}
theorem Jwm{α β:Type}{c:Prop}[Decidable c](f:β->StateT Za9 Sem α){x y:β}{Q:α->Za9->Prop}(h:∀z,wpS (Zz pr wd) A E s (f z) Q st):wpS (Zz pr wd) A E s (if c then f x else f y) Q st:=by
 split
 ·exact h x
 ·exact h y
theorem J1m{Q:Tg->Za9->Prop}(hk:kindOf st=Zf8)(Ra:Run a)(Rb:Run b)(na:0<a.size)(nb:0<b.size)
  (h1:∀t,t<a.size->K b 0<=K a t)(h2:∀t,t<b.size->K b t<=K a (a.size-1))(h:∀c st',Srt (a.toList++b.toList) c->Same st st'->Q c st'):wpS (Zz pr wd) A E s (mLo a b) Q st:=by
 have kv:∀{x:Tg}{i:Nat}{p:Zak},x[i]?=Za p->kd p=K x i:=λe=>by unfold K;rw[e]
 refine Z3<|ZeQ<|Zb9 #[rfl,?_];obtain⟨p0,e0,_⟩:=Rb.ik 0 nb;have m0:Lo a b #[] 0 0:=by refine#[03,Zew,Ra.ord _ _,Rb.ord _ _,?_,?_]<;>(intro p hp;simp at hp)
 have m1:=m0.pB Rb nb e0 λt _ h' _=>h1 t h'
 refine Z3<|JM e0 ?_;refine JO (λg=>Z6<|h _ _ (m1.dn<|.inr g) Same.rfl) λg1=>JO (λg=>Z6<|h _ _ (m1.la g h2) Same.rfl) λg2=>?_
 have g1':1<b.size:=ZaA nb g1;have g2':1<a.size:=ZaA na g2;refine Z3<|Ze0 ?_;refine Z3 (ZbH (ZaH (I:=λx c st'=>Same st st'/\∃o i j g,c=(Zd,o,i,j,g)/\Lo a b o i j/\x<i+j/\i+1<a.size/\j<b.size)
  (Q:=λc st'=>Same st st'/\∃r,c.1=Za r/\Srt (a.toList++b.toList) r) ?_ ?_ #[Same.rfl,_,0,1,_,rfl,m1,00,g2',g1']) ?_)
 ·clear m1 m0;rintro x c st1 _ hx ⟨S1,o,i,j,g,rfl,m,xl,il,jl⟩;refine Z3 (ZbH (ZaH (I:=λy c st'=>st'=st1/\∃o i j ac bc,c=(Zd,o,i,j,ac,bc)/\Lo a b o i j/\x+y<i+j/\i+1<a.size/\j<b.size)
   (Q:=λc st'=>st'=st1/\((∃r,c.1=Za r/\Srt (a.toList++b.toList) r)∨∃o i j ac bc,c=(Zd,o,i,j,ac,bc)/\Lo a b o i j/\x+1<i+j/\i+1<a.size/\j<b.size)) ?_ ?_ #[rfl,o,i,j,_,_,rfl,m,00,il,jl]) ?_)
  ·clear m xl il jl;rintro y c st2 _ hy ⟨rfl,o,i,j,ac,bc,rfl,m,xl,il,jl⟩;obtain⟨p,ep,ip⟩:=Rb.ik j jl;obtain⟨q,eq,iq⟩:=Ra.ik i 00;refine Z3<|JM ep<|Z3<|JM eq<|Z3<|Jtz (S1.kind.trans hk) ip iq<|VH (λlt=>?_) λlt=>?_
   all_goals rw[kv ep,kv eq]at lt
   ·have m':=m.pB Rb jl ep λt h1 h2 _=>Zan (Zbb lt)<|Ra.so i t h1 h2
    refine Z3<|JM ep<|JO (λg=>Z6 #[rfl,.inl #[_,rfl,m'.dn<|.inr g]]) λg=>?_
    have g':j+1<b.size:=ZaA jl g;exact Qb (λ_=>Z6 #[rfl,.inr #[_,i,j+1,_,_,rfl,m',ZdH<|Zah (Zas x y) xl,il,g']]) λ_=>Z6 #[rfl,_,i,j+1,_,_,rfl,m',ZdH xl,il,g']
   ·have m':=m.pA Ra (ZaE il) eq λt h1 h2 _=>Zan (ZcN.mp lt)<|Rb.so j t h1 h2
    refine Z3<|JM eq<|JO (λg=>Z6 #[rfl,.inl #[_,rfl,m'.la g h2]]) λg=>?_
    have g':i+1+1<a.size:=ZaA il g;exact Qb (λ_=>Z6 #[rfl,.inr #[_,i+1,j,_,_,rfl,m',by rw[Nat.add_right_comm];exact ZdH<|Zah (Zas x y) xl,g',jl]]) λ_=>Z6 #[rfl,_,i+1,j,_,_,rfl,m',by rw[Nat.add_right_comm i];exact ZdH xl,g',jl]
  ·rintro c st2 ⟨rfl,o,i,j,ac,bc,rfl,m,xl,il,jl⟩;omega
  rintro c st2 ⟨rfl,⟨r,er,sr⟩|⟨o,i,j,ac,bc,rfl,m,xl,il,jl⟩⟩
  ·obtain⟨c0,c⟩:=c;cases er;exact Z6 #[S1,r,rfl,sr]
  refine Z3<|ZeQ<|Zb9 #[rfl,?_];refine Z3 (ZbH (ZaH (I:=λy c st'=>Same st st'/\∃o i j g ac bc,c=(Zd,o,i,j,g,ac,bc)/\Lo a b o i j/\x+1<i+j/\i+1<a.size/\j<b.size)
   (Q:=λc st'=>Same st st'/\((∃r,c.1=Za r/\Srt (a.toList++b.toList) r)∨∃o i j g ac bc,c=(Zd,o,i,j,g,ac,bc)/\Lo a b o i j/\x+1<i+j/\i+1<a.size/\j<b.size)) ?_ ?_ #[S1,o,i,j,_,_,_,rfl,m,00,il,jl]) ?_)
  ·clear m xl il jl hx g1 g2 g1' g2' na nb;rintro y c st2 _ _ ⟨S2,o,i,j,g,ac,bc,rfl,m,xl,il,jl⟩;refine ZbH (Q:=MgQ st (Srt<|a.toList++b.toList) λc=>Lo a b c.1 c.2.1 c.2.2.1/\x+1<c.2.1+c.2.2.1/\c.2.1+1<a.size/\c.2.2.1<b.size) ?_ λr st' h=>by cases h with|fin S f=>exact#[S,.inl #[_,rfl,f]]|brk S f=>exact#[S,.inr #[_,_,_,_,_,_,rfl,f]]|go S f=>exact#[S,_,_,_,_,_,_,rfl,f]
   dsimp -zeta only;extract_lets -merge -useContext -underBinder z1 z2 z3 z4 z5 z6 z7 z8 z9 z10 z11 jp;refine Jwm (jp ()) λg'=>?_
   have S3:=S2.more g';obtain⟨p,ep,ip⟩:=Rb.ik j jl;refine Z3<|Zdq<|Z3<|JM ep<|Z3<|Xt (base:=i) (n:=a.size-i) (S3.kind.trans hk) 00 00 ip Ra.ik (λu v _ uv hv=>Ra.so u v uv 00) λk kn f1 f2=>?_
   rw[kv ep]at f1 f2;dsimp -zeta only;extract_lets -merge -useContext -underBinder y1 jp2;have H2:∀o1 i1,Lo a b o1 i1 j->i<=i1->i1+1<a.size->(∀t,i1<=t->t<a.size->K b j<=K a t)->wpS (Zz pr wd) A E s (jp2 () o1 i1) (MgQ st (Srt<|a.toList++b.toList) λc=>Lo a b c.1 c.2.1 c.2.2.1/\x+1<c.2.1+c.2.2.1/\c.2.1+1<a.size/\c.2.2.1<b.size) _:=λo1 i1 m1 ii l1 f=>by
    have m2:=m1.pB Rb jl ep λt h1 h2 _=>f t h1 h2
    refine Z3<|JM ep<|JO (λg=>Z6<|.fin S3<|m2.dn<|.inr g) λg=>?_
    have g':j+1<b.size:=ZaA jl g;obtain⟨q,eq,iq⟩:=Ra.ik i1<|ZaE l1;refine Z3<|JM eq<|Z3<|Xt (base:=j+1) (n:=b.size-(j+1)) (S3.kind.trans hk) (Zd8 g') 00 iq Rb.ik (λu v _ uv hv=>Rb.so u v uv 00) λk kn f1 f2=>?_
    rw[kv eq]at f1 f2;dsimp -zeta only;extract_lets -merge -useContext -underBinder y2 jp3;have H3:∀o2 j2,Lo a b o2 i1 j2->j+1<=j2->j2<b.size->(∀t,j2<=t->t<b.size->K a i1<=K b t)->wpS (Zz pr wd) A E s (jp3 () o2 j2) (MgQ st (Srt<|a.toList++b.toList) λc=>Lo a b c.1 c.2.1 c.2.2.1/\x+1<c.2.1+c.2.2.1/\c.2.1+1<a.size/\c.2.2.1<b.size) _:=λo2 j2 m3 jj l2 f=>by
     have m4:=m3.pA Ra (ZaE l1) eq λt h1 h2 _=>f t h1 h2
     refine Z3<|JM eq<|JO (λg=>Z6<|.fin S3<|m4.la g h2) λg=>?_
     have g':i1+1+1<a.size:=ZaA l1 g;have pp:x+1<i1+1+j2:=00;exact Qb (λ_=>Z6<|.brk S3 #[m4,pp,g',l2]) λ_=>Z6<|.go S3 #[m4,pp,g',l2]
    refine Qb (λ_=>?_) λg=>?_
    ·have m3:=m2.cB (k:=k) 00 (λt h1 h2 _=>f1 t h1 h2) λt h1 h2 _=>Ra.so i1 t h1 h2
     refine JO (λg=>Z6<|.fin S3<|m3.dn<|.inr g) λg=>?_
     have g':¬j+1+k=b.size:=g;exact H3 _ (j+1+k) m3 (Zas _ _) 00 λt h1 h2=>f2 t h1 00
    ·have k0:k=0:=Ze1.mp<|ZaX.mp g;subst k0;exact H3 _ (j+1) m2 (Zm _) g' λt h1 h2=>f2 t h1 00
   refine Qb (λ_=>?_) λg=>?_
   ·have m3:=m.cA (k:=k) 00 (λt h1 h2 _=>f1 t h1 h2) λt h1 h2 _=>Rb.so j t h1 h2
    refine JO (λg=>Z6<|.fin S3<|m3.la g h2) λg=>JO (λg=>Z6<|.fin S3<|m3.dn<|.inl g) λg2=>?_
    have g':¬i+k+1=a.size:=g;have g2':¬i+k=a.size:=g2;exact H2 _ (i+k) m3 (Zas _ _) 00 λt h1 h2=>f2 t h1 00
   ·have k0:k=0:=Ze1.mp<|ZaX.mp g;subst k0;exact H2 _ i m (Zm _) il λt h1 h2=>f2 t h1 00
  ·rintro c st2 ⟨S2,o,i,j,g,ac,bc,rfl,m,xl,il,jl⟩;exact#[S2,.inr #[o,i,j,g,ac,bc,rfl,m,xl,il,jl]]
  rintro c st2 ⟨S2,⟨r,er,sr⟩|⟨o,i,j,g,ac,bc,rfl,m,xl,il,jl⟩⟩
  ·obtain⟨c0,c⟩:=c;cases er;exact Z6 #[S2,r,rfl,sr]
  refine Z3<|Zdq<|Z6 #[S2.more _,o,i,j,_,rfl,m,xl,il,jl]
 ·rintro c st1 ⟨S1,o,i,j,g,rfl,m,xl,il,jl⟩;omega
 ·rintro⟨c0,c⟩ st1 ⟨S1,r,er,sr⟩;cases er;exact Z6<|h r _ sr S1
end
def Hi(a b:Tg)(o:Tg)(i j:Nat):Prop:=Mg (λx y=>y<=x) (a.toList++b.toList) o.toList (a.extract 0 i).toList.reverse (b.extract 0 j).toList.reverse
section
variable{a b o:Tg}{i j k:Nat}{key:Int}
theorem Hi.cA(m:Hi a b o i j)(h:k<=i)(f:∀t,k<=t->t<i->t<a.size->key<=K a t)(g:∀t,0<=t->t<j->t<b.size->K b t<=key):Hi a b (o++(a.extract k i).reverse) k j:=by unfold Hi at m ⊢;rw[VP a (ZA k) h,List.reverse_append]at m;rw[ZS,ZbG];exact m.step λp hp q hq=>Xf g f q (Zbw.mp hq) p<|Zbw.mp hp
theorem Hi.cB(m:Hi a b o i j)(h:k<=j)(f:∀t,k<=t->t<j->t<b.size->key<=K b t)(g:∀t,0<=t->t<i->t<a.size->K a t<=key):Hi a b (o++(b.extract k j).reverse) i k:=by unfold Hi at m ⊢;rw[VP b (ZA k) h,List.reverse_append]at m;rw[ZS,ZbG];exact(m.swap.step λp hp q hq=>Xf g f q (Zbw.mp hq) p<|Zbw.mp hp).swap
theorem Jmc(h:0<i)(e:a[i-1]?=Za p):(o.push p).toList=(o++(a.extract (i-1) i).reverse).toList:=by have:=Jk7 e #[];rw[show i-1+1=i by lia]at this;rw[ZS,ZbG,<-Zbr (a.extract (i-1) i).toList,<-this];simp
theorem Hi.pA(m:Hi a b o i j)(h:0<i)(e:a[i-1]?=Za p)(g:∀t,0<=t->t<j->t<b.size->K b t<=K a (i-1)):Hi a b (o.push p) (i-1) j:=by have:=m.cA (k:=i-1) 05 (λt h1 h2 h3=>by rw[show t=i-1 by lia];exact ZJ _) g;unfold Hi at this ⊢;rwa [Jmc h e]
theorem Hi.pB(m:Hi a b o i j)(h:0<j)(e:b[j-1]?=Za p)(g:∀t,0<=t->t<i->t<a.size->K a t<=K b (j-1)):Hi a b (o.push p) i (j-1):=by have:=m.cB (k:=j-1) 05 (λt h1 h2 h3=>by rw[show t=j-1 by lia];exact ZJ _) g;unfold Hi at this ⊢;rwa [Jmc h e]
theorem Mg.rev{L x y z:Tt}(h:(x++y.reverse++z.reverse).Perm L/\Ord (λx y=>y<=x) (x++y.reverse++z.reverse)):(z++y++x.reverse).Perm L/\Ord (· <= ·) (z++y++x.reverse):=by have e:z++y++x.reverse=(x++y.reverse++z.reverse).reverse:=03;rw[e];exact#[(Zd9 _).trans h.1,Zfw.mpr h.2]
theorem Hi.dn(m:Hi a b o i j)(h:i=0∨j=0):Srt (a.toList++b.toList) (a.extract 0 i++b.extract 0 j++o.reverse):=by unfold Srt;rw[ZS,ZS,ZbG];exact Mg.rev (m.swap.fin λp hp q hq=>by obtain⟨t,a1,a2,_⟩:=V7<|Zbw.mp hp;obtain⟨u,b1,b2,_⟩:=V7<|Zbw.mp hq;lia)
theorem Hi.fb(m:Hi a b o i j)(h:j=1)(h1:∀t,t<a.size->K b 0<=K a t):Srt (a.toList++b.toList) (b.extract 0 j++a.extract 0 i++o.reverse):=by
 unfold Srt;rw[ZS,ZS,ZbG];refine Mg.rev<|m.fin λp hp q hq=>Xf (key:=K b 0) (λt _ h2 _=>?_) (λt _ _ h'=>h1 t h') q (Zbw.mp hq) p<|Zbw.mp hp
 rw[show t=0 by lia];exact ZJ _
end
def mHi:Tg->Tg->StateT Za9 Sem (Tg):=sortPriv% PySem.Builtin.mergeHi
section
variable{pr:ZD}{wd:ZV}{A:ZH}{E:QvT}{s:Zk}{st:Za9}
theorem J1l{Q:Tg->Za9->Prop}(hk:kindOf st=Zf8)(Ra:Run a)(Rb:Run b)(na:0<a.size)(nb:0<b.size)
  (h1:∀t,t<a.size->K b 0<=K a t)(h2:∀t,t<b.size->K b t<=K a (a.size-1))(h:∀c st',Srt (a.toList++b.toList) c->Same st st'->Q c st'):wpS (Zz pr wd) A E s (mHi a b) Q st:=by
 have kv:∀{x:Tg}{i:Nat}{p:Zak},x[i]?=Za p->kd p=K x i:=λe=>by unfold K;rw[e]
 refine Z3<|ZeQ<|Zb9 #[rfl,?_];obtain⟨p0,e0,_⟩:=Ra.ik (a.size-1) 05;have rv:∀{x:Tg}(R:Run x)(i:Nat),Ord (λx y=>y<=x) (x.extract 0 i).toList.reverse:=λR i=>Zfw.mpr<|R.ord 0 i
 have m0:Hi a b #[] a.size b.size:=by
  refine#[?_,Zew,rv Ra _,rv Rb _,?_,?_]
  ·exact(((Zd9 _).append<|Zd9 _).trans 03)
  all_goals (intro p hp;simp at hp)
 have m1:=m0.pA na e0 λt _ h' _=>h2 t h'
 refine Z3<|JM e0 ?_;refine JO (i:=a.size-1) (j:=0) (λg=>Z6<|h _ _ (m1.dn<|.inl g) Same.rfl) λg1=>JO (i:=b.size) (j:=1) (λg=>Z6<|h _ _ (m1.fb g h1) Same.rfl) λg2=>?_
 have g1':0<a.size-1:=ZaW g1;have g2':1<b.size:=ZaA nb<|ZP g2;have s1:0+(a.size-1)+b.size<a.size+b.size:=05;refine Z3<|Ze0 ?_;refine Z3 (ZbH (ZaH (I:=λx c st'=>Same st st'/\∃i j o g,c=(Zd,i,j,o,g)/\Hi a b o i j/\x+i+j<a.size+b.size/\0<i/\i<=a.size/\1<j/\j<=b.size)
  (Q:=λc st'=>Same st st'/\∃r,c.1=Za r/\Srt (a.toList++b.toList) r) ?_ ?_ #[Same.rfl,_,_,_,_,rfl,m1,s1,g1',Zff _ _,g2',Zm _]) ?_)
 ·clear m1 m0;rintro x c st1 _ hx ⟨S1,i,j,o,g,rfl,m,xl,il,ia,jl,jb⟩;refine Z3 (ZbH (ZaH (I:=λy c st'=>st'=st1/\∃i j o ac bc,c=(Zd,i,j,o,ac,bc)/\Hi a b o i j/\x+y+i+j<a.size+b.size/\0<i/\i<=a.size/\1<j/\j<=b.size)
   (Q:=λc st'=>st'=st1/\((∃r,c.1=Za r/\Srt (a.toList++b.toList) r)∨∃i j o ac bc,c=(Zd,i,j,o,ac,bc)/\Hi a b o i j/\x+1+i+j<a.size+b.size/\0<i/\i<=a.size/\1<j/\j<=b.size)) ?_ ?_ #[rfl,i,j,o,_,_,rfl,m,05,il,ia,jl,jb]) ?_)
  ·clear m xl il ia jl jb;rintro y c st2 _ hy ⟨rfl,i,j,o,ac,bc,rfl,m,xl,il,ia,jl,jb⟩;have jm:j-1<b.size:=ZcO (ZaE jl) jb;have im:i-1<a.size:=ZcO il ia;obtain⟨p,ep,ip⟩:=Rb.ik (j-1) jm;obtain⟨q,eq,iq⟩:=Ra.ik (i-1) im;refine Z3<|JM ep<|Z3<|JM eq<|Z3<|Jtz (S1.kind.trans hk) ip iq<|VH (λlt=>?_) λlt=>?_
   all_goals rw[kv ep,kv eq]at lt
   ·have m':=m.pA il eq λt _ h2 _=>Zan (Rb.so t (j-1) (Zaz h2) jm)<|Zbb lt
    have pp:x+y+1+(i-1)+j<a.size+b.size:=05;have p1:x+1+(i-1)+j<a.size+b.size:=05;refine Z3<|JM eq<|JO (i:=i-1) (j:=0) (λg=>Z6 #[rfl,.inl #[_,rfl,m'.dn<|.inl g]]) λg=>?_
    have g':=ZaW g;have i':=ZC (Zff i 1) ia;exact Qb (λ_=>Z6 #[rfl,.inr #[i-1,j,_,_,_,rfl,m',p1,g',i',jl,jb]]) λ_=>Z6 #[rfl,i-1,j,_,_,_,rfl,m',pp,g',i',jl,jb]
   ·have m':=m.pB (ZaE jl) ep λt _ h2 _=>Zan (Ra.so t (i-1) (Zaz h2) im)<|ZcN.mp lt
    have pp:x+y+1+i+(j-1)<a.size+b.size:=05;have p1:x+1+i+(j-1)<a.size+b.size:=05;refine Z3<|JM ep<|JO (i:=j-1) (j:=1) (λg=>Z6 #[rfl,.inl #[_,rfl,m'.fb g h1]]) λg=>?_
    have g':1<j-1:=ZaA (Zaz jl)<|ZP g;have j':=ZC (Zff j 1) jb;exact Qb (λ_=>Z6 #[rfl,.inr #[i,j-1,_,_,_,rfl,m',p1,il,ia,g',j']]) λ_=>Z6 #[rfl,i,j-1,_,_,_,rfl,m',pp,il,ia,g',j']
  ·rintro c st2 ⟨rfl,i,j,o,ac,bc,rfl,m,xl,il,ia,jl,jb⟩;lia
  rintro c st2 ⟨rfl,⟨r,er,sr⟩|⟨i,j,o,ac,bc,rfl,m,xl,il,ia,jl,jb⟩⟩
  ·obtain⟨c0,c⟩:=c;cases er;exact Z6 #[S1,r,rfl,sr]
  refine Z3<|ZeQ<|Zb9 #[rfl,?_];refine Z3 (ZbH (ZaH (I:=λy c st'=>Same st st'/\∃i j o g ac bc,c=(Zd,i,j,o,g,ac,bc)/\Hi a b o i j/\x+1+i+j<a.size+b.size/\0<i/\i<=a.size/\1<j/\j<=b.size)
   (Q:=λc st'=>Same st st'/\((∃r,c.1=Za r/\Srt (a.toList++b.toList) r)∨∃i j o g ac bc,c=(Zd,i,j,o,g,ac,bc)/\Hi a b o i j/\x+1+i+j<a.size+b.size/\0<i/\i<=a.size/\1<j/\j<=b.size)) ?_ ?_ #[S1,i,j,o,_,_,_,rfl,m,xl,il,ia,jl,jb]) ?_)
  ·clear m xl il ia jl jb hx s1 g1 g2 g1' g2' na nb;rintro y c st2 _ _ ⟨S2,i,j,o,g,ac,bc,rfl,m,xl,il,ia,jl,jb⟩;refine ZbH (Q:=MgQ st (Srt<|a.toList++b.toList) λc:Nat×Nat×Array Zak×Nat×Nat×Nat=>Hi a b c.2.2.1 c.1 c.2.1/\x+1+c.1+c.2.1<a.size+b.size/\0<c.1/\c.1<=a.size/\1<c.2.1/\c.2.1<=b.size) ?_ λr st' h=>by cases h with|fin S f=>exact#[S,.inl #[_,rfl,f]]|brk S f=>exact#[S,.inr #[_,_,_,_,_,_,rfl,f]]|go S f=>exact#[S,_,_,_,_,_,_,rfl,f]
   dsimp -zeta only;extract_lets -merge -useContext -underBinder z1 z2 z3 z4 z5 z6 z7 z8 z9 z10 z11 jp;refine Jwm (jp ()) λg'=>?_
   have S3:=S2.more g';have jm:j-1<b.size:=ZcO (ZaE jl) jb;obtain⟨p,ep,ip⟩:=Rb.ik (j-1) jm;refine Z3 (Zdq<|Z3<|JM ep<|Z3<|Xt (base:=0) (n:=i) (hint:=i-1) (S3.kind.trans hk) (ZcP il Zc2) (by rw[ZbD];exact ia) ip Ra.ik (λu v _ uv hv=>Ra.so u v uv<|Z4 hv<|by rw[ZbD];exact ia) λk kn f1 f2=>?_);rw[kv ep]at f1 f2;rw[ZbD]at f1 f2;dsimp -zeta only;extract_lets -merge -useContext -underBinder y0 y1 jp2;have H2:∀i1 o1,Hi a b o1 i1 j->i1<=i->0<i1->(∀t,t<i1->K a t<=K b (j-1))->wpS (Zz pr wd) A E s (jp2 () i1 o1) (MgQ st (Srt<|a.toList++b.toList) λc:Nat×Nat×Array Zak×Nat×Nat×Nat=>Hi a b c.2.2.1 c.1 c.2.1/\x+1+c.1+c.2.1<a.size+b.size/\0<c.1/\c.1<=a.size/\1<c.2.1/\c.2.1<=b.size) _:=λi1 o1 m1 ii l1 f=>by
    have m2:=m1.pB (ZaE jl) ep λt _ h2 _=>f t h2
    refine Z3<|JM ep<|JO (i:=j-1) (j:=1) (λg=>Z6<|.fin S3<|m2.fb g h1) λg=>?_
    have g':1<j-1:=ZaA (Zaz jl)<|ZP g;have im:i1-1<a.size:=ZcO l1<|ZC ii ia;obtain⟨q,eq,iq⟩:=Ra.ik (i1-1) im;refine Z3 (JM eq<|Z3<|Xt (base:=0) (n:=j-1) (hint:=j-1-1) (S3.kind.trans hk) (ZcP (ZaE g') Zc2) (by rw[ZbD];exact Zaa jm) iq Rb.ik (λu v _ uv hv=>Rb.so u v uv<|ZbQ hv<|by rw[ZbD];exact jm) λk kn f1 f2=>?_);rw[kv eq]at f1 f2;rw[ZbD]at f1 f2;dsimp -zeta only;extract_lets -merge -useContext -underBinder y2 y3 jp3;have H3:∀j2 o2,Hi a b o2 i1 j2->j2<=j-1->1<j2->(∀t,t<j2->K b t<=K a (i1-1))->wpS (Zz pr wd) A E s (jp3 () j2 o2) (MgQ st (Srt<|a.toList++b.toList) λc:Nat×Nat×Array Zak×Nat×Nat×Nat=>Hi a b c.2.2.1 c.1 c.2.1/\x+1+c.1+c.2.1<a.size+b.size/\0<c.1/\c.1<=a.size/\1<c.2.1/\c.2.1<=b.size) _:=λj2 o2 m3 jj l2 f=>by
     have m4:=m3.pA l1 eq λt _ h2 _=>f t h2
     refine Z3<|JM eq<|JO (i:=i1-1) (j:=0) (λg=>Z6<|.fin S3<|m4.dn<|.inl g) λg=>?_
     have pp:x+1+(i1-1)+j2<a.size+b.size:=05;have i':=Zaa im;have j':=Zaa<|Zah jj jm;exact Qb (λ_=>Z6<|.brk S3 #[m4,pp,ZaW g,i',l2,j']) λ_=>Z6<|.go S3 #[m4,pp,ZaW g,i',l2,j']
    refine Qb (λ_=>?_) λg=>?_
    ·have m3:=m2.cB (k:=k) kn (λt h1 h2 _=>f2 t h1<|by rw[ZbD];exact h2) λt _ h2 _=>Ra.so t (i1-1) (Zaz h2) im
     refine JO (i:=k) (j:=1) (λg=>Z6<|.fin S3<|m3.fb g h1) λg=>JO (i:=k) (j:=0) (λg=>Z6<|.fin S3<|m3.dn<|.inr g) λg2=>?_
     exact H3 k _ m3 kn (ZaA (ZaW g2)<|ZP g) λt h1=>f1 t (ZA _) h1
    ·have k0:k=j-1:=Zca kn<|ZdD<|Ze1.mp<|ZaX.mp g;subst k0;exact H3 (j-1) _ m2 (Zm _) g' λt h1=>f1 t (ZA _) h1
   refine Qb (λ_=>?_) λg=>?_
   ·have m3:=m.cA (k:=k) kn (λt h1 h2 _=>f2 t h1<|by rw[ZbD];exact h2) λt _ h2 _=>Rb.so t (j-1) (Zaz h2) jm
    exact JO (i:=k) (j:=0) (λg=>Z6<|.fin S3<|m3.dn<|.inl g) λg=>H2 k _ m3 kn (ZaW g) λt h1=>f1 t (ZA _) h1
   ·have k0:k=i:=Zca kn<|ZdD<|Ze1.mp<|ZaX.mp g;subst k0;exact H2 k _ m (Zm _) il λt h1=>f1 t (ZA _) h1
  ·rintro c st2 ⟨S2,i,j,o,g,ac,bc,rfl,m⟩;exact#[S2,.inr #[i,j,o,g,ac,bc,rfl,m]]
  rintro c st2 ⟨S2,⟨r,er,sr⟩|⟨i,j,o,g,ac,bc,rfl,m⟩⟩
  ·obtain⟨c0,c⟩:=c;cases er;exact Z6 #[S2,r,rfl,sr]
  refine Z3<|Zdq<|Z6 #[S2.more _,i,j,o,_,rfl,m]
 ·rintro c st1 ⟨S1,i,j,o,g,rfl,m,xl,il,ia,jl,jb⟩;lia
 ·rintro⟨c0,c⟩ st1 ⟨S1,r,er,sr⟩;cases er;exact Z6<|h r _ sr S1
end
theorem Jqs:∀(l:Tt)(n:Nat)(xs:Tg)(t:Nat),sa+n+l.length<=xs.size->((l.zipIdx n).foldl (λa (q:Zak×Nat)=>a.setIfInBounds (sa+q.2) q.1) xs)[t]?=if sa+n<=t/\t<sa+n+l.length then l[t-(sa+n)]? else xs[t]?
 |[],n,xs,t,_=>by rw[if_neg<|by simp only[ZbZ];lia];rfl
 |p::l,n,xs,t,h=>by
  simp only[ZN]at h ⊢;rw[List.zipIdx_cons,Zfj,Jqs l (n+1) _ t (by rw[Ze8];lia),ZcB];dsimp only;by_cases e:sa+n=t
  ·subst e;rw[if_neg 05,if_pos rfl,if_pos 05,if_pos 05,Zec];rfl
  ·rw[if_neg e];by_cases g:sa+(n+1)<=t/\t<sa+(n+1)+l.length
   ·rw[if_pos g,if_pos 05,show t-(sa+n)=t-(sa+(n+1))+1 by lia];rfl
   ·rw[if_neg g,if_neg 05]
def lay(sa:Nat)(m xs:Tg):Tg:=m.toList.zipIdx.foldl (λa (q:Zak×Nat)=>a.setIfInBounds (sa+q.2) q.1) xs
theorem Jxf{m xs:Tg}(h:sa+m.size<=xs.size)(t:Nat):(lay sa m xs)[t]?=if sa<=t/\t<sa+m.size then m[t-sa]? else xs[t]?:=by
 have:=Jqs m.toList 0 xs t (sa:=sa)<|by simpa using h
 unfold lay;simpa using this
theorem J3i{m xs:Tg}(h:sa+m.size<=xs.size)(t:Nat):K (lay sa m xs) t=if sa<=t/\t<sa+m.size then K m (t-sa)else K xs t:=by
 have:=Jxf h t;by_cases g:sa<=t/\t<sa+m.size
 ·rw[if_pos g]at this ⊢;exact K_congr this
 ·rw[if_neg g]at this ⊢;exact K_congr this
theorem Jtu(l:Tt):∀(mid pre post:Tt)(n:Nat),mid.length=l.length->pre.length=sa+n->((l.zipIdx n).foldl (λa (q:Zak×Nat)=>a.setIfInBounds (sa+q.2) q.1) (pre++(mid++post)).toArray).toList=pre++(l++post):=by induction l with|nil=>intro mid pre post n h _;rw[Zcy.mp h];rfl|cons p l ih=>intro mid pre post n h e;obtain⟨q,mid,rfl⟩:=List.exists_cons_of_length_eq_add_one h;rw[List.zipIdx_cons,Zfj,List.setIfInBounds_toArray];dsimp only;rw[<-e,ZcF _ _<|Zm _,Zec,ZaK,ZbA,List.append_cons pre p<|mid++post,ih mid (pre++[p]) post (n+1) (Nat.succ.inj h) (by rw[Z7,e];rfl),<-List.append_cons];rfl
theorem Jtv{m xs:Tg}(h1:sa<=sb)(h2:sb<=e)(h3:e<=xs.size)(h:m.toList.Perm<|(xs.extract sa sb).toList++(xs.extract sb e).toList):m.size=e-sa/\(lay sa m xs).Perm xs:=by
 have ex:xs.toList=(xs.extract 0 sa).toList++((xs.extract sa e).toList++(xs.extract e xs.size).toList):=by rw[<-Zae,<-VP xs (ZA _) (ZC h1 h2),<-VP xs (ZA _) h3];simp
 rw[<-VP xs h1 h2]at h;have hl:=h.length_eq;have lm:(xs.extract sa e).toList.length=e-sa:=by rw[ZM,Zc6,Zb3 h3]
 refine#[hl.trans lm,ZcL.mpr ?_];unfold lay;have ey:=Jtu (sa:=sa) m.toList (xs.extract sa e).toList (xs.extract 0 sa).toList (xs.extract e xs.size).toList 0 hl.symm<|by rw[ZM,Zc6,Zb3<|ZC (ZC h1 h2) h3];rfl
 rw[<-ex]at ey;rw[ey];conv=>rhs;rw[ex]
 exact(h.append_right _).append_left _
def So(xs:Tg)(i j:Nat):Prop:=∀t u,i<=t->t<=u->u<j->K xs t<=K xs u
structure Pd(xs:Tg)(p:Wa)(B:Nat->Nat)(lo:Nat):Prop where
 b0:B 0=0
 bl:B p.size=lo
 up:∀k,k<p.size->B k<B (k+1)
 ix:∀k,k<p.size->∃w,p[k]?=Za (B k,B (k+1)-B k,w)
 so:∀k,k<p.size->So xs (B k) (B<|k+1)
structure Bs(a₀:Tg)(st:Za9):Prop where
 perm:(ZL st).Perm a₀
 kind:kindOf st=Zf8
 ok:Zd7 st=Zd
theorem Bs.ik{a₀:Tg}{st:Za9}(h:Bs a₀ st)(h0:IntKeys a₀)(i:Nat)(hi:i<(ZL st).size):∃p,(ZL st)[i]?=Za p/\Ik p:=#[(ZL st)[i],getElem?_pos _ i hi,h0 _<|(ZcL.mp h.perm).mem_iff.mp 03]
section
variable{xs:Tg}{p:Wa}{B:Nat->Nat}{lo:Nat}
theorem Pd.mono(P:Pd xs p B lo):∀{v:Nat},u<=v->v<=p.size->B u<=B v
 |0,h,_=>by rw[Ze1.mp h];exact Zm _
 |v+1,h,h'=>by
  rcases Zgh u (v+1)with g|g
  ·exact ZC (P.mono (v:=v) 05 05)<|Zaa<|P.up v 05
  ·rw[show u=v+1 by lia];exact Zm _
theorem Pd.ge(P:Pd xs p B lo):∀{v:Nat},v<=p.size->v<=B v
 |0,_=>ZA _
 |v+1,h=>Zah (P.ge (v:=v) 05)<|P.up v h
theorem Jpt(x:Nat×Nat×Nat)(hi:i+1<p.size):((p.setIfInBounds i x).eraseIdxIfInBounds<|i+1).size=p.size-1:=by rw[Ze9,dif_pos (by simpa using hi),Array.size_eraseIdx,Ze8]
theorem Pd.merged{i w:Nat}(P:Pd xs p B lo)(hi:i+1<p.size)(out:∀t,t<B i∨B (i+1+1)<=t->K ys t=K xs t)(so:So ys (B i)<|B<|i+1+1):
  Pd ys ((p.setIfInBounds i (B i,B (i+1)-B i+(B (i+1+1)-B (i+1)),w)).eraseIdxIfInBounds<|i+1) (λk=>if k<=i then B k else B (k+1)) lo:=by
 have sz:=Jpt (i:=i) (p:=p) (B i,B (i+1)-B i+(B (i+1+1)-B (i+1)),w) hi;refine#[by simpa using P.b0,?_,λk hk=>?_,λk hk=>?_,λk hk=>?_]
 ·rw[sz,if_neg 05,show p.size-1+1=p.size by lia];exact P.bl
 all_goals rw[sz]at hk
 ·by_cases a:k+1<=i
  ·rw[if_pos 05,if_pos a];exact P.up k 05
  ·rw[if_neg a];by_cases b:k<=i
   ·rw[if_pos b];exact ZbQ (P.up k 05)<|P.up (k+1) 05
   ·rw[if_neg b];exact P.up (k+1) 05
 ·rw[Ze9,dif_pos (by simpa using hi),Array.getElem?_eraseIdx];by_cases a:k<i+1
  ·rw[if_pos a,ZcB,if_pos<|show k<=i by lia];by_cases b:i=k
   ·subst b;rw[if_pos rfl,if_pos 05,if_neg 05];have h1:=P.up i 05;have h2:=P.up (i+1) 05;exact#[w,by rw[show B (i+1+1)-B i=B (i+1)-B i+(B (i+1+1)-B (i+1)) by lia]]
   ·rw[if_neg b,if_pos 05];exact P.ix k 05
  ·rw[if_neg a,ZcB,if_neg 05,if_neg 05,if_neg 05];exact P.ix (k+1) 05
 ·have eq:∀{j:Nat},j<p.size->(B (j+1)<=B i∨B (i+1+1)<=B j)->So ys (B j) (B<|j+1):=λ{j} hj h t u h1 h2 h3=>by rw[out t 05,out u 05];exact P.so j hj t u h1 h2 h3
  by_cases a:k+1<=i
  ·rw[if_pos 05,if_pos a];exact eq 05<|.inl<|P.mono a 05
  ·rw[if_neg a];by_cases b:k<=i
   ·rw[if_pos b,show k=i by lia];exact so
   ·rw[if_neg b];exact eq 05<|.inr<|P.mono 05 05
end
section
variable{pr:ZD}{wd:ZV}{A:ZH}{E:QvT}{s:Zk}{st:Za9}{a₀:Tg}
theorem Jzb(h:Q ⟨⟩ x):wpS (Zz pr wd) A E s (set x:StateT Za9 Sem PUnit) Q st:=by unfold wpS;rw[StateT.run_set];exact Zn #[rfl,h]
theorem So.run{xs:Tg}(ik:∀i,i<xs.size->∃p,xs[i]?=Za p/\Ik p)(h:So xs i j)(hj:j<=xs.size):Run (xs.extract i j)/\∀t,t<j-i->K (xs.extract i j) t=K xs (i+t):=by
 have g:∀t,t<j-i->(xs.extract i j)[t]?=xs[i+t]?:=λt ht=>by rw[Array.getElem?_extract,if_pos 05]
 have sz:(xs.extract i j).size=j-i:=by rw[Zc6];lia
 refine#[#[λt ht=>?_,λt u tu hu=>?_],λt ht=>K_congr<|g t ht]
 ·rw[sz]at ht;rw[g t ht];exact ik _ 05
 ·rw[sz]at hu;rw[K_congr<|g t 05,K_congr<|g u hu];exact h _ _ 05 05 05
theorem J1e{xs m:Tg}{x y z u v:Nat}(h1:x<=u)(h2:u<y)(h3:y<=v)(h4:v<=z)(hz:v<=xs.size)(so1:So xs x y)(so2:So xs y z)(f1:∀t,x<=t->t<u->K xs t<=K xs y)(f2:∀t,u<=t->t<y->K xs y<=K xs t) (g1:∀t,y<=t->t<v->K xs t<=K xs (y-1))(g2:∀t,v<=t->t<z->K xs (y-1)<=K xs t)(ms:m.size=v-u)(mp:m.toList.Perm<|(xs.extract u y).toList++(xs.extract y v).toList)(mo:Ord (· <= ·) m.toList):So (lay u m xs) x z/\∀t,t<x∨z<=t->K (lay u m xs) t=K xs t:=by
 have e:u+m.size=v:=05;have kl:=J3i (sa:=u) (m:=m) (xs:=xs) 05;rw[e]at kl;have y1:y-1<y:=ZcP (Zah (ZA _) h2) Zc2;have y2:∀{t},t<y->t<=y-1:=Zaz;have mid:∀t,t<m.size->K xs y<=K m t/\K m t<=K xs (y-1):=λt ht=>by
  have hm:m[t]∈m.toList:=03;rw[K_eq ht];rcases ZK.mp (mp.mem_iff.mp hm)with w|w
  ·obtain⟨r,a1,a2,_,e⟩:=V7 w;rw[show numOf m[t].1=K xs r from e];exact#[f2 r a1 a2,so1 r _ (ZC h1 a1) (y2 a2) y1]
  ·obtain⟨r,a1,a2,_,e⟩:=V7 w;rw[show numOf m[t].1=K xs r from e];exact#[so2 _ r (Zm _) a1<|Z4 a2 h4,g1 r a1 a2]
 have mm:∀t r,t<=r->r<m.size->K m t<=K m r:=λt r tr hr=>by
  rcases Zdr tr with w|w
  ·rw[K_eq<|ZbQ w hr,K_eq hr];exact(Zbe.mp mo) t r (ZbQ w hr) hr w
  ·rw[w];exact ZJ _
 have lk:=f2 (y-1) (y2 h2) y1;have off:∀{t},u<=t->t<v->t-u<m.size:=λa b=>by rw[ms];exact Nat.sub_lt_sub_right a b
 refine#[λt r a b c=>?_,λt ht=>by rw[kl,if_neg 05]];rw[kl,kl];by_cases t1:t<u
 ·have q1:=f1 t a t1;rw[if_neg λw=>ZaX.mpr w.1 t1];by_cases r1:r<u
  ·rw[if_neg λw=>ZaX.mpr w.1 r1];exact so1 t r a b<|ZbQ r1 h2
  have r1:=ZaX.mp r1;by_cases r2:r<v
  ·rw[if_pos #[r1,r2]];exact Zan q1 (mid _<|off r1 r2).1
  ·rw[if_neg λw=>r2 w.2];exact Zan q1<|Zan lk<|g2 r (ZaX.mp r2) c
 have t1:=ZaX.mp t1;have r1:=ZC t1 b;by_cases t2:t<v
 ·rw[if_pos #[t1,t2]];by_cases r2:r<v
  ·rw[if_pos #[r1,r2]];exact mm _ _ (Nat.sub_le_sub_right b u)<|off r1 r2
  ·rw[if_neg λw=>r2 w.2];exact Zan (mid _<|off t1 t2).2 (g2 r (ZaX.mp r2) c)
 ·have t2:=ZaX.mp t2;rw[if_neg λw=>ZaX.mpr t2 w.2,if_neg λw=>ZaX.mpr (ZC t2 b) w.2];exact so2 t r (ZC h3 t2) b c
theorem So.join(so1:So xs x y)(so2:So xs y z)(h:∀t u,x<=t->t<y->y<=u->u<z->K xs t<=K xs u):So xs x z:=λt u a b c=>by
 by_cases u1:u<y
 ·exact so1 t u a b u1
 by_cases t1:t<y
 ·exact h t u a t1 (ZaX.mp u1) c
 ·exact so2 t u (ZaX.mp t1) b c
theorem Jv1{lo i:Nat}{Q:Bool->Za9->Prop}(hB:Bs a₀ st)(h0:IntKeys a₀)(P:Pd (ZL st) (ZZ st) B lo)(hi:i+1<(ZZ st).size)(hl:lo<=a₀.size) (h:∀st',Bs a₀ st'->Pd (ZL st') (ZZ st') (λk=>if k<=i then B k else B (k+1)) lo->(ZZ st').size+1=(ZZ st).size->(∀t,lo<=t->K (ZL st') t=K (ZL st) t)->Q Zh st'):wpS (Zz pr wd) A E s (mergeAt' i) Q st:=by
 obtain⟨w,e1⟩:=P.ix i<|ZaE hi;obtain⟨w2,e2⟩:=P.ix (i+1) hi;have u1:=P.up i<|ZaE hi;have u2:=P.up (i+1) hi;have u3:B (i+1+1)<=lo:=by rw[<-P.bl];exact P.mono hi<|Zm _
 have so1:=P.so i<|ZaE hi;have so2:=P.so (i+1) hi;have u4:B (i+1+1)<=(ZL st).size:=by rw[hB.perm.size_eq];exact ZC u3 hl
 have u5:=Z4 u2 u4;have ik:=hB.ik h0;have next:∀{ys:Tg}{g:Nat},ys.Perm (ZL st)->So ys (B i) (B<|i+1+1)->(∀t,t<B i∨B (i+1+1)<=t->K ys t=K (ZL st) t)->Q Zh (Zfd (kindOf st) ys (((ZZ st).setIfInBounds i (B i,B (i+1)-B i+(B (i+1+1)-B (i+1)),w)).eraseIdxIfInBounds<|i+1) g<|Zd7 st):=λ{ys g} p so out=>by have z:=Jpt (i:=i) (p:=ZZ st) (B i,B (i+1)-B i+(B (i+1+1)-B (i+1)),w) hi;exact h _ #[p.trans hB.perm,hB.kind,hB.ok] (P.merged (w:=w) hi out so) ((congrArg (· + 1) z).trans<|Nat.sub_add_cancel<|Zah (ZA _) hi) λt ht=>out t<|.inr<|ZC u3 ht
 have kv:∀{j:Nat}{p:Zak},(ZL st)[j]?=Za p->kd p=K (ZL st) j:=λe=>by unfold K;rw[e]
 refine Z3<|Ze0 ?_;rw[e1,e2];refine Z3<|Jzb ?_;clear h P e1 e2 u3 hl hi;generalize B (i+1+1)=z at *;generalize B (i+1)=y at *;generalize B i=x at *;obtain⟨pb,eb,ib⟩:=ik y u5;have y1:y-1<y:=ZcP (Zah (ZA _) u1) Zc2;obtain⟨pa,ea,ia⟩:=ik (y-1)<|ZbQ y1 u5;have n1:x+(y-x)=y:=ZdY<|Zaa u1;have n2:y+(z-y)=z:=ZdY<|Zaa u2;refine Z3 (JM eb<|Z3<|Xt (arr:=ZL st) (base:=x) (n:=y-x) (hint:=0) hB.kind (Zd8 u1) (by rw[n1];exact Zaa u5) ib ik (λu v a b c=>so1 u v a b<|by rw[<-n1];exact c) λk kn f1 f2=>?_);rw[kv eb]at f1 f2;rw[n1]at f2;refine JO (i:=y-x-k) (j:=0) (λg=>Z6<|next (ZdV _) (so1.join so2 λt u a b c d=>Zan (f1 t a ?_)<|so2 y u (Zm _) c d) λ_ _=>rfl) λg=>?_
 ·have:=ZdD g;lia
 have ku:x+k<y:=by have:=Nat.lt_of_sub_ne_zero g;lia
 have er:x+k+(y-x-k)=y:=by rw[Nat.sub_sub];exact ZdY<|Zaa ku
 rw[er];refine Z3 (JM ea<|Z3<|Xt (arr:=ZL st) (base:=y) (n:=z-y) (hint:=z-y-1) hB.kind (ZcP (Zd8 u2) Zc2) (by rw[n2];exact u4) ia ik (λu v a b c=>so2 u v a b<|by rw[<-n2];exact c) λk2 kn2 g1 g2=>?_);rw[kv ea]at g1 g2;rw[n2]at g2;refine JO (i:=k2) (j:=0) (λc=>Z6<|next (ZdV _) (so1.join so2 λt u a b c' d=>Zan (so1 t (y-1) a (Zaz b) y1)<|g2 u (by rw[c];exact c') d) λ_ _=>rfl) λc=>?_
 have v4:y+k2<=z:=by rw[<-n2];exact ZdZ kn2 y
 have v5:=ZC v4 u4;extract_lets -merge -useContext -underBinder x1 y1 jp;have H:∀m st',Srt (((ZL st).extract (x+k) y).toList++((ZL st).extract y<|y+k2).toList) m->Same (Zfd (kindOf st) (ZL st) (((ZZ st).setIfInBounds i (x,y-x+(z-y),w)).eraseIdxIfInBounds<|i+1) (gallopOf st)<|Zd7 st) st'->wpS (Zz pr wd) A E s (jp m) Q st':=by
  rintro m _ ⟨mp,mo⟩ ⟨gg,rfl⟩;obtain⟨ms,lp⟩:=Jtv (Zaa ku) (Zas _ _) v5 mp;obtain⟨so,out⟩:=J1e (Zas x k) ku (Zas _ _) v4 v5 so1 so2 f1 f2 g1 g2 ms mp mo;have hq:=next (g:=gg) lp so out
  have fn:(Zd7 st).isNone=Zh:=by rw[hB.ok];rfl
  rw[<-fn]at hq;exact Z3<|Zdq<|Z3<|Ze0<|Z6 hq
 have R1:=So.run ik (λt u a b c=>so1 t u (ZC (Zas _ _) a) b c) (Zaa u5) (i:=x+k);have R2:=So.run ik (λt u a b c=>so2 t u a b<|Z4 c v4) v5 (i:=y);have z1:((ZL st).extract (x+k) y).size=y-(x+k):=by rw[Zc6,Zb3<|Zaa u5]
 have z2:((ZL st).extract y<|y+k2).size=k2:=by rw[Zc6,Zb3 v5,Zdx]
 have q1:0<((ZL st).extract (x+k) y).size:=by rw[z1];exact Zd8 ku
 have q2:0<k2:=ZaW c;have d2:y+k2-y=k2:=Zdx ..;rw[d2]at R2;have p1:∀t,t<((ZL st).extract (x+k) y).size->K ((ZL st).extract y<|y+k2) 0<=K ((ZL st).extract (x+k) y) t:=λt ht=>by rw[z1]at ht;rw[R1.2 t ht,R2.2 0 q2];exact f2 _ (Zas _ _) 05
 have p2:∀t,t<((ZL st).extract y<|y+k2).size->K ((ZL st).extract y<|y+k2) t<=K ((ZL st).extract (x+k) y) (((ZL st).extract (x+k) y).size-1):=λt ht=>by rw[z2]at ht;rw[z1]at q1;rw[z1,R1.2 _<|ZcP q1 Zc2,R2.2 t ht,show x+k+(y-(x+k)-1)=y-1 by lia];exact g1 _ (Zas _ _)<|Zdb ht y
 rw[<-z2]at q2;exact Qb (λ_=>Z3<|J1m hB.kind R1.1 R2.1 q1 q2 p1 p2 H) λ_=>Z3<|J1l hB.kind R1.1 R2.1 q1 q2 p1 p2 H
end
def Ch(lo:Nat)(st st':Za9):Prop:=∃ys,st'=setArr st ys/\ys.Perm (ZL st)/\∀t,t<lo->K ys t=K (ZL st) t
theorem Ch.rfl{lo:Nat}{st:Za9}:Ch lo st st:=#[ZL st,by cases st;exact Zgi _,ZdV _,λ_ _=>Zgi _]
theorem Ch.set{lo:Nat}{st st':Za9}(h:Ch lo st st'){ys:Tg}(p:ys.Perm<|ZL st')(k:∀t,t<lo->K ys t=K (ZL st') t):Ch lo st (setArr st' ys):=by obtain⟨xs,e,p',k'⟩:=h;subst e;exact#[ys,Zgi _,p.trans p',λt ht=>(k t ht).trans<|k' t ht]
theorem Ch.bs{lo:Nat}{a₀:Tg}{st st':Za9}(h:Ch lo st st')(b:Bs a₀ st):Bs a₀ st':=by obtain⟨xs,e,p,_⟩:=h;subst e;exact#[p.trans b.perm,b.kind,b.ok]
section
variable{pr:ZD}{wd:ZV}{A:ZH}{E:QvT}{s:Zk}{st:Za9}{a₀:Tg}{lo:Nat}
theorem Xs(hB:Bs a₀ st)(h0:IntKeys a₀)(hi:i<a₀.size)(hj:j<a₀.size)(h:Q (Za<|decide (K (ZL st) i<K (ZL st) j)) st):wpS (Zz pr wd) A E s (ltAt' i j) Q st:=by have sz:(ZL st).size=a₀.size:=hB.perm.size_eq;obtain⟨⟨p,p2⟩,e1,n,t,h1⟩:=hB.ik h0 i 00;obtain⟨⟨q,q2⟩,e2,m,u,h2⟩:=hB.ik h0 j 00;cases h1;cases h2;unfold K at h;rw[e1,e2]at h;exact wpS_ltAt hB.kind e1 e2 h
theorem Jz0{xs:Tg}(h:lo<=a)(h':a<=b)(hb:b<xs.size)(so:So xs lo b)(f1:∀i,lo<=i->i<a->K xs i<=K xs b)(f2:∀i,a<=i->i<b->K xs b<=K xs i):So (bubble xs b<|b-a) lo (b+1)/\∀t,t<lo->K (bubble xs b<|b-a) t=K xs t:=by
 have kb:=K_bubble (d:=b-a) hb<|Zff _ _;rw[Nat.sub_sub_self h']at kb;refine#[λt u h1 h2 h3=>?_,λt ht=>by rw[kb,if_neg 00,if_neg 00]];have h3:=ZbK h3;rw[kb,kb];rcases Nat.lt_trichotomy t a with t1|t1|t1
 ·rw[if_neg<|Z5 t1,if_neg λw=>Nat.lt_asymm t1 w.1];have tb:=Z4 t1 h';split
  ·exact f1 t h1 t1
  ·split
   ·exact so t (u-1) h1 00 00
   ·exact so t u h1 h2 00
 ·rw[if_pos t1];split
  ·exact ZJ _
  ·rw[if_pos 00];exact f2 _ 00 00
 ·rw[if_neg<|ZaN t1,if_pos #[t1,ZC h2 h3],if_neg<|ZaN<|Z4 t1 h2,if_pos #[Z4 t1 h2,h3]];exact so _ _ 00 (Nat.sub_le_sub_right h2 1) 00
theorem J1i(h0:IntKeys a₀)(hn:lo+n<=a₀.size)(hok:ok<=n)(hB:Bs a₀ st)(hs:So (ZL st) lo<|lo+ok)(h:∀st',Ch lo st st'->So (ZL st') lo (lo+n)->Q Zh st'):wpS (Zz pr wd) A E s (binarySort' lo n ok) Q st:=by
 refine Z3<|ZbH (ZaH (I:=λk c st'=>c=(Zd,())/\Ch lo st st'/\So (ZL st') lo (lo+min k n)) (Q:=λc st'=>c=(Zd,())/\Ch lo st st'/\So (ZL st') lo (lo+n)) ?_ ?_ #[rfl,Ch.rfl,λt u h1 h2 h3=>?_]) ?_
 ·clear hs h hok;rintro k c st1 _ kn ⟨rfl,C,so⟩;rw[Zb3<|Zaa kn]at so;have hB':=C.bs hB;have kz:lo+k<a₀.size:=Z4 (Zdb kn lo) hn;refine Z3 (ZbH (ZaH (I:=λx c st'=>st'=st1/\∃l r,c=(Zd,l,r)/\l<=r/\r<=k/\r-l<=k-x/\(∀i,lo<=i->i<lo+l->K (ZL st1) i<=K (ZL st1) (lo+k))/\∀i,lo+r<=i->i<lo+k->K (ZL st1) (lo+k)<=K (ZL st1) i) (Q:=λc st'=>st'=st1/\∃l,c=(Zd,l,l)/\l<=k/\(∀i,lo<=i->i<lo+l->K (ZL st1) i<=K (ZL st1) (lo+k))/\∀i,lo+l<=i->i<lo+k->K (ZL st1) (lo+k)<=K (ZL st1) i) ?_ ?_ #[rfl,0,k,rfl,ZA _,Zm _,Zm _,λi a b=>absurd a<|ZfU.mpr b,λi a b=>absurd a<|ZfU.mpr b]) ?_)
  ·clear kn hn;rintro x c st2 _ hx ⟨rfl,l,r,rfl,lr,rk,d,f1,f2⟩;refine Qb (λg=>?_) λg=>?_
   ·obtain rfl:l=r:=Zca lr g;exact Z6 #[rfl,l,rfl,rk,f1,f2]
   have g:l<r:=ZfU.mp g;have m1:l<=(l+r)/2:=00;have m2:(l+r)/2<r:=00;have mk:=Zdb (Z4 m2 rk) lo;have dx:k-(x+1)=k-x-1:=rfl;refine Z3<|Xs hB' h0 kz (ZbQ mk kz)<|VH (λless=>?_) λless=>?_
   ·exact Z6 #[rfl,l,(l+r)/2,rfl,m1,Zaa<|Z4 m2 rk,00,f1,λi h1 h2=>Zan (Zbb less)<|so _ i (Zas _ _) h1 h2]
   ·exact Z6 #[rfl,(l+r)/2+1,r,rfl,m2,rk,00,λi h1 h2=>Zan (so i (lo+(l+r)/2) h1 (ZbK h2) mk)<|ZcN.mp less,f2]
  ·rintro c st2 ⟨rfl,l,r,rfl,lr,rk,d,f1,f2⟩;obtain rfl:l=r:=00;exact#[rfl,l,rfl,rk,f1,f2]
  ·rintro c st2 ⟨rfl,l,rfl,lk,f1,f2⟩;obtain⟨s1,s2⟩:=Jz0 (Zas lo l) (ZdZ lk lo) (by rw[hB'.perm.size_eq];exact kz) so f1 f2;exact Z3 (Zdq<|Z6 #[rfl,C.set (bubble_perm _ _ _) s2,by rw[Zb3 kn];exact s1])
 ·rintro c st1 ⟨rfl,C,so⟩;rw[show min (max (max ok 1) n) n=n by omega]at so;exact#[rfl,C,so]
 ·by_cases z:ok=0
  ·rw[show t=u by omega];exact ZJ _
  ·exact hs t u h1 h2 00
 ·rintro c st1 ⟨rfl,C,so⟩;exact Z6<|h st1 C so
theorem Jv0{F:Nat->Option (Wy)×Nat->StateT Za9 Sem (ForInStep<|Option (Wy)×Nat)}{a n:Nat}{Q:Option (Wy)×Nat->Za9->Prop}
  (hF:∀x y R,a<=y->y<n->(K (ZL st) (lo+y)<K (ZL st) (lo+y-1)->R (.done (Zd,y)) st)->(K (ZL st) (lo+y-1)<=K (ZL st) (lo+y)->R (.yield (Zd,y+1)) st)->wpS (Zz pr wd) A E s (F x (Zd,y)) R st)(a1:1<=a)(an:a<=n)(so:So (ZL st) lo<|lo+a)
  (h:∀m,a<=m->m<=n->So (ZL st) lo (lo+m)->(m=n∨K (ZL st) (lo+m)<K (ZL st) (lo+m-1))->Q (Zd,m) st):wpS (Zz pr wd) A E s (forIn [a:n] (Zd,a) F) Q st:=by
 refine ZaH (I:=λx c st'=>st'=st/\c=(Zd,x)/\So (ZL st) lo (lo+x)) ?_ ?_ #[rfl,rfl,so]
 ·rintro x c st1 ax xn ⟨rfl,rfl,so⟩;refine hF x x _ ax xn (λg=>h x ax 00 so<|.inr g) λg=>#[rfl,rfl,λt u h1 h2 h3=>?_]
  by_cases z:u<lo+x
  ·exact so t u h1 h2 z
  have ux:u=lo+x:=Zca (ZbK h3)<|ZaX.mp z;subst ux;rcases Zdr h2 with w|w
  ·exact Zan (so t (lo+x-1) h1 (Zaz w)<|ZcP (Zah (ZA _) w) Zc2) g
  ·rw[w];exact ZJ _
 ·rintro c st1 ⟨rfl,rfl,so⟩;rw[show max a n=n by omega]at so ⊢;exact h n an (Zm _) so<|.inl rfl
def Ni(xs:Tg)(lo k:Nat):Prop:=∀t u,lo<=t->t<=u->u<lo+k->K xs u<=K xs t
theorem Ni.more(h:Ni xs lo k)(h1:1<=k)(g:K xs (lo+k)<=K xs (lo+k-1)):Ni xs lo (k+1):=λt u a b c=>by
 by_cases z:u<lo+k
 ·exact h t u a b z
 have ux:u=lo+k:=Zca (ZbK c)<|ZaX.mp z;subst ux;rcases Zdr b with w|w
 ·exact Zan g<|h t (lo+k-1) a (Zaz w)<|ZcP (Zah (ZA _) w) Zc2
 ·rw[w];exact ZJ _
theorem Ni.eq(h:Ni xs lo k)(e:∀t,K ys t=K xs t):Ni ys lo k:=λt u a b c=>by rw[e,e];exact h t u a b c
theorem J1j{n:Nat}{Q:Wy->Za9->Prop}(h0:IntKeys a₀)(hn:lo+n<=a₀.size)(h1:1<=n)(hB:Bs a₀ st)(h:∀m st',Ch lo st st'->1<=m->m<=n->So (ZL st') lo (lo+m)->Q (Za m) st'):wpS (Zz pr wd) A E s (countRun' lo n) Q st:=by
 have lt1:∀{y},y<n->lo+y<a₀.size:=λyn=>Z4 (Zdb yn lo) hn
 have lt2:∀{y},y<n->lo+y-1<a₀.size:=λyn=>Zah (Zff _ _)<|lt1 yn
 have one:∀y q,q=0->∀{xs:Tg} i,lo+(y+1)-(q+1)<=i->i<lo+(y+1)->K xs i=K xs (lo+(y+1)-1):=λy q e xs i a b=>by subst e;rw[Zca (ZbK b) a];rfl
 refine Z3 (Jv0 (lo:=lo) (λx y R ay yn d g=>?_) (Zm 1) h1 (λt u a b c=>by rw[Zca b<|ZC (ZbK c) a];exact ZJ _) λm am mn so g=>?_)
 ·exact Z3<|Xs hB h0 (lt1 yn) (lt2 yn)<|VH (λl=>Z6<|d l) λl=>Z6<|g<|ZcN.mp l
 refine JO (i:=m) (j:=n) (λ_=>Z6<|h m st Ch.rfl am mn so) λmn2=>?_
 have lt:=g.resolve_left mn2;have mn':m+1<=n:=ZaA mn mn2;clear g mn2;extract_lets -merge -useContext -underBinder jp;have H:∀st1,Ch lo st st1->Ni (ZL st1) lo (m+1)->wpS (Zz pr wd) A E s (jp ()) Q st1:=λst1 C ni=>by
  clear lt so;refine Z3<|ZeQ<|Zb9 #[rfl,?_];refine Z3 (ZbH (ZaH (I:=λx c st'=>∃q,c=(Zd,x,q)/\Ch lo st st'/\Ni (ZL st') lo x/\q+1<=x/\∀i,lo+x-(q+1)<=i->i<lo+x->K (ZL st') i=K (ZL st') (lo+x-1))
   (Q:=λc st'=>∃x q,c=(Zd,x,q)/\1<=x/\x<=n/\Ch lo st st'/\Ni (ZL st') lo x/\q+1<=x/\∀i,lo+x-(q+1)<=i->i<lo+x->K (ZL st') i=K (ZL st') (lo+x-1)) ?_ ?_ #[0,rfl,C,ni,ZdW _ _,one m 0 rfl]) ?_)
  ·rintro x c st2 mx xn ⟨q,rfl,C2,ni2,qx,e⟩;have hB2:=C2.bs hB;have x1:1<=x:=ZC (ZdW _ _) mx;refine Z3<|Xs hB2 h0 (lt1 xn) (lt2 xn)<|VH (λless=>?_) λless=>?_
   ·have n3:=ni2.more x1<|Zbb less;have ke:=Zf9 (show lo+x<=(ZL st2).size by rw[hB2.perm.size_eq];exact Zaa<|lt1 xn) e;exact Qb (λ_=>Z3<|ZfA<|Z6 #[0,rfl,C2.set (Zex _ _ _ _) λt _=>ke t,n3.eq ke,ZdW _ _,one x 0 rfl]) λ_=>Z6 #[0,rfl,C2,n3,ZdW _ _,one x 0 rfl]
   ·refine Z3<|Xs hB2 h0 (lt2 xn) (lt1 xn)<|VH (λmore=>?_) λmore=>?_
    ·exact Z6 #[x,q,rfl,x1,Zaa xn,C2,ni2,qx,e]
    ·have eq:K (ZL st2) (lo+x)=K (ZL st2) (lo+x-1):=ZdU (ZcN.mp more)<|ZcN.mp less;refine Z6 #[q+1,rfl,C2,ni2.more x1<|Int.le_of_eq eq,ZcU qx,λi a b=>?_];rw[show lo+(x+1)-(q+1+1)=lo+x-(q+1)from Nat.succ_sub_succ ..]at a;show _=K _ (lo+x);rcases Zdr (ZbK b)with w|w
     ·rw[eq];exact e i a w
     ·rw[w];rfl
  ·rintro c st2 ⟨q,rfl,C2,ni2,qx,e⟩;rw[Nat.max_eq_right mn']at ni2 qx e ⊢;exact#[n,q,rfl,h1,Zm _,C2,ni2,qx,e]
  rintro c st2 ⟨x,q,rfl,x1,xn,C2,ni2,qx,e⟩;have xz:lo+x<=a₀.size:=ZC (ZdZ xn lo) hn;dsimp -zeta only;extract_lets -merge -useContext -underBinder r0 s0 n0 q0;dsimp -zeta only[r0,n0,q0,s0];extract_lets -merge -useContext -underBinder jp2;have T:∀st3,Ch lo st st3->Ni (ZL st3) lo x->wpS (Zz pr wd) A E s (jp2 ()) Q st3:=λst3 C3 ni3=>by
   have km:=K_mirror (xs:=ZL st3) (i:=lo) (show lo+x<=(ZL st3).size by rw[(C3.bs hB).perm.size_eq];exact xz);have C4:=C3.set (Zex (ZL st3) lo (lo+x)<|(lo+x-lo)/2) λt ht=>by rw[km,if_neg λw=>ZfU.mpr ht w.1]
   refine Z3<|ZfA<|Z3<|Jv0 (lo:=lo) (a:=x) (n:=n) (λz y R ay yn d g=>Z3<|Xs (C4.bs hB) h0 (lt1 yn) (lt2 yn)<|VH (λl=>Z6<|d l) λl=>Z6<|g<|ZcN.mp l) x1 xn (λt u a b c=>?_) λk xk kn so _=>Z6<|h k _ C4 (ZC x1 xk) kn so
   show K (mirror (ZL st3) lo (lo+x)<|(lo+x-lo)/2) t<=K (mirror (ZL st3) lo (lo+x)<|(lo+x-lo)/2) u;rw[km,km,if_pos #[a,Zah b c],if_pos #[ZC a b,c]];exact ni3 _ _ 00 (Nat.sub_le_sub_left b _) 00
  have ke:=Zf9 (show lo+x<=(ZL st2).size by rw[(C2.bs hB).perm.size_eq];exact xz) e;exact Qb (c:=q>0) (λ_=>Z3<|ZfA<|T _ (C2.set (Zex _ _ _ _) λt _=>ke t)<|ni2.eq ke) λ_=>T st2 C2 ni2
 refine Qb (λ_=>?_) λg=>?_
 ·refine Z3<|Xs hB h0 (lt1 (y:=0) h1) (lt2 mn')<|VH (λrose=>Z6<|h m st Ch.rfl am mn so) λrose=>?_
  have all:∀k,lo<=k->k<lo+m->K (ZL st) k=K (ZL st) (lo+m-1):=λk a b=>by have y:=ZcP (Zah (ZA _) b) Zc2;exact ZdU (so k (lo+m-1) a (Zaz b) y)<|Zan (ZcN.mp rose)<|so lo k (Zm _) a b
  have ke:=Zf9 (show lo+m<=(ZL st).size by rw[hB.perm.size_eq];exact Zaa<|lt1 mn') all;refine Z3<|ZfA<|H _ (Ch.rfl.set (Zex _ _ _ _) λt _=>ke t)<|Ni.eq (Ni.more (λt u a b c=>?_) am<|Zbb lt) ke;rw[all t a<|Zah b c,all u (ZC a b) c];exact ZJ _
 ·refine H st Ch.rfl<|Ni.more (λt u a b c=>?_) am<|Zbb lt;have:=ZaX.mp g;rw[show t=u by omega];exact ZJ _
end
section
variable{xs:Tg}{p:Wa}{B:Nat->Nat}{lo:Nat}
theorem Pd.eq(P:Pd xs p B lo)(e:∀t,t<lo->K ys t=K xs t):Pd ys p B lo:=#[P.b0,P.bl,P.up,P.ix,λk hk t u a b c=>by have:=P.mono (show k+1<=p.size from hk)<|Zm _;rw[P.bl]at this;rw[e t 05,e u 05];exact P.so k hk t u a b c]
theorem Pd.pw(P:Pd xs p B lo)(hf:∀x,∃w,f x=(x.1,x.2.1,w)):Pd xs (p.modify j f) B lo:=by
 refine#[P.b0,by rw[Array.size_modify];exact P.bl,λk hk=>P.up k (by simpa using hk),λk hk=>?_,λk hk=>P.so k<|by simpa using hk];obtain⟨w,e⟩:=P.ix k<|by simpa using hk
 rw[Array.getElem?_modify];split
 ·rw[e];obtain⟨w',e'⟩:=hf (B k,B (k+1)-B k,w);exact#[w',by rw[Zfk,e']]
 ·exact#[w,e]
theorem Pd.push(P:Pd xs p B lo)(so:So xs lo<|lo+n)(n1:1<=n)(w:Nat):Pd xs (p.push (lo,n,w)) (λk=>if k<=p.size then B k else lo+n) (lo+n):=by
 have bl:=P.bl;refine#[by rw[if_pos<|ZA _];exact P.b0,by rw[Zfm,if_neg 05],λk hk=>?_,λk hk=>?_,λk hk=>?_];all_goals rw[Zfm]at hk;by_cases z:k<p.size
 ·rw[if_pos 05,if_pos 05];exact P.up k z
 ·rw[if_pos 05,if_neg 05,show k=p.size by lia,bl];lia
 ·obtain⟨v,e⟩:=P.ix k z;exact#[v,by rw[if_pos 05,if_pos 05,Array.getElem?_push_lt z,<-e,getElem?_pos p k z]]
 ·rw[if_pos 05,if_neg 05,show k=p.size by lia,bl,show lo+n-lo=n by lia,Array.getElem?_push_size];exact#[w,rfl]
 ·rw[if_pos 05,if_pos 05];exact P.so k z
 ·rw[if_pos 05,if_neg 05,show k=p.size by lia,bl];exact so
end
section
variable{pr:ZD}{wd:ZV}{A:ZH}{E:QvT}{s:Zk}{st:Za9}{a₀:Tg}
theorem Jx1(h0:IntKeys a₀)(hB:Bs a₀ st)(he:ZZ st=#[])(h2:2<=a₀.size)(h:∀st',(ZL st').Perm a₀->Zd7 st'=Zd->SortedTo (ZL st') a₀.size->Q () st'):wpS (Zz pr wd) A E s sortRuns' Q st:=by
 have sz:(ZL st).size=a₀.size:=hB.perm.size_eq;have P0:Pd (ZL st) (ZZ st) (λ_=>0) 0:=by rw[he];exact#[rfl,rfl,λk hk=>by simp at hk,λk hk=>by simp at hk,λk hk=>by simp at hk]
 refine Z3<|Ze0 ?_;refine Z3<|ZbH (ZaH (I:=λx c st'=>Bs a₀ st'/\∃lo B,c=(Zd,lo)/\Pd (ZL st') (ZZ st') B lo/\lo<=a₀.size/\x<=lo) (Q:=λc st'=>Bs a₀ st'/\∃B,c=(Zd,a₀.size)/\Pd (ZL st') (ZZ st') B a₀.size) ?_ ?_ #[hB,0,_,rfl,P0,05,05]) ?_
 ·rintro x c st1 _ hx ⟨hB1,lo,B,rfl,P,lz,xl⟩;refine ZbH (Q:=λr st'=>Bs a₀ st'/\((∃B,r=.done (Zd,a₀.size)/\Pd (ZL st') (ZZ st') B a₀.size)∨∃lo B,r=.yield (Zd,lo)/\Pd (ZL st') (ZZ st') B lo/\lo<=a₀.size/\x+1<=lo)) ?_ ?_;case refine_2=>
   rintro _ st' ⟨b,⟨B,rfl,P⟩|⟨lo,B,rfl,P⟩⟩
   ·exact#[b,B,rfl,P]
   ·exact#[b,lo,B,rfl,P]
  dsimp -zeta only;rw[sz];show wpS _ _ _ _ (if lo ≥ a₀.size then _ else _) _ _;split
  ·have e:lo=a₀.size:=05;exact Z6 #[hB1,.inl #[B,by rw[e],by rw[e]at P;exact P]]
  refine Z3 (J1j h0 (show lo+(a₀.size-lo)<=a₀.size by lia) 05 hB1 λm st2 C m1 mn so=>?_);dsimp -zeta only;extract_lets -merge -useContext -underBinder n0 jp;have H:∀k st3,Ch lo st1 st3->1<=k->lo+k<=a₀.size->So (ZL st3) lo (lo+k)->wpS (Zz pr wd) A E s (jp () k) (λr st'=>Bs a₀ st'/\((∃B,r=.done (Zd,a₀.size)/\Pd (ZL st') (ZZ st') B a₀.size)∨∃lo B,r=.yield (Zd,lo)/\Pd (ZL st') (ZZ st') B lo/\lo<=a₀.size/\x+1<=lo)) st3:=λk st3 C k1 ks so=>by
   have hB3:=C.bs hB1;obtain⟨ys,rfl,_,ey⟩:=C;have P3:=P.eq ey;refine Z3<|Ze0 ?_;extract_lets -merge -useContext -underBinder jp2;have T:∀st4 B4,Bs a₀ st4->Pd (ZL st4) (ZZ st4) B4 lo->So (ZL st4) lo (lo+k)->wpS (Zz pr wd) A E s (jp2 ()) (λr st'=>Bs a₀ st'/\((∃B,r=.done (Zd,a₀.size)/\Pd (ZL st') (ZZ st') B a₀.size)∨∃lo B,r=.yield (Zd,lo)/\Pd (ZL st') (ZZ st') B lo/\lo<=a₀.size/\x+1<=lo)) st4:=λst4 B4 b4 P4 so4=>
    Z3 (Zdq<|Z6 #[#[b4.perm,b4.kind,b4.ok],.inr #[lo+k,_,rfl,P4.push so4 k1 0,ks,05]])
   split
   ·refine Z3<|ZbH (ZaH (I:=λy c st'=>c=(Zd,())/\Bs a₀ st'/\(∃B,Pd (ZL st') (ZZ st') B lo)/\So (ZL st') lo (lo+k)) (Q:=λc st'=>c=(Zd,())/\Bs a₀ st'/\(∃B,Pd (ZL st') (ZZ st') B lo)/\So (ZL st') lo (lo+k)) ?_ (λ_ _ h=>h) #[rfl,hB3,#[B,P3],so]) ?_
    ·rintro y c st4 _ _ ⟨rfl,b4,⟨B4,P4⟩,so4⟩;refine Z3<|Ze0 ?_;by_cases z:(ZZ st4).size>1
     ·obtain⟨w,e⟩:=P4.ix ((ZZ st4).size-2) 05;dsimp only;rw[if_pos z,e];dsimp only;split
      ·exact Z6 #[rfl,b4,#[B4,P4],so4]
      ·refine Z3<|Jv1 (i:=(ZZ st4).size-2) b4 h0 P4 05 lz λst5 b5 P5 _ e5=>Z6 #[rfl,b5,#[_,P5],λt u a b c=>?_]
       rw[e5 t a,e5 u 05];exact so4 t u a b c
     ·dsimp only;rw[if_neg z];exact Z6 #[rfl,b4,#[B4,P4],so4]
    ·rintro c st4 ⟨rfl,b4,⟨B4,P4⟩,so4⟩;exact Z3<|Zdq<|T _ B4 #[b4.perm,b4.kind,b4.ok] (P4.pw λx=>#[_,rfl]) so4
   ·exact T _ B hB3 P3 so
  split
  ·rename_i lt;refine Z3<|ZeQ<|Zb9 #[rfl,?_];have lt':m<minRun' a₀.size a₀.size 0:=lt;refine Z3<|J1i (n:=min (a₀.size-lo)<|minRun' a₀.size a₀.size 0) h0 05 05 (C.bs hB1) so λst3 C3 so3=>?_
   refine H (min (a₀.size-lo)<|minRun' a₀.size a₀.size 0) st3 ?_ 05 05 so3;obtain⟨ys,rfl,p,e⟩:=C;obtain⟨zs,rfl,p',e'⟩:=C3;exact#[zs,rfl,p'.trans p,λt ht=>(e' t ht).trans<|e t ht]
  ·exact H m st2 C m1 05 so
 ·rintro c st1 ⟨hB1,lo,B,rfl,P,lz,xl⟩;have e:lo=a₀.size:=by rw[sz]at xl;lia
  rw[e]at P;exact#[hB1,B,by rw[e],P]
 ·rintro c st1 ⟨hB1,B,rfl,P⟩;refine Z3<|ZbH (ZaH (I:=λy c st'=>c=(Zd,())/\Bs a₀ st'/\∃B,Pd (ZL st') (ZZ st') B a₀.size/\(ZZ st').size<=a₀.size+1-y) (Q:=λc st'=>c=(Zd,())/\Bs a₀ st'/\∃B,Pd (ZL st') (ZZ st') B a₀.size/\(ZZ st').size<=1) ?_ ?_ #[rfl,hB1,B,P,?_]) ?_
  ·rintro y c st2 _ hy ⟨rfl,b2,B2,P2,l2⟩;refine Z3<|Ze0 ?_;dsimp only;split
   ·rename_i z;exact Z6 #[rfl,b2,B2,P2,z]
   ·rename_i z;have z':¬(ZZ st2).size<=1:=z;have fin:∀i,i+1<(ZZ st2).size->∀{R:Bool->Za9->Prop},(∀st3,Bs a₀ st3->(∃B,Pd (ZL st3) (ZZ st3) B a₀.size)->(ZZ st3).size+1=(ZZ st2).size->R Zh st3)->wpS (Zz pr wd) A E s (mergeAt' i) R st2:=λi hi R r=>Jv1 b2 h0 P2 hi (Zm _) λst3 b3 P3 s3 _=>r st3 b3 #[_,P3] s3
    have two:∀(c:Prop)[Decidable c],(if c then(ZZ st2).size-2-1 else(ZZ st2).size-2)+1<(ZZ st2).size:=λc _=>by split<;>lia
    refine Z3<|fin _ ?_ λst3 b3 P3 s3=>?_
    ·exact two _
    ·obtain⟨B3,P3⟩:=P3;exact Z6 #[rfl,b3,B3,P3,05]
  ·rintro c st2 ⟨rfl,b2,B2,P2,l2⟩;refine#[rfl,b2,B2,P2,?_];rw[show max 0 (ZL st).size=a₀.size by lia]at l2;lia
  ·have:=P.ge<|Zm _;rw[P.bl]at this;lia
  ·rintro c st2 ⟨rfl,b2,B2,P2,l2⟩;refine Z6<|h st2 b2.perm b2.ok λi j ij hj=>?_
   have bl:=P2.bl;have b0:=P2.b0;have one:(ZZ st2).size=1:=by
    rcases Zgh 0 (ZZ st2).size with z|z
    ·lia
    ·rw[show(ZZ st2).size=0 by lia,b0]at bl;lia
   have so:=P2.so 0 05;rw[one]at bl;exact so i j 05 ij<|by rw[bl];exact hj
end
end L3
namespace L3
open PySem PySem.Spec PyProof.Rows L2
theorem Ju3{pr:ZD}{wd:ZV}{A:ZH}{E:QvT}{s:Zk}{a:Zo}{vs:Tv}{ns:Tp}{n:Nat}{P:Fin->Zk->Prop}(ho:s.heap.get? a=Za (ZR "list" vs.toArray n))(hI:Zbs vs ns)(hl:vs.length<4096) (h:∀out ns',Zbs (ZfW out) ns'->ns'.Perm ns->ns'.Pairwise (· <= ·)->P (.done<|.ret .none) {s with heap:=sortedHeap s.heap a vs out}):Zt (Zz pr wd) A (Zb5.«list.sort» #[[.ref a],[]]) P E s:=by
 by_cases few:vs.length<64
 ·exact list_sort_tree ho hI few h
 match vs,few,hl,ho,hI,h with
 |[],few,_,_,_,_=>exact(few 01).elim
 |[_],few,_,_,_,_=>exact(few 03).elim
 |v1::v2::vs,few,hl,ho,hI,h=>
  have big:4096<=sizeLine:=01;have la:=Z0 ho;rw[list_sort_plain];refine Zc (Zgd ho rfl (Zc<|Zck (f:=λ_=>#[]) ho rfl ?_ (by simp only[Zx];lia) (ZA _)));obtain⟨c,g⟩:∃c,(s.heap.update a<|ZY λ_=>#[]).get? a=Za (ZR "list" #[] c):=#[_,Zbu ho λ_=>#[]];refine Zc (Zf6 g rfl (Zc<|Zf7 (Zc<|Zcj (ZT ?_)<|ZA _)<|by simp only[ZN]at hl ⊢;lia));have g2:(((s.heap.update a<|ZY λ_=>#[]).push<|ZR "tuple" (v1::v2::vs).toArray 0).push<|ZR "list" #[] 0).get? a=Za (ZR "list" #[] c):=Ze _<|Ze _ g;have two:¬(v1::v2::vs).toArray.size<2:=03;simp only[if_neg two];rw[keyKind_ints hI];refine Zc (Zn<|Zc<|Zar (Jx1 (a₀:=pairsOf<|v1::v2::vs) (Q:=λ_ st=>(ZL st).Perm (pairsOf<|v1::v2::vs)/\Zd7 st=Zd/\SortedTo (ZL st) (pairsOf<|v1::v2::vs).size) hI.intKeys #[ZdV _,rfl,rfl] rfl (by rw[pairsOf_size];simp) λst p f o=>#[p,f,o]) ?_ λ_ _ e=>e);rintro⟨u,st⟩ _ ⟨rfl,p,f,o⟩;obtain⟨ns',a1,a2,a3⟩:=sorted_out hI p o;refine Zc<|Zf6 g2 rfl (Zc<|Zck g2 rfl ?_ (ZA _) ?_)
  ·dsimp only;rw[f];simp only[bne_self_eq_false,Zad,if_false];exact Zn<|h _ ns' a1 a2 a3
  ·refine ZC (ZcS<|(Array.size_map ..).trans<|p.size_eq.trans<|pairsOf_size _) ?_;lia
theorem Jyt:ZfP (.type "set") "__len__"=pure (Za<|.builtin "set.__len__"):=by rw[Zfn,ZdC];kernel_rfl
section
variable{pr:ZD}{wd:ZV}{A:ZH}{E:QvT}{s:Zk}{a:Zo}
theorem Jtw(hT:s.TypeIs (.ref a) "set")(h:Q Zj s):Zt (Zz pr wd) A (Zed<|.ref a) Q E s:=by unfold Zed;refine Zc<|wpAny_specialOf hT Jyt ?_;dsimp only;rw[show splitId "set.__len__"=Za ("set","__len__")from by decide +kernel];dsimp only;refine Zc<|ZeP (b:=Zh) hT PySem.sub_set_self ?_;simp only[Zdg,Zad,if_false];rw[if_pos<|by decide +kernel];exact Zc<|wpAny_typeOf hT<|Zn h
theorem Jkt(hh:A.handled=Zd)(hS:SetI wd s.heap a ns)(hb:ns.length<4096)(hQ:∀h' d' tk ord ms,Zbs ord ms->ms.Perm ns->(∀b o,s.heap.get? b=Za o->h'.get? b=Za o)->s.heap.objs.size<h'.objs.size->Q ord {s with heap:=h',drawn:=d',toks:=tk}):
  Zt (Zz pr wd) A (collect<|.ref a) Q E s:=by
 obtain⟨o,hoo⟩:∃o,s.heap.get? a=Za o/\o.cls=.type "set":=by obtain⟨o,es,ep,t,ho,hex,_⟩:=hS;exact#[o,ho,hex.1]
 have la:=Z0 hoo.1;unfold collect;refine Zc<|Zeq<|Zaq Zee ?_;rw[Zaf Zef _];show Zt _ A.in1 (newList []>>=λl=>Zgc<|.builtin "list.__iadd__" #[[l,.ref a],[]]) _ _ s;refine Zc<|Zcj ?_<|ZA _;refine Zn #[ZaM Zcz _,Zaq ZeR ?_];rw[Zaf Zcz _];show Zt _ A.in1 (ZcH (.ref s.heap.objs.size) (.ref a)<|.ref s.heap.objs.size) _ _ _;unfold ZcH;have keep1:∀b o,s.heap.get? b=Za o->(s.heap.push<|ZR "list" #[] 0).get? b=Za o:=λb o e=>Ze _ e
 have gL:(s.heap.push<|ZR "list" #[] 0).get? s.heap.objs.size=Za (ZR "list" #[] 0):=Zv _ rfl;have hT1:Ze7 {s with heap:=s.heap.push (ZR "list" #[] 0)} (.ref a) "set":=#[o,keep1 _ _ hoo.1,hoo.2];refine Zc<|wpAny_typeOf hT1 ?_;have h1:ZeA (.ref s.heap.objs.size) (.ref a)=Zj:=by simp[ZeA,ZaN la]
 rw[if_neg<|by rw[h1];decide];refine Zc (Jtr (s:={s with heap:=s.heap.push (ZR "list" #[] 0)}) (hS.moved λo e=>keep1 _ _ e) λit h2 d2 fp ord St W keep2 le=>?_);have sz1:(s.heap.push<|ZR "list" #[] 0).objs.size=s.heap.objs.size+1:=ZdG ..;have gL2:=keep2 _ _ gL;have hT2:Ze7 {s with heap:=h2,drawn:=d2} (.ref a) "set":=#[o,keep2 _ _<|keep1 _ _ hoo.1,hoo.2];refine Zc (ZT<|Jtw (s:={s with heap:=h2,drawn:=d2}) hT2 ?_);rw[if_pos<|by decide +kernel];refine Zc<|Zb9 ?_;have nS:s.heap.objs.size∉fp:=λhb=>by
  rcases W.fp _ hb with e|e
  ·exact absurd e<|ZaN la
  ·rw[show({s with heap:=s.heap.push (ZR "list" #[] 0)}:Zk).heap.objs.size=s.heap.objs.size+1 from sz1]at e;exact absurd e<|Nat.not_le_of_gt<|Za4 _
 have bg:10<=sizeLine:=01;unfold Builtin.List.listTouch;refine Zc (Zc (Zck (f:=(·.push .none)) gL2 rfl ?_ (ZA _) (show 1<=sizeLine+1 by omega)));obtain⟨c3,g3⟩:∃c3,(h2.update s.heap.objs.size (ZY (·.push .none))).get? s.heap.objs.size=Za (ZR "list" #[.none] c3):=#[_,Zbu gL2 (·.push .none)];refine Zck (f:=(·.pop)) g3 rfl ?_ (show 1<=sizeLine by omega) (ZA _);obtain⟨c4,g4⟩:∃c4,((h2.update s.heap.objs.size (ZY (·.push .none))).update s.heap.objs.size (ZY (·.pop))).get? s.heap.objs.size=Za (ZR "list" #[] c4):=#[_,Zbu g3 (·.pop)];have keep4:∀b o,b≠s.heap.objs.size->h2.get? b=Za o->((h2.update s.heap.objs.size (ZY (·.push .none))).update s.heap.objs.size (ZY (·.pop))).get? b=Za o:=λb o nb e=>(Z1 _ _<|ZP nb).trans<|(Z1 _ _<|ZP nb).trans e
 generalize (h2.update s.heap.objs.size (ZY (·.push .none))).update s.heap.objs.size (ZY (·.pop))=h4 at g4 keep4;have st4:=(W.w A.in1 hh).frame 0 h2 h4 W.st λb hb o e=>keep4 b o (λz=>nS<|z▸hb) e
 refine Zn #[ZaM PySem.F.plain_extend_loop _,codeAny_extend_loopS (W.w A.in1 hh).toS (ZC (Zaa hb) 01) _ nS _ ns.length 0 _ #[] c4 rfl (ZA _) st4 g4 (ItemsOf.nil _) λs5 acc c5 mv g5 hacc=>?_];show Zt _ A (load s.heap.objs.size>>=_) _ _ s5;refine Zc<|wpAny_load g5 ?_;refine Zn ?_;obtain⟨ms,hi,hp⟩:=W.zs;have eo:acc.toList=ord:=by
  have lo:ord.length=ns.length:=by rw[hi.length,hp.length_eq]
  refine ZbL λi=>?_
  by_cases hi':i<ns.length
  ·have e1:acc.toList[i]?=Za (acc[i]'(by rw[hacc.1];exact hi')):=by simp[hacc.1,hi']
   rw[e1];exact(hacc.2 i _<|by simp[hacc.1,hi']).symm
  ·rw[Za3 (by rw[ZM,hacc.1];omega),Za3 00]
 rw[eo];obtain⟨h5,g5',d5,tk5,os5⟩:=s5;have eg:g5'=s.gens:=mv.gens;have ed:d5=d2:=mv.drawn;have eos:os5=s.os:=mv.os;subst eg;subst ed;subst eos;refine hQ h5 d5 tk5 ord ms hi hp (λb o e=>?_)<|Z0 g5;have lb:=Z0 e;have b1:b≠s.heap.objs.size:=Z5 lb;have le':s.heap.objs.size+1<=it:=by rw[<-sz1];exact le
 have b2:b≠it:=Z5<|Z4 lb<|ZC (ZaR _) le';exact mv.heap b o (by simp only[ZB,Zai,or_false,not_or];exact#[b1,b2])<|keep4 b o b1<|keep2 _ _<|keep1 _ _ e
theorem Jof{ns:Tp}{Q:QvT}(hh:A.handled=Zd)(hS:SetI wd s.heap a ns)(h64:ns.length<4090)
  (h:∀D h' d' tk out ns' c,Zbs out ns'->ns'.Perm ns->ns'.Pairwise (· <= ·)->s.heap.objs.size<=D->(∀b o,s.heap.get? b=Za o->h'.get? b=Za o)->h'.get? D=Za (ZR "list" (Zay out) c)->Q (.ref D) {s with heap:=h',drawn:=d',toks:=tk}):
  Zt (Zz pr wd) A (call (.builtin "sorted") [.ref a]) Q E s:=by
 refine Calls.call_function_entry kind_sorted plain_sorted entry_sorted (args_sorted1 _) ?_;unfold Zb5.«sorted»;refine Zc (m:=checkCount "sorted" 1 1 _)<|Zn ?_;refine Zc<|Jkt hh hS 00 λh2 d2 tk2 ord ms hi hp keep lz=>?_
 have lo:ord.length=ns.length:=by rw[hi.length,hp.length_eq]
 refine Zc (Zcj ?_<|by rw[lo,Zbi];omega);have gL:(h2.push<|ZR "list" ord.toArray 0).get? h2.objs.size=Za (ZR "list" ord.toArray 0):=Zv _ rfl;refine Zc (ZT<|ZbU (s:={s with heap:=h2.push<|ZR "list" ord.toArray 0,drawn:=d2,toks:=tk2}) slot_list_sort #[_,gL,rfl] entry_list_sort (Ju3 (s:={s with heap:=h2.push<|ZR "list" ord.toArray 0,drawn:=d2,toks:=tk2}) gL hi 00 λout ns' a1 a2 a3=>#[_,rfl,?_])<|args_list_sort _);obtain⟨e1,ho1⟩:∃e1,((h2.push<|ZR "list" ord.toArray 0).update h2.objs.size<|ZY λ_=>#[]).get? h2.objs.size=Za (ZR "list" #[] e1):=#[_,Zbu gL λ_=>#[]];have ho6:((((h2.push<|ZR "list" ord.toArray 0).update h2.objs.size<|ZY λ_=>#[]).push<|ZR "tuple" ord.toArray 0).push<|ZR "list" #[] 0).get? h2.objs.size=Za (ZR "list" #[] e1):=Ze _<|Ze _ ho1;obtain⟨c,hc⟩:∃c,(sortedHeap (h2.push<|ZR "list" ord.toArray 0) h2.objs.size ord out).get? h2.objs.size=Za (ZR "list" out c):=#[_,Zbu ho6 λ_=>out];refine Zn #[_,rfl,h h2.objs.size _ d2 tk2 out.toList ns' c a1 (a2.trans hp) a3 (Zaa lz) (λb o e=>?_)<|by rw[Array.toArray_toList];exact hc];have nb:b≠h2.objs.size:=Z5<|Z0<|keep b o e;exact(Z1 _ _<|ZP nb).trans<|Ze _<|Ze _<|(Z1 _ _<|ZP nb).trans<|Ze _<|keep b o e
end
theorem Jqe{X:Cx}{pj:PnT}{σ:L2.St}{H:Hp}{s:Zk}{d:Drawn}(I:Inv X pj σ H s):Inv X pj σ H {s with drawn:=d}:=#[I.ok,I.os,I.bare,I.base,I.loc,I.cell,I.free,I.freeC,I.pin,I.hok,I.len]
section
variable{ce:CeT}{X:Cx}
def Ya(aa:A1):E1:=λσ h=>(aa σ h).bind λxs h1=>match xs with|[.ref i]=>(match h1[i]? with|some (.lst ys)=>(match JF ys with|some zs=>if zs.length<4000 then .ok (.ref h1.length) (h1++[.lst<|(Vp<|ddN (Q6 zs) zs.length).map .int])else .stuck|none=>.stuck)|_=>.stuck)|_=>.stuck
theorem Jqa{a:Expr}{aa:A1}{p pos p2 pos2:Pos}(hh:X.A.handled=Zd)(g1:Gl X "sorted")(m1:X.mg "sorted"=Zd)(g2:Gl X "set")(m2:X.mg "set"=Zd)(ha:PAi ce X [a] aa)(hs:ZG [a] X.env=[(Zj,Zby a X.env)]):
  PEi ce X (.Call (.Name "sorted" p) [.Call (.Name "set" p2) [a] [] pos2] [] pos) (Ya aa):=λpj s σ H ι σi h Q E N K=>by
 refine Zal<|Qp N.inv g1 m1 rfl ?_;refine Zb8 ?_ rfl rfl;refine ZcX ?_;refine Zal<|Qp N.inv g2 m2 rfl ?_;refine ZaP ?_ hs rfl;refine(ha pos2).run N K λxs h1 us s1 H1 ι1 N1 n1 r1 K1=>?_
 obtain⟨vs,rv,qs⟩:=r1;match xs,K1 with
 |[.ref i],K1=>
  obtain⟨w,rfl,ad,rfl,hav⟩:=qs.one_of;obtain⟨u,rfl,ru⟩:=QP rv;cases ru;dsimp only at K1;cases hi:h1[i]? with|none=>rw[hi]at K1;exact Zf K1|some ob=>
   rw[hi]at K1;cases ob with
   |lst ys=>
    dsimp only at K1;cases hb:JF ys with|none=>rw[hb]at K1;exact Zf K1|some zs=>
     rw[hb]at K1;dsimp only at K1;split at K1
     ·rename_i room;obtain⟨ws,e1,r3⟩:=N1.at hi hav;obtain⟨its,rv2,pl,_⟩:=N1.inv.list<|SqL.of e1;have are:=Vi hb r3 rv2;have dl:=Jpc (Q6 zs) zs.length;refine Jrn hh pl.isList are (show zs.length+1<4096 by omega) λh2 tk hS keep=>ZcY ?_
      obtain⟨ms,hm,pm⟩:=hS;have lm:ms.length<=zs.length:=by rw[pm.length_eq];exact dl
      refine Jof (s:={s1 with heap:=h2,toks:=tk}) hh hm 00 λD h3 d3 tk3 out ns' c a1 a2 a3 le keep3 hc=>?_
      have en:=Ju1 (a2.trans pm) a3;subst en;have leD:s1.heap.objs.size<=D:=by obtain⟨o,es,ep,t,ho,_⟩:=hm;exact ZC (Zaa<|Z0 ho) le
      have hl:((Vp<|ddN (Q6 zs) zs.length).map V.int).length<=sizeLine:=by have:=(a2.trans pm).length_eq;rw[Zr,this,Zbi];omega
      have I':=N1.inv.laid (a:=D) (o:=.lst<|(Vp<|ddN (Q6 zs) zs.length).map V.int) (h':=h3) (t':=tk3) (λb u q=>keep3 _ _<|keep _ _ q) leD #[hl,out,c,XD a1,hc];exact finA N1 K1 D (N1.inv.hok.fresh leD) #[_,Jz,Jid _] _ _ (Jqe (d:=d3) I') rfl
     ·exact Zf K1
   |_=>exact Zf K1
 |[],K1=>exact Zf K1
 |[.non],K1=>exact Zf K1
 |[.bl _],K1=>exact Zf K1
 |[.int _],K1=>exact Zf K1
 |[.str _],K1=>exact Zf K1
 |[.tup _],K1=>exact Zf K1
 |[.rol _],K1=>exact Zf K1
 |x::_::_,K1=>cases x<;>exact Zf K1
end
end L3
namespace L3
open PySem PySem.Spec PyProof.Rows L2 PySem.W
noncomputable def V5 (x:IV)(h:IH):Option (Nat×Tx):=match x with|.ref i=>(match h[i]? with|some (.lst xs)=>Za (i,xs)|_=>Zd)|_=>Zd
theorem Jg1(e:V5 x h=Za (i,xs)):x=.ref i/\h[i]?=Za (.lst xs):=by
 unfold V5 at e;split at e
 ·split at e
  ·rename_i q;cases e;exact#[rfl,q]
  ·cases e
 ·cases e
def Xz(x:IV)(as:Tx)(h:IH):Res IV:=match V5 x h,as with|some (i,xs),[]=>(match xs[xs.length-1]? with|some y=>.ok y<|h.set i<|.lst xs.dropLast|none=>.stuck)|_,_=>.stuck
def X2(x:IV)(as:Tx)(h:IH):Res IV:=match V5 x h,as with|some (i,xs),[.int k]=>(match JF xs with|some ns=>(match ns.findIdx? (· ==k)with|some j=>.ok .non<|h.set i<|.lst<|xs.eraseIdx j|none=>.stuck)|none=>.stuck)|_,_=>.stuck
section
variable{ce:CeT}{X:Cx}
theorem J1n:MtI ce X "list" "list.pop" Xz:=by
 intro pj s σ H ι σi h x xs v us Q E N rx rs K;unfold Xz at K;split at K
 ·rename_i i zs e;obtain⟨rfl,hi⟩:=Jg1 e;split at K
  ·rename_i y hy;obtain⟨xv,rx,a,rfl,ha⟩:=rx;obtain⟨vs,rv,qs⟩:=rs;cases (show vs=[]from qs);obtain⟨ws,e1,r1⟩:=N.at hi ha;obtain⟨z,hz,qz⟩:=r1.get hy;exact Jry (J1s (X:=X.wish E)) N.inv rx rv #[a,ws,z,rfl,rfl,e1,by rw[r1.length];exact hz,finW (ys:=zs.dropLast) N K ha e1 (by rw[Zfx,Zfx,r1.length];exact r1.take _) qz]
  ·exact Zf K
 ·exact Zf K
theorem Jt2:MtI ce X "list" "list.remove" X2:=by
 intro pj s σ H ι σi h x xs v us Q E N rx rs K;unfold X2 at K;split at K
 ·rename_i i zs k e;obtain⟨rfl,hi⟩:=Jg1 e;split at K
  ·rename_i ns hb;split at K
   ·rename_i j hj;obtain⟨xv,rx,a,rfl,ha⟩:=rx;obtain⟨vs,rv,qs⟩:=rs;obtain⟨w,rfl,qw⟩:=qs.one_of;cases (show w=.int k from qw);obtain⟨u,rfl,t,rfl⟩:=QP rv;cases rx;obtain⟨ws,e1,r1⟩:=N.at hi ha;obtain⟨z,its,n,r,hl,eo⟩:=N.inv.lstM e1;have are:=Vi hb r1 r;have ln:=Jbu are;obtain⟨hlt,hp,hno⟩:=Zd0.mp hj;have at_:∀m (hm:m<its.toArray.size),∃t,its.toArray[m]=.int (ns.getD m 0) t:=λm hm=>Zf5 are m _<|by simp at hm;simp[hm]
    refine Zem F.slot_list_remove #[_,eo,rfl] F.entry_list_remove (F.args_list_remove_2 _ _)
     (MeetsSeq.list_remove a its.toArray n (.int k t) (isK k) (λy hy=>?_) j (by simp;lia) ?_ (λm hm hmj=>?_)<|by rw[Zx];lia) #[eo,?_]
    ·obtain⟨m,hm,rfl⟩:=Array.mem_iff_getElem.mp hy;obtain⟨t',e⟩:=at_ m hm;rw[e];exact MeetsSeq.EqGives.int _ _ _ _
    ·obtain⟨t',e⟩:=at_ j<|by simp;lia
     rw[e];simpa[isK,Zi,hlt]using hp
    ·obtain⟨t',e⟩:=at_ m hm;rw[e];have:=hno m hmj;have hm2:m<ns.length:=05;simpa[isK,Zi,hm2]using this
    ·exact finW (ys:=zs.eraseIdx j) (ws:=ws.eraseIdx j) N K ha e1 (r1.erase _) rfl _ _ (N.inv.lset (its':=its.eraseIdx j) e1 eo (by rw[ZdB]) (r.eraseIdx j) (by have:=Jjq ws j;lia)) rfl
   ·exact Zf K
  ·exact Zf K
 ·exact Zf K
end
section
variable{pr:ZD}{wd:ZV}{A:ZH}{E:QvT}{s:Zk}
theorem Jhq{Q:Tv->Zk->Prop}{n:Nat}(hh:A.handled=Zd)(hr:IsRange s.heap r a b c t u v)(hsmall:Builtin.Range.small a b c=Zh) (hn:ZeE a b c=n)(hlen:n<=2^24)(hQ:∀h' tk acc,(∀b o,s.heap.get? b=Za o->h'.get? b=Za o)->s.heap.objs.size<=h'.objs.size->ItemsOf (λi v=>∃t,v=.int (a+i*c) t) acc n->Q acc.toList {s with heap:=h',toks:=tk}):Zt (Zz pr wd) A (collect<|.ref r) Q E s:=by
 unfold collect;refine Zc<|Zeq<|Zaq Zee ?_;rw[Zaf Zef _];show Zt _ A.in1 (newList []>>=λl=>Zgc<|.builtin "list.__iadd__" #[[l,.ref r],[]]) _ _ s;refine Zc<|Zcj ?_<|ZA _;refine Zn #[ZaM Zcz _,Zaq ZeR ?_];rw[Zaf Zcz _];show Zt _ A.in1 (ZcH (.ref s.heap.objs.size) (.ref r)<|.ref s.heap.objs.size) _ _ _;refine wpAny_extend_range (R:=λr s'=>match r with|.ok (.ret v)=>Zt (Zz pr wd) A (match v with|.ref a=>(do match (<-load a).data with|.seq xs _=>pure xs.toList|_=>unsupported "internal:collect")|_=>unsupported "internal:collect") Q E s'|.ok _=>False|.error e=>E e s') (s:={s with heap:=s.heap.push {cls:=.type "list",data:=.seq #[]} }) hh (Ze _ hr) hsmall hn hlen s.heap.objs.size _ 0 (Zv _ rfl) λh' tk acc c' keep g its=>?_
 show Zt _ A (load s.heap.objs.size>>=_) _ _ _;refine Zc<|wpAny_load g ?_;exact Zn<|hQ h' tk acc (λb o e=>keep b o (Z5<|Z0 e)<|Ze _ e) (Zaa<|Z0 g) its
end
section
variable{ce:CeT}{X:Cx}
def XZ(q:Str)(j:Nat)(js:Tq)(aa:A1)(m:E1):E1:=λσ h=>(aa σ h).bind λxs h1=>match xs,h1[j]? with|[.int n],Za (.tab q')=>if q'=q/\0<=n/\n<64 then(Q7 (λv h'=>m (Za v::js.map λj=>(σ[j]?).join) h') (rngI 0 n) [] h1).bind (X8 Zh<|rngI 0 n)else .stuck|_,_=>.stuck
theorem Jth{k:Nat}{q x:Str}{caps:Tk}{js:Tq}{j:Nat}{a body:Expr}{aa:A1}{m:E1}{params:ZcT}{scope:ZbF}{p p2 lp pos pos2 kp kp2 cp:Pos}{ck:Nat}(hh:X.A.handled=Zd)(hg:Gl X "sorted")(hm:X.mg "sorted"=Zd)(g2:Gl X "range")(m2:X.mg "range"=Zd)(ha:PAi ce X [a] aa)(hs:ZG [a] X.env=[(Zj,Zby a X.env)])
  (hr:Room (k+3) X.A)(hcd:W.codeIn X.K X.env.code q=Zh)(hq:X.env.qual=q++".<locals>.")(B:Qy X.mg X.base)(hx:QW params=Za x)(S:LamSc X.N X.env.scope.names x caps js scope)
  (hb:∀f cd s' H',PEi ce (cxL X X.A.in1.in1 (x::caps) q scope f cd s' H') body m):
  PEi ce X (.Call (.Name "sorted" p) [.Call (.Name "range" p2) [a] [] pos2] [#[Za "key",.Lambda params body scope lp,kp],#[Za "reverse",.Constant (.bool Zh) ck cp,kp2]] pos) (XZ q j js aa m):=λpj s σ H ι σi h Q E N K=>by
 have hcl:Zeo scope X.env=pure (clOf X.env.cells scope.names []):=Jbi λy hm hk=>N.inv.ok.has y.1<|.inl<|S.free y hm hk
 refine Zal<|Qp N.inv hg hm rfl ?_;refine callWith_kw ?_ rfl rfl rfl rfl;refine ZcX ?_;refine Zal<|Qp N.inv g2 m2 boot_range ?_;refine ZaP ?_ hs rfl;refine(ha pos2).run N K λxs h1 us s1 H1 ι1 N1 n1 r1 K1=>?_
 obtain⟨vs,rv,qs⟩:=r1;split at K1
 ·rename_i n q' ej;split at K1
  ·rename_i hc;obtain⟨rfl,n0,n64⟩:=hc;obtain⟨w,rfl,qw⟩:=qs.one_of;cases (show w=.int n from qw);obtain⟨u,rfl,t,rfl⟩:=QP rv;refine call_range_1<|ZcY ?_;have gr:(s1.heap.push {cls:=.type "range",data:=.fields (Zay [.int 0 s1.toks,.int n t,.int 1<|s1.toks+1])}).get? s1.heap.objs.size=Za {cls:=.type "range",data:=.fields (Zay [.int 0 s1.toks,.int n t,.int 1<|s1.toks+1])}:=Zv _ rfl;have N1':=(N1.keptH (h':=s1.heap.push {cls:=.type "range",data:=.fields (Zay [.int 0 s1.toks,.int n t,.int 1<|s1.toks+1])}) (t':=s1.toks+1+1) λb o e=>Ze _ e);have F1:FpOk X pj H1 s1.heap.objs.size:=N1.inv.fpOk (Zm _)<|N1.inv.hok.fresh<|Zm _;have N2:=N1'.pinO gr F1 λv z=>by cases z
   have K2:=Kont.more (pl:=[(s1.heap.objs.size,({cls:=.type "range",data:=.fields (Zay [.int 0 s1.toks,.int n t,.int 1<|s1.toks+1])}:Obj))]) K1;refine ZbY<|Zc<|Jl5 N2 ej hcd hq (Jl4 hx) hcl B λf c pm ctv s3 H3 N3 n3 LC=>Zc<|ZbT<|Zn ?_
   refine ZbY<|Zc<|Zn<|Zc<|ZbT<|Zn<|Zdd ?_;have K3:=Kont.more (pl:=[(f,lamO q' params body scope (clOf X.env.cells scope.names []) pm ctv c)])<|Kont.mono K2 n3;have pr:=N3.inv.pin (s1.heap.objs.size,{cls:=.type "range",data:=.fields (Zay [.int 0 s1.toks,.int n t,.int 1<|s1.toks+1])})<|Zq _<|ZW _<|Zq _<|Z9.mpr rfl;refine call_function_entry_kw kind_sorted plain_sorted entry_sorted (ksk_s2 _ _ _) ?_;unfold Zb5.«sorted»;refine Zc (m:=checkCount "sorted" 1 1 _)<|Zn ?_;refine Zc<|Jhq (n:=n.toNat) hh pr.1 (small_one 01 01 05 05) ?_ 05 λh4 tk acc keep le its=>?_
   ·rw[rangeSize_one];split<;>lia
   have are:Zbs acc.toList ((ZU n.toNat).map λk=>((k:Nat):Int)):=by
    refine Jqc _ _ (by simp[its.1]) λi v hv=>?_
    obtain⟨t,rfl⟩:=its.2 i v<|by simpa using hv
    have hi:i<n.toNat:=by have:=(Zs.mp hv).1;simp only[ZM,its.1]at this;exact this
    exact#[t,by simp[Zi,hi]]
   refine Jy0 (G:=λH=>QC H q'<|.ref c) (mk:=λv h'=>m (Za v::js.map λj=>(σi[j]?).join) h') (ys:=rngI 0 n) (λa=>ksk_t2 f a Zh) (λa=>ksk_l2 a _ _) ?_ (λH H' e g=>g.mono e.frzs) N3 LC keep le (XD are) (by rw[X3];exact Jid _) (by rw[X3];simp;lia) (λD s' q=>#[_,rfl,q]) K3;intro pl s4 H4 ι4 h4 v u Q4 N4 g4 ru4 K4;have pf:=N4.inv.pin (f,lamO q' params body scope (clOf X.env.cells scope.names []) pm ctv c)<|Zq _<|ZW _<|Zq _<|Z9.mpr rfl;exact Jqq (A:=X.A.in1.in1) N.inv.ok.frames hr.in1.in1 N4 pf.1 g4 hx S (hb f<|.ref c) ru4 K4
  ·exact Zf K1
 ·exact Zf K1
end
end L3
namespace L3
open PySem PySem.Spec PyProof.Rows L2
end L3
namespace L4
open PySem PySem.Spec PyProof.Rows L2 L3
noncomputable def stE:E1:=λ_ _=>.stuck
noncomputable def stT:T1:=λ_ _=>.stuck
noncomputable def stO:O1:=λ_ _=>.stuck
noncomputable def stI:I1:=λ_ _=>.stuck
noncomputable def stG:G1:=λ_ _ _=>.stuck
noncomputable def stS:S1:=λ_ _=>.stuck
structure Fn where
 np:Nat
 dvs:Tx
 run:Tx->IH->Res IV
abbrev _root_.Th:=Option Fn
set_option genInjectivity false in
structure Pg where
 fn:Str->Th
 cls:Str->Th
 meth:Str->Str->Th
 con:Str->Te
 isa:Str->Option (Str->Bool)
 fld:Str->Bool
 free:Str->Bool
 tabs:Str->Wy
 rz:Str->Bool
 bas:Str->Bool
 xi:Str->Option (Str->Wu)
 wr:Str->Option (Tx->IH->Res IV)
 ne:Str->Bool
 xo:Str->Th
 xf:Str->Str->Bool
 xb:Str->Bool
structure Sc where
 N:Tk
 names:Wh
 own:Bool
 q:Str
noncomputable def ixOf (x:Str):Tk->Wy|[]=>Zd|y::r=>if y==x then Za 0 else(ixOf x r).map (· + 1)
noncomputable def Sc.vis (S:Sc)(x:Str):Wy:=match S.names.lookup x with|some .local=>if x=="__debug__"||x=="__classdict__" then Zd else ixOf x S.N|some .cell=>if x=="__debug__"||x=="__classdict__" then Zd else ixOf x S.N|some .free=>if x=="__debug__"||x=="__classdict__" then Zd else ixOf x S.N|_=>Zd
noncomputable def Sc.gl (S:Sc)(x:Str):Bool:=S.names.lookup x==Za .globalImplicit&&!(x=="__debug__")&&!(x=="__name__")
noncomputable def Sc.sto (S:Sc)(x:Str):Wy:=match S.names.lookup x with|some .local=>ixOf x S.N|some .cell=>if S.own then ixOf x S.N else Zd|_=>Zd
def evC:Const->E1|.int i=>eC<|.int i|.bool b=>eC<|.bl b|.none=>eC .non|.str x=>eC<|.str x|_=>stE
def binI:ZdA->IV->IV->IH->Res IV|.Add=>Jo|.Sub=>Qm|.Mult=>JX|.FloorDiv=>JJ|.Mod=>J2|.Pow=>JS|_=>λ_ _ _=>.stuck
def cmpI:CmpOp->IV->IV->IH->Res IV|.Lt=>cLt|.LtE=>cLe|.Gt=>cGt|.GtE=>cGe|.Eq=>cEq|.NotEq=>cNe|.Is=>cIs|.IsNot=>Jlv|_=>λ_ _ _=>.stuck
def unI:UnaryOp->IV->IH->Res IV|.Not=>Jt7 tru|.USub=>V8|_=>λ_ _=>.stuck
def Jw6:List E1->E1|[]=>stE|[a]=>a|a::b::r=>eAnd a (Jw6<|b::r) tru
def eOrs:List E1->E1|[]=>stE|[a]=>a|a::b::r=>eOr a (eOrs<|b::r) tru
def Jy2:List T1->T1|[]=>stT|[a]=>a|a::b::r=>Qv a<|Jy2<|b::r
def tOrs:List T1->T1|[]=>stT|[a]=>a|a::b::r=>tOrI a<|tOrs<|b::r
def aAll:List E1->A1|[]=>Jd|a::r=>Jb a<|aAll r
noncomputable def Ju:Expr->Bool|.Starred .. =>Zj|_=>Zh
def Xw:Expr->Bool|.Set .. =>Zj|_=>Zh
def VS:Expr->Bool|.Slice .. =>Zj|_=>Zh
def QI:Expr->Bool|.ListComp .. =>Zj|.SetComp .. =>Zj|.DictComp .. =>Zj|_=>Zh
def Vm:Expr->Bool|.Call (.Name ..) [] [] _=>Zj|_=>Zh
noncomputable def Fn.fill (f:Fn)(n:Nat):Option (Tx):=if n<=f.np/\f.np<=n+f.dvs.length then Za (f.dvs.drop<|f.dvs.length-(f.np-n))else Zd
def VO(f:Fn)(n:Nat)(a:A1):E1:=match f.fill n with|some d=>Jl f.run d a|none=>stE
def Jl1(c:Str)(f:Fn)(n:Nat)(a:A1):E1:=match f.fill (n+1)with|some d=>Q5 c f.run d a|none=>stE
def bltF(x:Str):Tx->IH->Res IV:=if x=="len" then on1 lenI else if x=="all" then on1 allI else if x=="sum" then on1 sumI else if x=="min" then on1 Xv else if x=="max" then on1 Xu else λ_ _=>.stuck
def bltT(x:Str):Tx->IH->Res IV:=if x=="list" then on1 QH else if x=="tuple" then on1 VW else λ_ _=>.stuck
noncomputable def Jqg (x:Str):Bool:=x=="len"||x=="all"||x=="sum"||x=="min"||x=="max"
noncomputable def Jqh (x:Str):Bool:=x=="list"||x=="tuple"
def Jso(P:Pg)(x:Str):Option (Ty->Wu):=match P.isa x with
 |some g=>Za λt=>match t with|.ins c=>Za (g c)|.exc _=>Zd|_=>Za Zj
 |none=>if P.free x then(if x=="int" then Za Jop else if x=="bool" then Za Jhb else if x=="str" then Za Xc else if x=="list" then Za (if P.ne "Work" then Jhc else QT)else if x=="tuple" then Za Joq else Zd)else Zd
def Jw8(o:Option<|Ty->Wu)(e:E1):E1:=match o with|some ans=>eIsi ans e|none=>stE
def bmOf(T:String)(m:Str)(n:Nat):Option (IV->Tx->IH->Res IV):=if T=="list"&&m=="append"&&n==1 then Za VL else if T=="list"&&m=="extend"&&n==1 then Za Xo else if T=="list"&&m=="pop"&&n==0 then Za Xz else if T=="list"&&m=="remove"&&n==1 then Za X2 else Zd
def JV(P:Pg)(m:Str)(n:Nat):Str->Option ((Tx->IH->Res IV)×Tx):=λc=>match P.meth c m with|some f=>(match f.fill (n+1)with|some d=>Za (f.run,d)|none=>Zd)|none=>Zd
def Yf(v:IV)(h:IH):Bool:=match v with|.ref i=>(match h[i]? with|some (.ins ..)=>Zh|_=>Zj)|_=>Zj
def tyS(v:IV)(h:IH):String:=match v with|.str _=>"str"|.rol _=>"list"|.ref i=>(match h[i]? with|some (.lst _)=>"list"|some (.dct _)=>"dict"|_=>"")|_=>""
def Jp(P:Pg)(m:Str)(n:Nat)(o:E1)(a:A1):E1:=λσ h=>match o σ h with|.ok v h1=>if Yf v h1 then Js1 m (JV P m n) o a σ h else(match bmOf (tyS v h1) m n with|some g=>eBm (tyS v h1) g o a σ h|none=>.stuck)|_=>.stuck
def J0n(n:Nat)(a:A1):I1:=match n with|1=>iRg Qd a|2=>stI|_=>stI
def gAll:List G1->Tx->ISt->IH->SRes|[]=>gN|g::r=>gC g<|gAll r
noncomputable def Vk (sc:ZbF):Tk:=sc.names.filterMap λx=>if x.2==.local&&!(x.1==(".0":Str))then Za x.1 else Zd
noncomputable def Qt (sc:ZbF):Tk:=sc.names.filterMap λx=>if x.2==.free then Za x.1 else Zd
def jsOf(S:Sc)(sc:ZbF):Tq:=(Qt sc).map λx=>(ixOf x S.N).getD 0
def Sc.comp(S:Sc)(sc:ZbF):Sc where
 N:=Vk sc++Qt sc
 names:=sc.names.map λx=>if x.2==.free&&S.names.lookup x.1==Za .cell then(x.1,.cell)else x
 own:=Zj
 q:=""
def Sc.lam(S:Sc)(x:Str)(sc:ZbF):Sc where
 N:=x::Qt sc
 names:=sc.names
 own:=Zj
 q:=""
def Q8(S:Sc)(x:Str)(sc:ZbF):Bool:=sc.kind==.function&&!sc.isCoroutine&&!sc.isGenerator&&sc.names.all (λy=>!(y.2==.cell))&&sc.names.lookup x==Za .local&&sc.names.all (λy=>!(y.2==.free)||S.names.lookup y.1==Za .cell) && (Qt sc).all (λy=>decide (S.N[(ixOf y S.N).getD 0]?=Za y)&&sc.names.lookup y==Za .free)&&decide (x::Qt sc).Nodup
def Sc.fake(S:Sc):ZbF:={kind:=.function,names:=S.names,isGenerator:=Zj,isCoroutine:=Zj}
noncomputable def Jpi:Expr->Bool|.Name x _=>x=="last_come"||x=="tops"||x=="last"||x=="_law_last"||x=="_law_lows_here"|_=>Zj
def ixD(a:Expr):IV->IV->IH->Res IV:=if Jpi a then VT else Jg
def cmpD(ne:Str->Bool)(o:CmpOp)(b:Expr):IV->IV->IH->Res IV:=match o with|.In=>if Jpi b then cInD else λ_ _ _=>.stuck|o=>cmpI o
def gSbF(a:Expr)(o i:E1):G1:=if Jpi a then gSbD o i else gSb o i
def Jmh:Expr->Wt|.Call (.Name y _) [e] [] _=>if y=="set"&&Ju e then Za e else Zd|_=>Zd
def Jme:Expr->Wt|.Call (.Name y _) [e] [] _=>if y=="range"&&Ju e then Za e else Zd|_=>Zd
def dctB:Expr->Bool|.Call (.Name y _) _ _ _=>y=="ceilings"|_=>Zj
def Jkr(P:Pg)(S:Sc)(x:Str)(f:Expr->E1):Td->E1|[a,b]=>if x=="max" then eCB (on2 maxI) (Jb (f a)<|Jb (f b) Jd)else if x=="min" then eCB (on2 minI) (Jb (f a)<|Jb (f b) Jd)else(match b with|.Name y _=>if x=="isinstance"&&S.gl y then Jw8 (Jso P y) (f a)else stE|_=>stE)|[a]=>(match (if x=="len"&&S.gl "set"&&P.free "set" then Jmh a else Zd)with|some e=>XY<|Jb (f e) Jd|none=>match (if x=="list"&&S.gl "range"&&P.free "range" then Jme a else Zd)with|some _=>stE|none=>if x=="len"&&dctB a then eCB (on1 Xr) (Jb (f a) Jd)else if Jqg x then eCB (bltF x) (Jb (f a) Jd)else if Jqh x then eCB (bltT x) (Jb (f a) Jd)else stE)|_=>stE
def Jrm:Td->Wt|[a]=>Jmh a|_=>Zd
def Je0(P:Pg)(S:Sc)(x:Str)(f:Expr->E1)(args:Td):E1:=match (if x=="sorted"&&S.gl "set"&&P.free "set" then Jrm args else Zd)with|some e=>Ya<|Jb (f e) Jd|none=>Jkr P S x f args
def J01:Expr->Bool|.Constant (.bool Zh) _ _=>Zh|_=>Zj
def Jrr(P:Pg)(S:Sc)(f:Sc->Expr->E1)(x:Str)(a:Expr)(k:Str)(ps:ZcT)(body:Expr)(sc:ZbF)(k2:Str)(d:Expr):E1:=match Jme a,QW ps,P.tabs S.q with|some e,Za y,Za j=>if x=="sorted"&&k=="key"&&k2=="reverse"&&J01 d&&S.gl x&&P.free x&&S.gl "range"&&P.free "range"&&S.own&&Q8 S y sc then XZ S.q j (jsOf S sc) (Jb (f S e) Jd) (f (S.lam y sc) body)else stE|_,_,_=>stE
def minK(P:Pg)(S:Sc)(f:Sc->Expr->E1)(x:Str)(a:Expr)(k:Str):Expr->E1|.Lambda ps body sc _=>(match QW ps,P.tabs S.q with|some y,Za j=>if x=="min"&&k=="key"&&S.gl x&&P.free x&&Ju a&&S.own&&Q8 S y sc then Xm ltT S.q j (jsOf S sc) (Jb (f S a) Jd) (f (S.lam y sc) body)else stE|_,_=>stE)|_=>stE
def Jqp(P:Pg)(S:Sc)(f:Sc->Expr->E1)(x:Str)(args:Td)(kws:To):E1:=match args,kws with|[a],[⟨Za k,d,_⟩]=>if x=="max"&&k=="default"&&S.gl x&&P.free x&&Ju a then Xl (Jb (f S a) Jd) (f S d)else minK P S f x a k d|[a],[⟨Za k,.Lambda ps body sc _,_⟩,⟨Za k2,d,_⟩]=>Jrr P S f x a k ps body sc k2 d|_,_=>stE
def Jls(P:Pg)(S:Sc)(m:Str):Expr->Th|.Name x _=>if m=="__init__"&&S.gl x&&P.bas x then P.cls x else Zd|_=>Zd
def Jw7(P:Pg)(m:Str)(n:Nat)(b:Th)(o:E1)(a:A1):E1:=match b with|some f=>if n=0 then stE else VO f n a|none=>Jp P m n o a
def Jpb(ifs:Td)(f:Expr->T1)(m:T1->E1):E1:=match ifs with|[]=>m JA|[c]=>m<|f c|_=>stE
section
mutual
def ev(P:Pg):Nat->Sc->Expr->E1|0,_,_=>stE|n+1,S,e=>match e with
  |.Constant c _ _=>evC c
  |.Name x _=>(match S.vis x with|some i=>Ja i|none=>if S.gl x then(match P.con x with|some v=>eC v|none=>stE)else stE)
  |.BinOp a op b _=>Jc (binI op) (ev P n S a)<|ev P n S b
  |.UnaryOp op a _=>eUn (unI op)<|ev P n S a
  |.BoolOp .And vs _=>Jw6<|vs.map<|ev P n S
  |.BoolOp .Or vs _=>eOrs<|vs.map<|ev P n S
  |.IfExp t a b _=>eIf (evT P n S t) (ev P n S a)<|ev P n S b
  |.Compare a [o] [b] _=>if Zdc o b then stE else Jc (cmpD P.ne o b) (ev P n S a) (ev P n S b)
  |.Compare a [o,o'] [b,c] _=>if ZeJ [o,o'] [b,c]then stE else JW (cmpI o) (cmpI o') (ev P n S a) (ev P n S b) (ev P n S c)
  |.Tuple es _ _=>if es.all Ju then eTup (aAll<|es.map<|ev P n S)else stE
  |.Dict [] [] _=>Xk
  |.List es _=>if es.all Ju then eLst (aAll<|es.map<|ev P n S)else stE
  |.Subscript a (.Slice lo hi Zd _) _=>eSl slI (ev P n S a) (evO P n S lo)<|evO P n S hi
  |.Subscript a i _=>if VS i then Jc (ixD a) (ev P n S a) (ev P n S i)else stE
  |.Attribute o f _=>if Vm o&&P.fld f then Jj f (ev P n S o)else stE
  |.Call (.Name x _) args [] _=>if S.gl x&&args.all Ju then Jpv P n S x args else stE
  |.Call (.Name x _) args (kw::kws) _=>Jqp P S (λS e=>ev P n S e) x args<|kw::kws
  |.Call (.Attribute o m ap) args [] p=>if args.all Ju&&Vm o&&(ap.endLine==p.line)&&decide (args.length<30)then Jw7 P m args.length (Jls P S m o) (ev P n S o) (aAll<|args.map<|ev P n S)else stE
  |.ListComp elt [⟨tg,iter,ifs,as⟩] sc _=>
   if as=0/\Xw iter=Zh/\Q3 S.N (Vk sc) (Qt sc) (jsOf S sc) S.fake sc=Zh then Jpb ifs (evT P n<|S.comp sc) λmt=>Js (evI P n S tg iter) (Vk sc).length (jsOf S sc) (tgt P n (S.comp sc) tg) mt<|ev P n (S.comp sc) elt
   else stE
  |_=>stE
def evT(P:Pg):Nat->Sc->Expr->T1|0,_,_=>stT|n+1,S,e=>match e with|.UnaryOp .Not a _=>JE<|evT P n S a|.BoolOp .And vs _=>Jy2<|vs.map<|evT P n S|.BoolOp .Or vs _=>tOrs<|vs.map<|evT P n S|.IfExp .. =>stT|.Compare a [o] [b] _=>if Zdc o b then stT else Jh asB (Jc (cmpD P.ne o b) (ev P n S a)<|ev P n S b)|.Compare a [o,o'] [b,c] _=>if ZeJ [o,o'] [b,c]then stT else Jh asB (JW (cmpI o) (cmpI o') (ev P n S a) (ev P n S b)<|ev P n S c)|.Compare .. =>stT|e=>Jh tru<|ev P n S e
def evO(P:Pg):Nat->Sc->Wt->O1|0,_,_=>stO|_+1,_,Zd=>Jx9|n+1,S,Za e=>Vn<|ev P n S e
def Jpv(P:Pg):Nat->Sc->Str->Td->E1|0,_,_,_=>stE|n+1,S,x,args=>match P.fn x with|some f=>VO f args.length<|aAll<|args.map<|ev P n S|none=>match P.cls x with|some f=>Jl1 x f args.length<|aAll<|args.map<|ev P n S|none=>if P.free x then Je0 P S x (ev P n S) args else stE
def evI(P:Pg):Nat->Sc->Expr->Expr->I1|0,_,_,_=>stI|n+1,S,tg,e=>match e with
  |.Call (.Name x _) args [] _=>
   if S.gl x&&P.free x&&args.all Ju&&(x=="range")then J0n args.length (aAll<|args.map<|ev P n S)
   else if S.gl x&&P.free x&&args.all Ju&&(x=="enumerate")then(match tg,args with|.Tuple ..,[a]=>iRg QG<|Jb (ev P n S a) Jd|_,_=>stI)
   else Jy (ev P n S e)
  |e=>Jy<|ev P n S e
def tgt(P:Pg):Nat->Sc->Expr->G1|0,_,_=>stG|n+1,S,e=>match e with|.Name x _=>(match S.sto x with|some i=>gNm i|none=>stG)|.Tuple es _ _=>if es.all Ju then gTp es.length (gAll<|es.map<|tgt P n S)else stG|.Subscript o i _=>if VS i then gSbF o (ev P n S o) (ev P n S i)else stG|_=>stG
end
end
noncomputable def Va (t:T1)(b:S1):Nat->S1|0,_,_=>.stuck|n+1,σ,h=>match t σ h with|.ok c h1=>if c then(match b σ h1 with|.next σ2 h2=>Va t b n σ2 h2|.cont σ2 h2=>Va t b n σ2 h2|.brk σ2 h2=>.next σ2 h2|.ret v h2=>.ret v h2|.exc m σ2 h2=>(match h2[m]? with|some (.exc _ _)=>.exc m σ2 h2|_=>.stuck)|_=>.stuck)else .next σ h1|_=>.stuck
@[irreducible] def VE:Nat:=1000000
def Jla(o:Bool)(t:T1)(b:S1):S1:=match o with|true=>Va t b VE|false=>stS
def X6(t:T1)(b:S1):S1:=Jla Zh t b
theorem Jjy(t:T1)(b:S1):X6 t b=Va t b VE:=rfl
noncomputable def ipI:ZdA->IV->IV->IH->Res IV|.Add,.int i,.int j,h=>.ok (.int<|i+j) h|_,_,_,_=>.stuck
def sAug(op:ZdA)(i:Nat)(e:E1):S1:=λσ h=>rS σ (Ja i σ h) λx h1=>rS σ (e σ h1) λy h2=>rS σ (ipI op x y h2) λz h3=>.next (σ.set i<|Za z) h3
def X4(op:ZdA)(f:Str)(o e:E1):S1:=λσ h=>rS σ (o σ h) λov h1=>match ov with|.ref i=>(match h1[i]? with|some (.ins _ fs)=>(match fs.lookup f with|some x=>rS σ (e σ h1) λy h2=>rS σ (ipI op x y h2) λz h3=>(match h3[i]? with|some (.ins c gs)=>if gs.length<1000 then .next σ (h3.set i<|.ins c<|putI f z gs)else .stuck|_=>.stuck)|none=>.stuck)|_=>.stuck)|_=>.stuck
def ixL:IV->IV->IH->Res IV
 |.ref i,.int k,h=>match h[i]? with
  |some (.lst xs)=>(match atI xs k with
   |some v=>if 0<=k then .ok v h else .stuck
   |none=>.stuck)
  |_=>.stuck
 |_,_,_=>.stuck
def X5(op:ZdA)(o k e:E1):S1:=λσ h=>rS σ (o σ h) λov h1=>rS σ (k σ h1) λkv h2=>rS σ (ixL ov kv h2) λx h3=>rS σ (e σ h3) λy h4=>rS σ (ipI op x y h4) λz h5=>setI ov kv z σ h5
def sAll:List S1->S1|[]=>Jq|[a]=>a|a::b::r=>Jf a<|sAll<|b::r
def Jx8:Expr->Bool|.Tuple .. =>Zj|_=>Zh
def Jtn:Expr->Bool|.Tuple .. =>Zh|_=>Zj
def isLC:Expr->Bool|.ListComp .. =>Zh|_=>Zj
def Jtm:Expr->Bool|.Subscript .. =>Zh|_=>Zj
abbrev Xi:=Str->Option (Str->Wu)
section
def hv(xi:Xi)(xf:Str->Str->Bool)(fr:Str->Bool):Nat->Bool->Sc->Expr->E1|0,_,_,_=>stE|n+1,w,S,e=>match e with|.Constant c _ _=>evC c|_=>stE
def hx(xi:Xi)(xf:Str->Str->Bool)(fr:Str->Bool)(w:Bool)(S:Sc):Nat->ZcZ->S1|0,_=>stS|n+1,st=>match st with|.Assign [.Name x _] e _=>if QI e then(match S.sto x with|some i=>Jk i<|hv xi xf fr n w S e|none=>stS)else stS|_=>stS
def hSl(S:Sc):Wv->Option (Wy)|none=>Za Zd|some x=>if S.names.lookup x==Za .local then(ixOf x S.N).map Za else Zd
def Jvs(P:Pg)(S:Sc)(n:Nat)(sl:Wy)(suite:Tn):S1:=sAll<|suite.map<|hx P.xi P.xf P.free Zj S n
def hHd(P:Pg)(S:Sc)(n:Nat):Zde->Option HdI|.ExceptHandler (Za (.Name D _)) nm (b::suite) _=>if S.gl D then(match P.xi D,hSl S nm with|some g,Za sl=>Za (g,sl,Jvs P S n sl<|b::suite)|_,_=>Zd)else Zd|_=>Zd
def hHds(P:Pg)(S:Sc)(n:Nat):Ts->Option (Tr)|[]=>Za []|h::r=>match hHd P S n h,hHds P S n r with|some q,Za l=>Za<|q::l|_,_=>Zd
end
def XiOk(K:W.Frag)(mg:Str->Wz)(xi:Xi)(xf:Str->Str->Bool):Prop:=(∀D g,xi D=Za g->∃v,(mg D=Za v∨(mg D=Zd/\ZbO D=Za v)) /\ ∀c C b,g c=Za b->W.nsIn K Zu c=Za (Za<|.ref C)->ExI K C/\W.kitOne K (.ref C) v=Za b/\W.exmOne K (.ref C) v=Za b) /\ ∀f c C,xf f c=Zh->W.nsIn K Zu c=Za (Za<|.ref C)->StoX K C f/\ExI K C/\W.findIn K (.ref C) f=Za Zd
section
def Jp1(P:Pg)(S:Sc)(m:Expr->E1)(exc cause:Wt):S1:=match exc,cause with|some (.Call (.Name x _) [e] [] _),Zd=>if S.gl x&&P.rz x&&Ju e then VB x (Jb (m e) Jd)else stS|_,_=>stS
def hTry(P:Pg)(S:Sc)(n:Nat)(m:ZcZ->S1)(body:Tn)(hs:Ts)(o f:Tn):S1:=match hs,o,f with|h::r,[],[]=>if S.own then(match hHds P S n (h::r)with|some ms=>sTry (sAll<|body.map m) ms|none=>stS)else stS|_,_,_=>stS
end
def Jym(P:Pg)(f:Str)(o e:E1):S1:=if P.fld f then JN f o e else stS
section
def ex(P:Pg):Nat->Sc->ZcZ->S1|0,_,_=>stS|n+1,S,st=>match st with|.Pass _=>J2h|.Break _=>Jv6|.Continue _=>J2g|.Expr e _=>if QI e then JC (ev P n S e)else stS|.Return Zd _=>J2i|.Return (Za e) _=>Jm<|ev P n S e|.If c a b _=>sIf (evT P n S c) (sAll<|a.map<|ex P n S)<|sAll<|b.map<|ex P n S|.While c a [] _=>Jla S.own (evT P n S c)<|sAll<|a.map<|ex P n S|.For tg it a [] _=>if Xw it&&S.own then sFor (evI P n S tg it) (tgt P n S tg) (sAll<|a.map<|ex P n S)else stS|.Assign [.Name x _] e _=>if QI e||isLC e then(match S.sto x with|some i=>Jk i<|ev P n S e|none=>stS)else stS|.Assign [.Attribute o f _] e _=>if QI e||isLC e then Jym P f (ev P n S o) (ev P n S e)else stS|.Assign [tg] e _=>if QI e&&((Jtn tg&&Jx8 e)||Jtm tg)then sAsg (ev P n S e) (tgt P n S tg)else stS|.Raise exc cause _=>Jp1 P S (ev P n S) exc cause|.Try body hs o f _=>hTry P S n (ex P n S) body hs o f|.AugAssign (.Name x _) op e _=>(match S.sto x with|some i=>sAug op i<|ev P n S e|none=>stS)|.AugAssign (.Attribute o f _) op e _=>if P.fld f then X4 op f (ev P n S o) (ev P n S e)else stS|.AugAssign (.Subscript o k _) op e _=>if VS k then X5 op (ev P n S o) (ev P n S k) (ev P n S e)else stS|_=>stS
end
structure FnD(ce:CeT)(prog:ZD)(w:ZV)(K:W.Frag)(mg:Str->Wz)(base:Zaw)(k:Nat)(f:Fn)(fa:Zo)(fd:Zbc)(ps:Tk):Prop where
 len:ps.length=f.np
 ok:FnOk prog w K mg base (CXI prog w) k fa fd ps<|spI ce K ps f.run
 dv:∀j,j<=f.dvs.length->∃ds,Qh K fd ps ds/\ds.length=f.dvs.length-j/\∃vs,Vals vs ds/\∀ι H,RVs K ι H (f.dvs.drop j) vs
structure PgOk(ce:CeT)(k:Nat)(P:Pg)(prog:ZD)(w:ZV)(K:W.Frag)(mg:Str->Wz)(base:Zaw):Prop where
 fn:∀x f,P.fn x=Za f->∃fa fd ps,mg x=Za (.ref fa)/\W.keepIn K (.ref fa)=Zh/\FnD ce prog w K mg base k f fa fd ps
 cls:∀x f,P.cls x=Za f->∃C fa fd ps,mg x=Za (.ref C)/\ce x=Za C/\Mk K C fa/\FnD ce prog w K mg base k f fa fd ps
 meth:∀c m f,P.meth c m=Za f->∃C fa fd ps,ce c=Za C/\Cls K C/\Meth K C m fa/\FnD ce prog w K mg base k f fa fd ps
 con:∀x v,P.con x=Za v->∃u y,mg x=Za u/\RelV y u/\∀ι H,RV K ι H v y
 isa:∀D g,P.isa D=Za g->∃c,mg D=Za c/\IsOk ce K c λt=>match t with|.ins c=>Za (g c)|.exc _=>Zd|_=>Za Zj
 fld:∀f,P.fld f=Zh->XQ ce K f
 free:∀x,P.free x=Zh->mg x=Zd
 blt:∀q j,P.tabs q=Za j->Qy mg base
 rz:∀x,P.rz x=Zh->∃C,mg x=Za (.ref C)/\W.nsIn K Zu x=Za (Za<|.ref C)/\XCls K C
 xi:XiOk K mg P.xi P.xf
 bas:∀x,P.bas x=Zh->∃C,mg x=Za (.ref C)/\BasK K C
 wr:∀x r,P.wr x=Za r->True
 ne:∀c,P.ne c=Zh->∃C,ce c=Za C/\neIn K C=Zh/\ClsI K C/\W.kitOne K (.ref C) (.type "list")=Za Zj
 xo:∀x f,P.xo x=Za f->∃C fa fd ps,mg x=Za (.ref C)/\W.nsIn K Zu x=Za (Za<|.ref C)/\Jzv K C fa=Zh/\W.keepIn K (.ref C)=Zh/\(∀h:Zaw,K.In h->ExC h C)/\FnD ce prog w K mg base k f fa fd ps
 xb:∀x,P.xb x=Zh->∃C,mg x=Za (.ref C)/\BasX K C
structure Good(ce:CeT)(k:Nat)(P:Pg)(S:Sc)(X:Cx):Prop where
 n:X.N=S.N
 sc:X.env.scope.names=S.names
 nd:S.N.Nodup
 fk:X.env.scope.kind=.function
 calm:X.calm=Zh
 room:Room (k+1) X.A
 st:S.own=Zh->∀x,X.fn x=Zh
 pg:PgOk ce k P X.prog X.w X.K X.mg X.base
 code:S.own=Zh->W.codeIn X.K X.env.code S.q=Zh/\X.env.qual=S.q++".<locals>."
 room3:S.own=Zh->Room (k+3) X.A
 top:S.own=Zh->X.stack=X.env::X.outer/\X.env.frame=Za X.env.locals
section
variable{ce:CeT}{k:Nat}{P:Pg}{S:Sc}{X:Cx}{α β:Type}{R:REL α β}
theorem Ji{t:Sem β}:PX ce X R t (λ_ _=>.stuck):=λ_ _ _ _ _ _ _ _ _ _ K=>(show False from K).elim
theorem J4z(hh:∀σi h,∃m',m σi h=m' σi h/\PX ce X R t m'):PX ce X R t m:=by intro pj s σ H ι σi h Q E N K;obtain⟨m',e,p⟩:=hh σi h;rw[e]at K;exact p pj s σ H ι σi h Q E N K
theorem Yo:PIi ce X tg e stI:=λ_ _ _ _ _ _ _ _ _ _ K=>(show False from K).elim
theorem Yn:PGi ce X e stG:=λ_ _ _ _ _ _ _ _ _ _ _ _ _ K=>(show False from K).elim
theorem J9:PSi ce X t stS:=λ_ _ _ _ _ _ _ _ _ _ K=>(show False from K).elim
theorem Yg:∀{l:Tk}{i:Nat},ixOf x l=Za i->l[i]?=Za x
 |[],_,h=>by cases h
 |y::r,i,h=>by
  unfold ixOf at h;split at h
  ·rename_i e;cases h;simp[beq_iff_eq.mp e]
  ·obtain⟨j,hj,rfl⟩:=Z8.mp h;simpa using Yg hj
theorem Good.kind(G:Good ce k P S X)(x:Str):X.env.kindOf x=S.names.lookup x:=by show X.env.scope.names.lookup x=_;rw[G.sc]
theorem Good.vis(G:Good ce k P S X)(h:S.vis x=Za i):X.N[i]?=Za x/\Vis X.env.scope x/\(x==("__debug__":Str))=Zj/\(x==("__classdict__":Str))=Zj:=by
 unfold Sc.vis at h;have fin:∀{o:Zb6},(o=.local∨o=.cell∨o=.free)->S.names.lookup x=Za o->(if (x==("__debug__":Str)||x==("__classdict__":Str))=Zh then Zd else ixOf x S.N)=Za i ->X.N[i]?=Za x/\Vis X.env.scope x/\(x==("__debug__":Str))=Zj/\(x==("__classdict__":Str))=Zj:=λho e h=>by
  split at h
  ·cases h
  ·rename_i hd;have hd':=ZcI.mpr hd;rw[Bool.or_eq_false_iff]at hd';refine#[by rw[G.n];exact Yg h,?_,hd'.1,hd'.2];unfold Vis;rw[G.sc,e];rcases ho with rfl|rfl|rfl
   ·exact .inl rfl
   ·exact .inr<|.inl rfl
   ·exact .inr<|.inr rfl
 cases e:S.names.lookup x with|none=>rw[e]at h;cases h|some o=>rw[e]at h;cases o with| «local» =>exact fin (.inl rfl) e h|cell=>exact fin (.inr<|.inl rfl) e h|free=>exact fin (.inr<|.inr rfl) e h|_=>cases h
theorem Good.gl(G:Good ce k P S X)(h:S.gl x=Zh):Gl X x/\(x==("__debug__":Str))=Zj/\x≠"__name__":=by
 unfold Sc.gl at h;simp only[Zp,beq_iff_eq,Zbl]at h;refine#[?_,h.1.2,λe=>?_]
 ·show X.env.kindOf x=_;rw[G.kind];exact h.1.1
 ·have:=h.2;rw[e]at this;exact absurd this 01
theorem Good.sto(G:Good ce k P S X)(h:S.sto x=Za i):X.N[i]?=Za x/\Loc X.env.scope x/\(X.fn x=Zh∨X.env.scope.names.lookup x=Za .local):=by
 unfold Sc.sto at h;unfold L2.Loc;rw[G.sc];cases e:S.names.lookup x with|none=>rw[e]at h;cases h|some o=>
  rw[e]at h;cases o with
  | «local» =>exact#[by rw[G.n];exact Yg h,.inl rfl,.inr rfl]
  |cell=>
   dsimp only at h;split at h
   ·rename_i ho;exact#[by rw[G.n];exact Yg h,.inr rfl,.inl<|G.st ho x]
   ·cases h
  |_=>cases h
theorem Good.nodup(G:Good ce k P S X):X.N.Nodup:=by rw[G.n];exact G.nd
theorem Jx(h:Ju a=Zh):ZG (a::es) env=(Zj,Zby a env)::ZG es env:=by cases a<;>first|rfl|cases h
theorem VV{pos:Pos}{env:Env}:∀{es:Td},es.all Ju=Zh->(Zbz pos<|ZG es env).any (·.1)=Zj|[],_=>rfl|a::es,h=>by simp only[Zav,Zp]at h;rw[Jx h.1];show(Zj||(Zbz pos (ZG es env)).any (·.1))=Zj;rw[VV h.2]<;>rfl
theorem Jf9:∀{es:Td},es.all Ju=Zh->(Zbz pos<|ZG es env).all (λx=>!x.1)=Zh|[],_=>rfl|a::es,h=>by simp only[Zav,Zp]at h;rw[Jx h.1];show(Zh&&(Zbz pos<|ZG es env).all (λx=>!x.1))=Zh;rw[Jf9 h.2]<;>rfl
theorem Jxk{es:Td}(ha:es.all Ju=Zh)(hn:es.length<30):((Zbz pos<|ZG es env).all (λx=>!x.1)&&(ZeM pos<|Zdw [] env).all (λx=>x.1.isSome) && decide (es.length+([]:To).length+(if ([]:To).isEmpty then 0 else 1)<30))=Zh:=by show((Zbz pos<|ZG es env).all (λx=>!x.1)&&Zh&&decide (es.length+0+0<30))=Zh;rw[Jf9 ha];simpa using hn
theorem XS:∀(l:List E1),ALen l.length (aAll l)|[]=>Jsn|_::r=>Jon<|XS r
theorem Vg:∀{es:Td},es.all Ju=Zh->(∀e,PEi ce X e<|f e)->PAi ce X es (aAll<|es.map f)|[],_,_=>Q0|a::es,h,hf=>by simp only[Zav,Zp]at h;exact Qs (hf a) (Vg h.2 hf)<|Jx h.1
theorem Jvm(hf:∀e,PEi ce X e<|f e):∀(vs:Td),PEi ce X (.BoolOp .And vs pos) (Jw6<|vs.map f)|[]=>Ji|[a]=>J0z<|hf a|a::b::r=>J34 Yw (hf a)<|Jvm hf<|b::r
theorem J0c(hf:∀e,PEi ce X e<|f e):∀(vs:Td),PEi ce X (.BoolOp .Or vs pos) (eOrs<|vs.map f)|[]=>Ji|[a]=>J0z<|hf a|a::b::r=>i_or Yw (hf a)<|J0c hf<|b::r
theorem Jwa(hf:∀e,PTi ce X e<|f e):∀(vs:Td),PWi ce X (.BoolOp .And vs pos) (Jy2<|vs.map f)|[]=>λ_=>Ji|[a]=>Jy5<|hf a|a::b::r=>J2z (hf a)<|Jwa hf<|b::r
theorem J2w(hf:∀e,PTi ce X e<|f e):∀(vs:Td),PWi ce X (.BoolOp .Or vs pos) (tOrs<|vs.map f)|[]=>λ_=>Ji|[a]=>J20<|hf a|a::b::r=>J5d (hf a)<|J2w hf<|b::r
theorem Jvr:∀{es:Td},es.all Ju=Zh->(∀e,PGi ce X e<|f e)->PGsi ce X es (gAll<|es.map f)|[],_,_=>J0l|a::es,h,hf=>by simp only[Zav,Zp]at h;refine Jxi (hf a) (Jvr h.2 hf) ?_;cases a<;>first|rfl|exact absurd h.1 Zw
theorem Jvg:∀{es:Td},es.all Ju=Zh->(Zbf es env).length=es.length
 |[],_=>rfl
 |a::es,h=>by
  simp only[Zav,Zp]at h;have:Zbf (a::es) env=(Zj,Ze4 a env)::Zbf es env:=by cases a<;>first|rfl|exact absurd h.1 Zw
  rw[this,ZN,ZN,Jvg h.2]
theorem Jot{env:Env}:∀{es:Td},es.all Ju=Zh->(Zbf es env).findIdx? (·.1)=Zd
 |[],_=>rfl
 |a::es,h=>by
  simp only[Zav,Zp]at h;have:Zbf (a::es) env=(Zj,Ze4 a env)::Zbf es env:=by cases a<;>first|rfl|exact absurd h.1 Zw
  rw[this,List.findIdx?_cons,Jot h.2];rfl
theorem J4l(op:ZdA):OpI ce X (Zbv op) (binI op):=by
 cases op with
 |Add=>exact J4k
 |Sub=>exact J4q
 |Mult=>exact J1v
 |FloorDiv=>exact J1u
 |Mod=>exact J4n
 |Pow=>exact J4p
 |_=>exact λ_ _ _ _ _ _ _ _ _ _ _ _ _ _ _ _ K=>(show False from K).elim
theorem Yl(hu:X.A.units+64<cLine)(op:CmpOp):OpI ce X (ZaC op) (cmpI op):=by cases op with|Lt=>exact o_lt|LtE=>exact o_le|Gt=>exact o_gt|GtE=>exact o_ge|Eq=>exact o_eq hu|NotEq=>exact o_ne hu|Is=>exact o_is|IsNot=>exact Jya|_=>exact λ_ _ _ _ _ _ _ _ _ _ _ _ _ _ _ _ K=>(show False from K).elim
theorem Jv2(hu:X.A.units+64<cLine)(hn:∀c,ne c=Zh->∃C,ce c=Za C/\neIn X.K C=Zh)(op:CmpOp)(b:Expr):OpI ce X (ZaC op) (cmpD ne op b):=by
 unfold cmpD;split
 ·split
  ·exact J4m
  ·exact λ_ _ _ _ _ _ _ _ _ _ _ _ _ _ _ _ K=>(show False from K).elim
 ·exact Yl hu op
theorem J5i(a:Expr):IxI ce X (ixD a):=by
 unfold ixD;split
 ·exact J5h
 ·exact x_ix
theorem o_un(op:UnaryOp):UnI ce X (unaryOp op) (unI op):=by cases op with|Not=>exact Jy6 Yw|USub=>exact J5e|_=>exact λ_ _ _ _ _ _ _ _ _ _ _ _ _ K=>(show False from K).elim
theorem Jcc(h:Vm o=Zh):ZdL o m env w=w:=by
 cases o with
 |Call f as ks p=>
  cases f with
  |Name x q=>
   cases as with
   |nil=>cases ks with|nil=>cases h|cons _ _=>rfl
   |cons _ _=>rfl
  |_=>rfl
 |_=>rfl
theorem Yd(h:Xw e=Zh)(x:Zg):ZcG e env x=pure x:=by cases e<;>first|rfl|cases h
theorem Yv(h:QI e=Zh):Zeh e t l env=pure Zj:=by cases e<;>first|rfl|cases h
theorem Jts(h:VS i=Zh):Jom i:=λ_ _=>by cases i<;>first|rfl|cases h
theorem Jf1{o:Expr}{m:Str}{ap pos:Pos}{es:Td}{env:Env}(hb:Vm o=Zh)(hs:es.all Ju=Zh)(hl:(ap.endLine==pos.line)=Zh)(hn:es.length<30):Zby (.Call (.Attribute o m ap) es [] pos) env=(do
   let ov<-Zby o env
   ZfJ ap.atName
   let (f,first)<-Zce [ov] (ZeF ov m (do return(<-importBound o env).getD Zh))
   callWith pos f first (Zbz pos<|ZG es env) (ZeM pos<|Zdw [] env)):=by
 have hform:methodCallForm (es.length+([]:To).length) (Zbz pos<|ZG es env) (ZeM pos<|Zdw [] env)=Zh:=by show((Zbz pos<|ZG es env).all (λx=>!x.1)&&Zh&&decide (es.length+0+0<30))=Zh;rw[Jf9 hs];simpa using hn
 have hpos:methodCallPos Zh o env ap pos=pure pos:=by unfold methodCallPos;simp[hl]
 rw[arm_eval_Call,Jcc hb];unfold methodCall;rw[hform,hpos];rfl
end
section
variable{ce:CeT}{k:Nat}{P:Pg}{S:Sc}{X:Cx}
theorem Ji8(G:Good ce k P S X)(N0 l c:Tk)(js:Tq)(sc:ZbF):Q3 N0 l c js X.env.scope sc=Q3 N0 l c js S.fake sc:=by unfold Q3;rw[G.fk,G.sc];rfl
theorem Good.comp(G:Good ce k P S X){sc:ZbF}(h:Q3 S.N (Vk sc) (Qt sc) (jsOf S sc) S.fake sc=Zh)(C:Zo)(s:Zk)(H:Hp)(fp:Tw):Good ce k P (S.comp sc) (cxC X (Vk sc++Qt sc) sc C s H fp):=by
 simp only[Q3,Zp,decide_eq_true_eq]at h;obtain⟨⟨⟨⟨⟨⟨⟨⟨⟨kF,kF0⟩,kNC⟩,kL⟩,kFr⟩,kFx⟩,kJ⟩,kLen⟩,kNd⟩,kLo⟩:=h;refine#[rfl,?_,kNd,kF,G.calm,G.room,λz=>absurd z Zw,G.pg,λz=>absurd z Zw,λz=>absurd z Zw,λz=>absurd z Zw];show(relabel sc X.env).names=_;unfold relabel Sc.comp;dsimp only;refine Zcp λx _=>?_
 obtain⟨n,kd⟩:=x;dsimp only;rw[G.fk,G.kind];simp
end
structure Snd(ce:CeT)(k:Nat)(P:Pg)(n:Nat):Prop where
 e:∀S X e,Good ce k P S X->PEi ce X e (ev P n S e)
 t:∀S X e,Good ce k P S X->PTi ce X e (evT P n S e)
 o:∀S X e,Good ce k P S X->PPi ce X e (evO P n S e)
 c:∀S X x args p pos,Good ce k P S X->S.gl x=Zh->args.all Ju=Zh->PEi ce X (.Call (.Name x p) args [] pos) (Jpv P n S x args)
 i:∀S X tg e,Good ce k P S X->PIi ce X tg e (evI P n S tg e)
 g:∀S X e,Good ce k P S X->PGi ce X e (tgt P n S e)
section
variable{ce:CeT}{k:Nat}{P:Pg}{n:Nat}{S:Sc}{X:Cx}
theorem Ju0:Snd ce k P 0:=#[λ_ _ _ _=>Ji,λ_ _ _ _=>Ji,λ_ _ _ _=>Ji,λ_ _ _ _ _ _ _ _ _=>Ji,λ_ _ _ _ _=>Yo,λ_ _ _ _=>Yn]
theorem Jhx{prog:ZD}{w:ZV}{K:W.Frag}{mg:Str->Wz}{base:Zaw}{f:Fn}{fa:Zo}{fd:Zbc}{ps:Tk}{m:Nat}{d:Tx}(D:FnD ce prog w K mg base k f fa fd ps)(h:f.fill m=Za d):∃ds,Qh K fd ps ds/\m+ds.length=ps.length/\∃vs,Vals vs ds/\∀ι H,RVs K ι H d vs:=by
 unfold Fn.fill at h;split at h
 ·rename_i hz;cases h;obtain⟨ds,hb,hl,q⟩:=D.dv (f.dvs.length-(f.np-m)) 05;exact#[ds,hb,by rw[hl,D.len];lia,q]
 ·cases h
theorem Juv(G:Good ce k P S X)(hx:P.fn x=Za f)(hg:S.gl x=Zh){args:Td}(ha:args.all Ju=Zh)(hf:∀e,PEi ce X e<|g e){p pos:Pos}:PEi ce X (.Call (.Name x p) args [] pos) (VO f args.length<|aAll<|args.map g):=by
 obtain⟨fa,fd,ps,hm,hk,D⟩:=G.pg.fn x f hx;obtain⟨gl,hdb,_⟩:=G.gl hg;unfold VO;cases hd:f.fill args.length with|none=>exact Ji|some d=>obtain⟨ds,hb,hl,q⟩:=Jhx D hd;have hr:Room k X.A:=G.room.mono<|ZaR k;cases args with|nil=>exact Jxl D.ok hr gl hm hk hb q (by simpa using hl) hdb|cons a es=>have ha':=ha;simp only[Zav,Zp]at ha';refine J0p D.ok hr gl hm hk hb q (Vg ha hf) (λσ h xs h' e=>?_) hdb (Jx ha'.1)<|VV ha'.2;have:=XS _ σ h xs h' e;rw[Zr]at this;rw[this];exact hl
theorem Juw(G:Good ce k P S X)(hx:P.cls x=Za f)(hg:S.gl x=Zh){args:Td}(ha:args.all Ju=Zh)(hf:∀e,PEi ce X e<|g e){p pos:Pos}:PEi ce X (.Call (.Name x p) args [] pos) (Jl1 x f args.length<|aAll<|args.map g):=by
 obtain⟨C,fa,fd,ps,hm,hC,M,D⟩:=G.pg.cls x f hx;obtain⟨gl,hdb,_⟩:=G.gl hg;unfold Jl1;cases hd:f.fill (args.length+1)with|none=>exact Ji|some d=>obtain⟨ds,hb,hl,q⟩:=Jhx D hd;cases args with|nil=>exact Jxo M D.ok hC G.room gl hm hb q (by simp at hl;lia) hdb|cons a es=>have ha':=ha;simp only[Zav,Zp]at ha';refine J0u M D.ok hC G.room gl hm hb q (Vg ha hf) (λσ h xs h' e=>?_) hdb (Jx ha'.1)<|VV ha'.2;have:=XS _ σ h xs h' e;rw[Zr]at this;lia
theorem Jpk(G:Good ce k P S X)(m:Str)(n:Nat):Jol ce X m n (JV P m n):=by
 intro c f dvs h;unfold JV at h;cases hm:P.meth c m with|none=>rw[hm]at h;cases h|some fn=>rw[hm]at h;dsimp only at h;cases hd:fn.fill (n+1)with|none=>rw[hd]at h;cases h|some d=>rw[hd]at h;cases h;obtain⟨C,fa,fd,ps,hC,hcl,hM,D⟩:=G.pg.meth c m fn hm;obtain⟨ds,hb,hl,q⟩:=Jhx D hd;exact#[C,fa,fd,k,ps,ds,hC,hcl,hM,D.ok,G.room.mono<|ZaR k,hb,q,05]
theorem J3m(h:bmOf T m n=Za g):∃id,PlainAttrs T/\Slot T m id/\typeOf (.builtin id)=pure (.type "method_descriptor")/\MtI ce X T id g:=by
 unfold bmOf at h;split at h
 ·rename_i hm;simp only[Zp,beq_iff_eq]at hm;obtain⟨⟨rfl,rfl⟩,_⟩:=hm;cases h;exact#[_,Zc0,PySem.F.slot_list_append,PySem.F.type_list_append,Jt0]
 ·split at h
  ·rename_i hm;simp only[Zp,beq_iff_eq]at hm;obtain⟨⟨rfl,rfl⟩,_⟩:=hm;cases h;exact#[_,Zc0,PySem.F.slot_list_extend,PySem.F.type_list_extend,Jt1]
  ·split at h
   ·rename_i hm;simp only[Zp,beq_iff_eq]at hm;obtain⟨⟨rfl,rfl⟩,_⟩:=hm;cases h;exact#[_,Zc0,PySem.F.slot_list_pop,PySem.F.type_list_pop,J1n]
   ·split at h
    ·rename_i hm;simp only[Zp,beq_iff_eq]at hm;obtain⟨⟨rfl,rfl⟩,_⟩:=hm;cases h;exact#[_,Zc0,PySem.F.slot_list_remove,PySem.F.type_list_remove,Jt2]
    ·cases h
theorem J2u{o:Expr}{m:Str}{mo:E1}{args:Td}{f:Expr->E1}{ap pos:Pos}{T:String}{g:IV->Tx->IH->Res IV}{n:Nat}(hg:bmOf T m n=Za g)(ho:PEi ce X o mo)(hf:∀e,PEi ce X e<|f e)(ha:args.all Ju=Zh)(hb:Vm o=Zh)(hl:(ap.endLine==pos.line)=Zh)(hn:args.length<30):PEi ce X (.Call (.Attribute o m ap) args [] pos) (eBm T g mo<|aAll<|args.map f):=by obtain⟨id,pa,sl,ty,mt⟩:=J3m (ce:=ce) (X:=X) hg;cases args with|nil=>exact J36 pa sl ty mt ho (Jcc hb) hl|cons a es=>have ha':=ha;simp only[Zav,Zp]at ha';exact i_bm pa sl ty mt ho (Vg ha hf) (Jcc hb) (Jxk ha hn) hl (Jx ha'.1)<|VV ha'.2
theorem Jyx(G:Good ce k P S X){o:Expr}{m:Str}{mo:E1}{args:Td}{f:Expr->E1}{ap pos:Pos}(ho:PEi ce X o mo)(hf:∀e,PEi ce X e<|f e)(ha:args.all Ju=Zh)(hb:Vm o=Zh)(hl:(ap.endLine==pos.line)=Zh)(hn:args.length<30):PEi ce X (.Call (.Attribute o m ap) args [] pos) (Jp P m args.length mo<|aAll<|args.map f):=by
 refine J4z λσi h=>?_
 unfold Jp;cases e:mo σi h with|exc n h1=>exact#[λ_ _=>.stuck,rfl,Ji]|stuck=>exact#[λ_ _=>.stuck,rfl,Ji]|ok v h1=>
  dsimp only;split
  ·refine#[_,rfl,?_];cases args with|nil=>exact Jxp ho (Jpk G m 0)<|Jf1 hb ha hl hn|cons a es=>have ha':=ha;simp only[Zav,Zp]at ha';refine J0w ho (Jpk G m (a::es).length) (Vg ha hf) (λσ h xs h' e=>?_) (Jx ha'.1) (VV ha'.2)<|Jf1 hb ha hl hn;have:=XS _ σ h xs h' e;rwa [Zr]at this
  ·cases hg:bmOf (tyS v h1) m args.length with|none=>exact#[λ_ _=>.stuck,rfl,Ji]|some g=>exact#[_,rfl,J2u hg ho hf ha hb hl hn]
theorem Jus(G:Good ce k P S X){o:Expr}{m:Str}{mo:E1}{args:Td}{f:Expr->E1}{ap pos:Pos}(ho:PEi ce X o mo)(hf:∀e,PEi ce X e<|f e)(ha:args.all Ju=Zh)(hb:Vm o=Zh)(hl:(ap.endLine==pos.line)=Zh)(hn:args.length<30):PEi ce X (.Call (.Attribute o m ap) args [] pos) (Jw7 P m args.length (Jls P S m o) mo<|aAll<|args.map f):=by
 cases eb:Jls P S m o with|none=>exact Jyx G ho hf ha hb hl hn|some g=>
  cases o with
  |Name x q=>
   have eb2:(if m=="__init__"&&S.gl x&&P.bas x then P.cls x else Zd)=Za g:=eb;clear eb;split at eb2
   ·rename_i hq;simp only[Zp,beq_iff_eq]at hq;obtain⟨⟨rfl,hg⟩,hx⟩:=hq;obtain⟨C,fa,fd,ps,hm,hC,M,D⟩:=G.pg.cls x g eb2;obtain⟨C',hm',B⟩:=G.pg.bas x hx;rw[hm]at hm';cases hm';obtain⟨gl,hdb,_⟩:=G.gl hg;show PEi ce X _ (if args.length=0 then stE else VO g args.length (aAll<|args.map f));split
    ·exact Ji
    rename_i hz;unfold VO;cases hd:g.fill args.length with|none=>exact Ji|some d=>obtain⟨ds,hb',hl',q⟩:=Jhx D hd;have hr:Room k X.A:=G.room.mono<|ZaR k;cases args with|nil=>exact absurd rfl hz|cons a es=>have ha':=ha;simp only[Zav,Zp]at ha';refine J0o D.ok hr gl hm B M hb' q (Vg ha hf) (λσ h xs h' e=>?_) hdb (Jx ha'.1) (VV ha'.2)<|Jf1 hb ha hl hn;have:=XS _ σ h xs h' e;rw[Zr]at this;rw[this];exact hl'
   ·cases eb2
  |_=>cases eb
theorem Jyy(G:Good ce k P S X){a:Expr}{ma:E1}{y:Str}{p p2 pos:Pos}(ha:PEi ce X a ma)(hs:Ju a=Zh)(hg:S.gl "isinstance"=Zh)(hfr:P.free "isinstance"=Zh)(hy:S.gl y=Zh):
  PEi ce X (.Call (.Name "isinstance" p) [a,.Name y p2] [] pos) (Jw8 (Jso P y) ma):=by
 unfold Jw8;cases e:Jso P y with|none=>exact Ji|some ans=>
  obtain⟨gy,ydb,yn⟩:=G.gl hy;have fin:∀{c:Zg},ClsE X (.Name y p2) c->IsOk ce X.K c ans->PEi ce X (.Call (.Name "isinstance" p) [a,.Name y p2] [] pos) (eIsi ans ma):=λhc O=>
   J39 hc O ha (G.gl hg).1 (G.pg.free _ hfr) rfl (Jx hs) rfl rfl
  unfold Jso at e;cases hi:P.isa y with|some g=>rw[hi]at e;cases e;obtain⟨c,hm,O⟩:=G.pg.isa y g hi;exact fin (Jpa gy hm ydb) O|none=>
   rw[hi]at e;dsimp only at e;split at e
   ·rename_i hf;have hm:=G.pg.free y hf;split at e
    ·rename_i q;cases (beq_iff_eq.mp q);cases e;exact fin (Xe gy hm rfl yn ydb) Jtj
    ·split at e
     ·rename_i q;cases (beq_iff_eq.mp q);cases e;exact fin (Xe gy hm rfl yn ydb) Jqi
     ·split at e
      ·rename_i q;cases (beq_iff_eq.mp q);cases e;exact fin (Xe gy hm rfl yn ydb) Jtk
      ·split at e
       ·rename_i q;cases (beq_iff_eq.mp q);cases e;refine fin (Xe gy hm rfl yn ydb) ?_;split
        ·rename_i q;refine Jnv λC hC=>?_
         obtain⟨C',h1,_,h2⟩:=G.pg.ne _ q;cases hC.symm.trans h1;exact h2
        ·exact Jjp
       ·split at e
        ·rename_i q;cases (beq_iff_eq.mp q);cases e;exact fin (Xe gy hm rfl yn ydb) Jtl
        ·cases e
   ·cases e
theorem Jut(G:Good ce k P S X){a:Expr}{ma:E1}{x:Str}{p pos:Pos}(ha:PEi ce X a ma)(hs:Ju a=Zh)(hg:S.gl x=Zh)(hfr:P.free x=Zh)(hx:Jqg x=Zh):
  PEi ce X (.Call (.Name x p) [a] [] pos) (eCB (bltF x)<|Jb ma Jd):=by
 obtain⟨gx,xdb,xn⟩:=G.gl hg;have hm:=G.pg.free x hfr;have hh:=G.room.hd;have pa:PAi ce X [a] (Jb ma Jd):=Qs ha Q0<|Jx hs;unfold Jqg at hx;simp only[ZaY,beq_iff_eq]at hx;rcases hx with(((rfl|rfl)|rfl)|rfl)|rfl
 ·exact V3 J3o gx hm rfl pa xn xdb (Jx hs) rfl
 ·exact V3 (J3n hh) gx hm rfl pa xn xdb (Jx hs) rfl
 ·exact V3 (J3r hh) gx hm rfl pa xn xdb (Jx hs) rfl
 ·exact V3 (Jz4 hh) gx hm rfl pa xn xdb (Jx hs) rfl
 ·exact V3 (Jz3 hh) gx hm rfl pa xn xdb (Jx hs) rfl
theorem Juu(G:Good ce k P S X){a:Expr}{ma:E1}{x:Str}{p pos:Pos}(ha:PEi ce X a ma)(hs:Ju a=Zh)(hg:S.gl x=Zh)(hfr:P.free x=Zh)(hx:Jqh x=Zh):PEi ce X (.Call (.Name x p) [a] [] pos) (eCB (bltT x)<|Jb ma Jd):=by
 obtain⟨gx,xdb,xn⟩:=G.gl hg;have hm:=G.pg.free x hfr;have pa:PAi ce X [a] (Jb ma Jd):=Qs ha Q0<|Jx hs;unfold Jqh at hx;simp only[ZaY,beq_iff_eq]at hx;rcases hx with rfl|rfl
 ·exact Jp8 Jz2 gx hm rfl pa xn xdb (Jx hs) rfl
 ·exact Jp8 Jwy gx hm rfl pa xn xdb (Jx hs) rfl
theorem Jrq(G:Good ce k P S X)(hf:∀e,PEi ce X e<|f e){args:Td}{p pos:Pos}(hg:S.gl x=Zh)(ha:args.all Ju=Zh)(hfr:P.free x=Zh):
  PEi ce X (.Call (.Name x p) args [] pos) (Jkr P S x f args):=by
 unfold Jkr;split
 ·rename_i a b;simp only[Zav,Zp]at ha;obtain⟨gx,xdb,xn⟩:=G.gl hg;have hm:=G.pg.free x hfr;have pa:PAi ce X [a,b] (Jb (f a)<|Jb (f b) Jd):=Qs (hf a) (Qs (hf b) Q0<|Jx ha.2.1)<|Jx ha.1;have h1:∀pos,(Zbz pos<|ZG [b] X.env).any (·.1)=Zj:=λpos=>VV<|by simp[ha.2.1]
  split
  ·rename_i hs;cases (beq_iff_eq.mp hs);exact V3 (J3p G.calm) gx hm rfl pa xn xdb (Jx ha.1) (h1 _)
  ·split
   ·rename_i hs;cases (beq_iff_eq.mp hs);exact V3 (J3q G.calm) gx hm rfl pa xn xdb (Jx ha.1) (h1 _)
   ·split
    ·rename_i y p2 _;split
     ·rename_i hs;simp only[Zp,beq_iff_eq]at hs;obtain⟨rfl,hy⟩:=hs;exact Jyy G (hf a) ha.1 hg hfr hy
     ·exact Ji
    ·exact Ji
 ·rename_i a;simp only[Zav,Zp]at ha;split
  ·rename_i e he;split at he
   ·rename_i hc;simp only[Zp,beq_iff_eq]at hc;obtain⟨⟨rfl,g2⟩,f2⟩:=hc;unfold Jmh at he;split at he
    ·split at he
     ·rename_i hq;simp only[Zp,beq_iff_eq]at hq;obtain⟨rfl,ns⟩:=hq;cases he;exact Jtf G.room.hd (G.gl hg).1 (G.pg.free _ hfr) (G.gl g2).1 (G.pg.free _ f2) (Qs (hf e) Q0<|Jx ns) (Jx ns)
     ·cases he
    ·cases he
   ·cases he
  ·split
   ·rename_i e he;split at he
    ·rename_i hc;simp only[Zp,beq_iff_eq]at hc;obtain⟨⟨rfl,g2⟩,f2⟩:=hc;unfold Jme at he;split at he
     ·split at he
      ·rename_i hq;simp only[Zp,beq_iff_eq]at hq;obtain⟨rfl,ns⟩:=hq;cases he;exact Ji
      ·cases he
     ·cases he
    ·cases he
   ·split
    ·rename_i hq;simp only[Zp,beq_iff_eq]at hq;obtain⟨rfl,_⟩:=hq;exact V3 Jz1 (G.gl hg).1 (G.pg.free _ hfr) rfl (Qs (hf a) Q0<|Jx ha.1) 01 rfl (Jx ha.1) rfl
    split
    ·rename_i hb;exact Jut G (hf a) ha.1 hg hfr hb
    ·split
     ·rename_i hb;exact Juu G (hf a) ha.1 hg hfr hb
     ·exact Ji
 ·exact Ji
theorem Jod(G:Good ce k P S X)(hf:∀e,PEi ce X e<|f e){args:Td}{p pos:Pos}(hg:S.gl x=Zh)(ha:args.all Ju=Zh)(hfr:P.free x=Zh):PEi ce X (.Call (.Name x p) args [] pos) (Je0 P S x f args):=by
 unfold Je0;split
 ·rename_i e he;split at he
  ·rename_i hc;simp only[Zp,beq_iff_eq]at hc;obtain⟨⟨rfl,g2⟩,f2⟩:=hc;unfold Jrm at he;split at he
   ·unfold Jmh at he;split at he
    ·split at he
     ·rename_i hq;simp only[Zp,beq_iff_eq]at hq;obtain⟨rfl,ns⟩:=hq;cases he;exact Jqa G.room.hd (G.gl hg).1 (G.pg.free _ hfr) (G.gl g2).1 (G.pg.free _ f2) (Qs (hf e) Q0<|Jx ns) (Jx ns)
     ·cases he
    ·cases he
   ·cases he
  ·cases he
 ·exact Jrq G hf hg ha hfr
theorem Q8.of(G:Good ce k P S X)(h:Q8 S y sc=Zh):LamSc X.N X.env.scope.names y (Qt sc) (jsOf S sc) sc:=by rw[G.n,G.sc];simp only[Q8,Zp,beq_iff_eq,Zbl,decide_eq_true_eq,Zcr,ZaY,beq_eq_false_iff_ne]at h;obtain⟨⟨⟨⟨⟨⟨⟨h1,h2⟩,h3⟩,h4⟩,h5⟩,h6⟩,h7⟩,h8⟩:=h;refine#[h1,h2,h3,h4,h5,λz hz e=>(h6 z hz).resolve_left λq=>q e,λz e=>Zap e,λi j z ej ez=>?_,by simp[jsOf],h8];unfold jsOf at ej;rw[Zy,ez]at ej;cases ej;exact h7 z<|ZcJ ez
theorem Good.lam(G:Good ce k P S X)(ho:S.own=Zh){y:Str}{sc:ZbF}(h:Q8 S y sc=Zh)(f:Zo)(cd:Zg)(s:Zk)(H:Hp):Good ce k P (S.lam y sc) (cxL X X.A.in1 (y::Qt sc) S.q sc f cd s H):=by have L:=Q8.of G h;exact#[rfl,rfl,L.nd,L.kind,rfl,(G.room3 ho).in1.deeper _,λz=>absurd z Zw,G.pg,λz=>absurd z Zw,λz=>absurd z Zw,λz=>absurd z Zw]
theorem Good.lam2(G:Good ce k P S X)(ho:S.own=Zh){y:Str}{sc:ZbF}(h:Q8 S y sc=Zh)(f:Zo)(cd:Zg)(s:Zk)(H:Hp):Good ce k P (S.lam y sc) (cxL X X.A.in1.in1 (y::Qt sc) S.q sc f cd s H):=by
 have L:=Q8.of G h;have R:=G.room3 ho;refine#[rfl,rfl,L.nd,L.kind,rfl,#[R.hd,?_,?_],λz=>absurd z Zw,G.pg,λz=>absurd z Zw,λz=>absurd z Zw,λz=>absurd z Zw]
 ·have:=R.dp;show X.A.depth+1+3*(k+1)+5<_;lia
 ·have:=R.un;show X.A.units+1+1+3+16*(k+1)+200<_;lia
theorem Joe(G:Good ce k P S X)(hf:∀S X e,Good ce k P S X->PEi ce X e (f S e)):PEi ce X (.Call (.Name x p) [a] [#[Za y,.Lambda ps body sc lp,kp],#[Za y2,d,kp2]] pos) (Jrr P S f x a y ps body sc y2 d):=by
 unfold Jrr;split
 ·rename_i e z j he hy hj;split
  ·rename_i hq;simp only[Zp,beq_iff_eq]at hq;obtain⟨⟨⟨⟨⟨⟨⟨⟨⟨rfl,rfl⟩,rfl⟩,ht⟩,g1⟩,f1⟩,g2⟩,f2⟩,ho⟩,ok⟩:=hq;unfold Jme at he;unfold J01 at ht;split at he
   ·split at he
    ·rename_i hc;simp only[Zp,beq_iff_eq]at hc;obtain⟨rfl,ns⟩:=hc;cases he;split at ht
     ·exact Jth (k:=k) G.room.hd (G.gl g1).1 (G.pg.free _ f1) (G.gl g2).1 (G.pg.free _ f2) (Qs (hf _ _ _ G) Q0<|Jx ns) (Jx ns) (G.room3 ho) (G.code ho).1 (G.code ho).2 (G.pg.blt _ _ hj) hy (Q8.of G ok) λf cd s' H'=>hf _ _ _<|G.lam2 ho ok f cd s' H'
     ·cases ht
    ·cases he
   ·cases he
  ·exact Ji
 ·exact Ji
theorem Jux(G:Good ce k P S X)(hf:∀S X e,Good ce k P S X->PEi ce X e (f S e)):PEi ce X (.Call (.Name x p) [a] [#[Za y,d,kp]] pos) (minK P S f x a y d):=by
 cases d with
 |Lambda ps body sc lp=>
  show PEi ce X _ (match QW ps,P.tabs S.q with|some z,Za j=>if x=="min"&&y=="key"&&S.gl x&&P.free x&&Ju a&&S.own&&Q8 S z sc then Xm ltT S.q j (jsOf S sc) (Jb (f S a) Jd) (f (S.lam z sc) body)else stE|_,_=>stE);cases hy:QW ps with|none=>exact Ji|some z=>
   cases hj:P.tabs S.q with|none=>exact Ji|some j=>
    dsimp only;split
    ·rename_i hq;simp only[Zp,beq_iff_eq]at hq;obtain⟨⟨⟨⟨⟨⟨rfl,rfl⟩,g1⟩,f1⟩,ns⟩,ho⟩,ok⟩:=hq;exact J0x (k:=k+1) (G.gl g1).1 (G.pg.free _ f1) (Qs (hf _ _ _ G) Q0<|Jx ns) (λA h=>Jwz 05) (Jx ns) (G.room3 ho) (G.code ho).1 (G.code ho).2 (G.pg.blt _ _ hj) hy (Q8.of G ok) λf cd s' H'=>hf _ _ _<|G.lam ho ok f cd s' H'
    ·exact Ji
 |_=>exact Ji
theorem J2v(G:Good ce k P S X)(hf:∀S X e,Good ce k P S X->PEi ce X e (f S e)):PEi ce X (.Call (.Name x p) args kws pos) (Jqp P S f x args kws):=by
 unfold Jqp;split
 ·split
  ·rename_i hq;simp only[Zp,beq_iff_eq]at hq;obtain⟨⟨⟨⟨rfl,rfl⟩,g1⟩,f1⟩,ns⟩:=hq;exact J0v G.room.hd (G.gl g1).1 (G.pg.free _ f1) (Qs (hf _ _ _ G) Q0<|Jx ns) (hf _ _ _ G) (Jx ns)
  ·exact Jux G hf
 ·exact Joe G hf
 ·exact Ji
theorem Juz(ih:Snd ce k P n):Snd ce k P (n+1):=by
 refine#[λS X e G=>?_,λS X e G=>?_,λS X e G=>?_,λS X x args p pos G hg ha=>?_,λS X tg e G=>?_,λS X e G=>?_]
 ·have ihe:=λe=>ih.e S X e G
  have hu:=G.room.units;cases e with
  |Constant c j p=>cases c with|int i=>exact J0t|bool b=>exact i_bl|none=>exact J0y|str x=>exact J00|_=>exact Ji
  |Name x p=>
   show PEi ce X (.Name x p) (match S.vis x with|some i=>Ja i|none=>if S.gl x then(match P.con x with|some v=>eC v|none=>stE)else stE);cases hv:S.vis x with|some i=>obtain⟨h1,h2,h3,h4⟩:=G.vis hv;exact J4c i h1 h2 h3 h4|none=>
    dsimp only;split
    ·rename_i hg;obtain⟨gx,xdb,_⟩:=G.gl hg;cases hc:P.con x with|none=>exact Ji|some v=>obtain⟨u,y,hm,r,q⟩:=G.pg.con x v hc;exact J0s gx hm r q xdb
    ·exact Ji
  |BinOp a op b p=>exact J35 (J4l op) (ihe a)<|ihe b
  |UnaryOp op a p=>exact i_un (o_un op)<|ihe a
  |BoolOp op vs p=>cases op with|And=>exact Jvm ihe vs|Or=>exact J0c ihe vs
  |IfExp t a b p=>exact Jxn (ih.t S X t G) (ihe a)<|ihe b
  |Compare a ops cs p=>
   match ops,cs with
   |[o],[b]=>
    show PEi ce X _ (if Zdc o b then stE else Jc (cmpD P.ne o b) (ev P n S a) (ev P n S b));split
    ·exact Ji
    ·rename_i hb;exact J37 (Jv2 hu (λc z=>let ⟨C,p,q,_⟩:=G.pg.ne c z;#[C,p,q]) o b) (ihe a) (ihe b)<|ZcI.mpr hb
   |[o,o'],[b,c]=>
    show PEi ce X _ (if ZeJ [o,o'] [b,c]then stE else JW (cmpI o) (cmpI o') (ev P n S a) (ev P n S b) (ev P n S c));split
    ·exact Ji
    ·rename_i hb;exact Jxm (Yl hu o) (Yl hu o') (ihe a) (ihe b) (ihe c)<|ZcI.mpr hb
   |[],_=>exact Ji
   |[_],[]=>exact Ji
   |[_],_::_::_=>exact Ji
   |[_,_],[]=>exact Ji
   |[_,_],[_]=>exact Ji
   |[_,_],_::_::_::_=>exact Ji
   |_::_::_::_,_=>exact Ji
  |Tuple es j p=>
   show PEi ce X _ (if es.all Ju then eTup (aAll<|es.map<|ev P n S)else stE);split
   ·rename_i hs;exact J4b<|Vg hs ihe
   ·exact Ji
  |List es p=>
   show PEi ce X _ (if es.all Ju then eLst (aAll<|es.map<|ev P n S)else stE);split
   ·rename_i hs;exact J4a<|Vg hs ihe
   ·exact Ji
  |Dict ks vs p=>match ks,vs with|[Za k],[v]=>exact Ji|[],[]=>exact J0q|[],_::_=>exact Ji|[Zd],_=>exact Ji|[Za _],[]=>exact Ji|[Za _],_::_::_=>exact Ji|some _::_::_,_=>exact Ji|none::_::_,_=>exact Ji
  |Subscript a i p=>
   cases i with
   |Slice lo hi st q=>cases st with|none=>exact Jxq x_sl (ihe a) (ih.o S X lo G)<|ih.o S X hi G|some st=>exact Ji
   |_=>exact i_ix (J5i a) (ihe a) (ihe _)<|Jts rfl
  |Attribute o f p=>
   show PEi ce X _ (if Vm o&&P.fld f then Jj f (ev P n S o)else stE);split
   ·rename_i hs;simp only[Zp]at hs;exact J38 (ihe o) (G.pg.fld f hs.2)<|Jcc hs.1
   ·exact Ji
  |Call f args kws p=>
   cases kws with
   |cons kw kws=>cases f with|Name x q=>exact J2v G λS X e G=>ih.e S X e G|_=>exact Ji
   |nil=>
    cases f with
    |Name x q=>
     show PEi ce X _ (if S.gl x&&args.all Ju then Jpv P n S x args else stE);split
     ·rename_i hs;simp only[Zp]at hs;exact ih.c S X x args q p G hs.1 hs.2
     ·exact Ji
    |Attribute o m ap=>
     show PEi ce X _ (if args.all Ju&&Vm o&&(ap.endLine==p.line)&&decide (args.length<30)then Jw7 P m args.length (Jls P S m o) (ev P n S o) (aAll<|args.map<|ev P n S)else stE);split
     ·rename_i hs;simp only[Zp,decide_eq_true_eq]at hs;exact Jus G (ihe o) ihe hs.1.1.1 hs.1.1.2 hs.1.2 hs.2
     ·exact Ji
    |_=>exact Ji
  |ListComp elt gens sc p=>
   match gens with
   |[⟨tg,iter,ifs,as⟩]=>
    show PEi ce X _ (if as=0/\Xw iter=Zh/\Q3 S.N (Vk sc) (Qt sc) (jsOf S sc) S.fake sc=Zh then
     Jpb ifs (evT P n<|S.comp sc) (λmt=>Js (evI P n S tg iter) (Vk sc).length (jsOf S sc) (tgt P n (S.comp sc) tg) mt<|ev P n (S.comp sc) elt)else stE)
    split
    ·rename_i hs;obtain⟨rfl,hi,ok⟩:=hs;have Gc:=G.comp ok;have ok':=ok;rw[<-Ji8 G]at ok';match ifs with|[]=>exact Jvt G.calm (ih.i S X tg iter G) (λC s H fp=>ih.g _ _ tg<|Gc C s H fp) (λC s H fp=>Jwe) (λC s H fp=>ih.e _ _ elt<|Gc C s H fp) ok' G.n rfl (Yd hi)|[c]=>exact Jvt G.calm (ih.i S X tg iter G) (λC s H fp=>ih.g _ _ tg<|Gc C s H fp) (λC s H fp=>Jwf<|ih.t _ _ c<|Gc C s H fp) (λC s H fp=>ih.e _ _ elt<|Gc C s H fp) ok' G.n rfl (Yd hi)|_::_::_=>exact Ji
    ·exact Ji
   |[]=>exact Ji
   |⟨_,_,_,_⟩::_::_=>exact Ji
  |_=>exact Ji
 ·have ihe:=λe=>ih.e S X e G
  have hu:=G.room.units;cases e with
  |UnaryOp op a p=>cases op with|Not=>exact J5a<|ih.t S X a G|_=>exact J2x Yw<|ihe _
  |BoolOp op vs p=>cases op with|And=>exact(Jwa (λe=>ih.t S X e G) vs).t|Or=>exact(J2w (λe=>ih.t S X e G) vs).t
  |IfExp t a b p=>exact Ji
  |Compare a ops cs p=>
   match ops,cs with
   |[o],[b]=>
    show PTi ce X _ (if Zdc o b then stT else Jh asB (Jc (cmpD P.ne o b) (ev P n S a)<|ev P n S b));split
    ·exact Ji
    ·rename_i hb;exact J49 (Jv2 hu (λc z=>let ⟨C,p,q,_⟩:=G.pg.ne c z;#[C,p,q]) o b) (ihe a) (ihe b)<|ZcI.mpr hb
   |[o,o'],[b,c]=>
    show PTi ce X _ (if ZeJ [o,o'] [b,c]then stT else Jh asB (JW (cmpI o) (cmpI o') (ev P n S a) (ev P n S b)<|ev P n S c));split
    ·exact Ji
    ·rename_i hb;exact Jy3 (Yl hu o) (Yl hu o') (ihe a) (ihe b) (ihe c)<|ZcI.mpr hb
   |[],_=>exact Ji
   |[_],[]=>exact Ji
   |[_],_::_::_=>exact Ji
   |[_,_],[]=>exact Ji
   |[_,_],[_]=>exact Ji
   |[_,_],_::_::_::_=>exact Ji
   |_::_::_::_,_=>exact Ji
  |_=>exact J2x Yw<|ihe _
 ·cases e with|none=>exact J12|some e=>exact J13<|ih.e S X e G
 ·have ihe:=λe=>ih.e S X e G
  show PEi ce X _ (match P.fn x with|some f=>VO f args.length<|aAll<|args.map<|ev P n S|none=>match P.cls x with|some f=>Jl1 x f args.length<|aAll<|args.map<|ev P n S|none=>if P.free x then Je0 P S x (ev P n S) args else stE);cases hx:P.fn x with|some f=>exact Juv G hx hg ha ihe|none=>
   dsimp only;cases hc:P.cls x with|some f=>exact Juw G hc hg ha ihe|none=>
    dsimp only;split
    ·rename_i hfr;exact Jod G ihe hg ha hfr
    ·exact Ji
 ·have ihe:=λe=>ih.e S X e G
  cases e with
  |Call f args kws p=>
   cases kws with|cons _ _=>cases f<;>exact Jte<|ihe _|nil=>
    cases f with
    |Name x q=>
     show PIi ce X tg _ (if S.gl x&&P.free x&&args.all Ju&&(x=="range")then J0n args.length (aAll<|args.map<|ev P n S)
      else if S.gl x&&P.free x&&args.all Ju&&(x=="enumerate")then(match tg,args with|.Tuple ..,[a]=>iRg QG<|Jb (ev P n S a) Jd|_,_=>stI)
      else Jy (ev P n S<|.Call (.Name x q) args [] p))
     split
     ·rename_i hs;simp only[Zp,beq_iff_eq]at hs;obtain⟨⟨⟨hg,hf⟩,ha⟩,rfl⟩:=hs;obtain⟨gx,_,_⟩:=G.gl hg;have hm:=G.pg.free _ hf;have pa:=Vg ha ihe;match args,ha,pa with|[],_,_=>exact Yo|[a],ha,pa=>simp only[Zav,Zp]at ha;exact Jtg gx hm pa<|Jx ha.1|[a,b],ha,pa=>simp only[Zav,Zp]at ha;exact Yo|_::_::_::_,_,_=>exact Yo
     ·split
      ·rename_i hs;simp only[Zp,beq_iff_eq]at hs;obtain⟨⟨⟨hg,hf⟩,ha⟩,rfl⟩:=hs;obtain⟨gx,_,_⟩:=G.gl hg;have hm:=G.pg.free _ hf;split
       ·simp only[Zav,Zp]at ha;exact J0r gx hm (Qs (ihe _) Q0<|Jx ha.1)<|Jx ha.1
       ·exact Yo
      ·exact Jte<|ihe _
    |_=>exact Jte<|ihe _
  |_=>exact Jte<|ihe _
 ·cases e with
  |Name x p=>show PGi ce X _ (match S.sto x with|some i=>gNm i|none=>stG);cases hv:S.sto x with|none=>exact Yn|some i=>obtain⟨h1,h2,h3⟩:=G.sto hv;exact g_nm G.nodup h1 h2 h3
  |Tuple es j p=>
   show PGi ce X _ (if es.all Ju then gTp es.length (gAll<|es.map<|tgt P n S)else stG);split
   ·rename_i hs;exact J30 G.calm (Jvr hs λe=>ih.g S X e G) (Jvg hs)<|Jot hs
   ·exact Yn
  |Subscript o i p=>
   show PGi ce X _ (if VS i then gSbF o (ev P n S o) (ev P n S i)else stG);split
   ·rename_i hs;unfold gSbF;split
    ·refine J0h (ih.e S X o G) (ih.e S X i G) λv=>?_
     cases i<;>first|rfl|cases hs
    ·refine J3z (ih.e S X o G) (ih.e S X i G) λv=>?_
     cases i<;>first|rfl|cases hs
   ·exact Yn
  |_=>exact Yn
theorem Jin(ce:CeT)(k:Nat)(P:Pg):∀n,Snd ce k P n|0=>Ju0|n+1=>Juz<|Jin ce k P n
end
section
variable{ce:CeT}{X:Cx}{pos:Pos}
theorem Jyq{c:Expr}{body:Tn}{mt:T1}{mb:S1}(hst:X.stack=X.env::X.outer)(hf:X.env.frame=Za X.env.locals)(hc:PTi ce X c mt)(hb:PS2 ce X body mb):PS1 ce X (.While c body [] pos) (X6 mt mb):=by
 intro pj s σ H ι σi h Q E N K;rw[Jjy]at K;generalize VE=m0 at K;refine wpAny_While<|codeAny_whileLoop (λn s'=>∃ιk σk hk σ' H',Now ce X pj ιk σk hk σ' H' s'/\Nxt ι H ιk H'/\J8 ce X pj ιk H' (Va mt mb n σk hk) Q E) ?_ m0 #[ι,σi,h,σ,H,N,.refl,K];rintro n s1 ⟨ι1,σ1i,h1,σ1,H1,N1,n1,K1⟩;cases n with|zero=>exact Zf K1|succ n=>
  unfold Va at K1;refine nof<|hc pj s1 σ1 H1 ι1 σ1i h1 _ (λ_ _=>False) N1 ?_;cases et:mt σ1i h1 with|exc m h2=>rw[et]at K1;exact Zf K1|stuck=>rw[et]at K1;exact Zf K1|ok b h2=>
   rw[et]at K1;intro b' s2 H2 ι2 N2 n2 r2;have r':b'=b:=r2;subst r';dsimp only at K1;cases b' with|false=>exact Zdk<|K1 s2 σ1 H2 ι2 N2 n2|true=>
    rw[if_pos rfl];rw[if_pos rfl]at K1;refine hb pj s2 σ1 H2 ι2 σ1i h2 _ _ N2 ?_;cases eb:mb σ1i h2 with
    |next σ3 h3=>rw[eb]at K1;exact λs3 σ3' H3 ι3 N3 n3=>#[n,Za4 n,ι3,σ3,h3,σ3',H3,N3,(n1.trans n2).trans n3,J8.mono (r:=Va mt mb n σ3 h3) K1<|n2.trans n3]
    |cont σ3 h3=>rw[eb]at K1;exact λs3 σ3' H3 ι3 N3 n3=>#[n,Za4 n,ι3,σ3,h3,σ3',H3,N3,(n1.trans n2).trans n3,J8.mono (r:=Va mt mb n σ3 h3) K1<|n2.trans n3]
    |brk σ3 h3=>rw[eb]at K1;exact λs3 σ3' H3 ι3 N3 n3=>K1 s3 σ3' H3 ι3 N3<|n2.trans n3
    |ret v h3=>rw[eb]at K1;exact λu s3 σ3i σ3' H3 ι3 N3 n3 r=>K1 u s3 σ3i σ3' H3 ι3 N3 (n2.trans n3) r
    |exc m σ3 h3=>
     rw[eb]at K1;dsimp only at K1;cases hj:h3[m]? with|none=>rw[hj]at K1;exact Zf K1|some ob=>
      cases ob with
      |exc c fs=>
       rw[hj]at K1;intro pl a s7 σ7 H7 ι7 N7 n7 q s8 fl;obtain⟨C,tv,d,fe,hC,ha,ht⟩:=N7.rel.get hj q;have back:∀h8,Noted X.env.locals (frs X.stack) a s7.heap h8->ZfQ (Zz X.prog X.w) X.A X.env E (.ref a) {s7 with heap:=h8}:=λh8 n8=>
        Jg2 hf n8 λh9 n9=>K1 pl a s7 σ7 H7 ι7 N7 (n2.trans n7) q _<|.inr #[h9,rfl,n9]
       rcases fl with rfl|⟨h8,rfl,n8⟩
       ·exact Jib N7.inv hst hf ha ht back
       ·exact Jc1 hf n8<|back h8 n8
      |_=>rw[hj]at K1;exact Zf K1
    |stuck=>rw[eb]at K1;exact Zf K1
theorem Jti(no:¬ ∃i j,op=.Add/\x=.int i/\y=.int j):ipI op x y h=.stuck:=by
 unfold ipI;split
 ·exact absurd #[_,_,rfl,rfl,rfl] no
 ·rfl
theorem o_ip(op:ZdA):OpI ce X (inplaceOp op) (ipI op):=by
 intro pj s σ H ι σi h x y v u Q E N rx ry K;by_cases c:∃i j,op=.Add/\x=.int i/\y=.int j
 ·obtain⟨i,j,rfl,rfl,rfl⟩:=c;obtain⟨xv,rx,qx⟩:=rx;obtain⟨yv,ry,qy⟩:=ry;cases (show xv=.int i from qx);cases (show yv=.int j from qy);obtain⟨t,rfl⟩:=rx;obtain⟨t',rfl⟩:=ry;exact iadd_int<|K _ _ H ι #[N.inv.tok _,N.rel,N.st] .refl #[.int<|i+j,#[_,rfl],rfl]
 ·rw[Jti c]at K;exact Zf K
theorem J43{i:Nat}{x:Str}{e:Expr}{me:E1}{op:ZdA}{pos':Pos}(hN:X.N.Nodup)(he:PEi ce X e me)(hi:X.N[i]?=Za x)(hx:Loc X.env.scope x)(hf:X.fn x=Zh∨X.env.scope.names.lookup x=Za .local):PS1 ce X (.AugAssign (.Name x pos') op e pos) (sAug op i me):=by
 intro pj s σ H ι σi h Q E N K;refine wpAny_AugAssign_Name ?_;unfold sAug at K;cases ev:Ja i σi h with|exc n h1=>exfalso;unfold Ja at ev;split at ev<;>cases ev|stuck=>rw[ev]at K;exact Zf K|ok v h1=>
  rw[ev]at K;obtain⟨e1,rfl⟩:σi[i]?=Za (Za v)/\h1=h:=by
   unfold Ja at ev;split at ev
   ·rename_i q;cases ev;exact#[q,rfl]
   ·cases ev
  obtain⟨w,hw,qw⟩:=N.st.at_ i v e1;obtain⟨m,hn,hl⟩:=N.inv.loc;have vis:Vis X.env.scope x:=by rcases hx with k|k;exact .inl k;exact .inr (.inl k)
  obtain⟨u,r,l⟩:=hl i x w hi hw vis;have go:Zt (Zz X.prog X.w) X.A (Zby e X.env) (λw s₂=>Zt (Zz X.prog X.w) X.A (inplaceOp op u w) (λr s₃=>Zt (Zz X.prog X.w) X.A (storeName X.env x r) (λ_=>Q .next) E s₃) E s₂) E s:=by
   refine krun he N K λy h2 uy s2 H2 ι2 N2 n2 r2 K2=>?_
   refine o_ip op pj s2 σ H2 ι2 σi h2 v y u uy _ E N2 #[w,r,RV.mono n2 _ _ qw] r2 ?_;cases ez:ipI op v y h2 with|exc n h3=>rw[ez]at K2;exact λpl a s' H' ι' N' n' q=>K2 pl a s' σ H' ι' N' n' q s'<|.inl rfl|stuck=>rw[ez]at K2;exact K2|ok z h3=>rw[ez]at K2;intro uz s3 H3 ι3 N3 n3 r3;obtain⟨zv,rz,qz⟩:=r3;exact Yu N3.inv hN hi hx rz (λs4 I4=>K2 s4 _ H3 ι3 #[I4,N3.rel,N3.st.set i qz] n3) hf
  rcases l with⟨hk,hm⟩|⟨hk,c,hc,hcell⟩
  ·exact wpAny_loadName_local N.inv.ok.kind hk hn hm go
  ·rcases hk with hk|hk
   ·exact wpAny_loadName_cell N.inv.ok.kind hk hc hcell go
   ·rcases hx with k|k
    ·have:X.env.scope.names.lookup x=Za .free:=hk;rw[k]at this;cases this
    ·have:X.env.scope.names.lookup x=Za .free:=hk;rw[k]at this;cases this
theorem J2j{fl:Str}{o e:Expr}{mo me:E1}{op:ZdA}{tpos:Pos}(ho:PEi ce X o mo)(he:PEi ce X e me)(hf:XQ ce X.K fl):PS1 ce X (.AugAssign (.Attribute o fl tpos) op e pos) (X4 op fl mo me):=by
 intro pj s σ H ι σi h Q E N K;refine wpAny_AugAssign_AttributeAny<|krun ho N K λov h1 w s1 H1 ι1 N1 n1 r1 K1=>?_
 cases ov with
 |ref i=>
  obtain⟨w,rw',a,e1,hi⟩:=r1;subst e1;cases rw';dsimp only at K1;cases hh:h1[i]? with|none=>rw[hh]at K1;exact Zf K1|some ob=>
   cases ob with
   |ins c fs=>
    rw[hh]at K1;dsimp only at K1;cases hl:fs.lookup fl with|none=>rw[hl]at K1;exact Zf K1|some x=>
     rw[hl]at K1;obtain⟨C,dx,vs,hC,hH,rp⟩:=N1.at hh hi;obtain⟨cl,na⟩:=hf c C hC;obtain⟨y,hy,q⟩:=(RPs.lookup rp).1 x hl;refine Jgy N1.inv hH cl na hy λu' s2 I2 ru=>?_
     refine krun he (#[I2,N1.rel,N1.st]:Now ce X pj ι1 σi h1 σ H1 s2) K1 λz h3 uz s3 H3 ι3 N3 n3 r3 K3=>?_
     refine o_ip op pj s3 σ H3 ι3 σi h3 x z u' uz _ E N3 #[y,ru,RV.mono n3 _ _ q] r3 ?_;cases ez:ipI op x z h3 with|exc n h4=>rw[ez]at K3;exact λpl a s' H' ι' N' n' q=>K3 pl a s' σ H' ι' N' n' q s'<|.inl rfl|stuck=>rw[ez]at K3;exact K3|ok v h4=>
      rw[ez]at K3;intro uv s4 H4 ι4 N4 n4 r4;dsimp only[rS]at K3;have hi4:ι4[i]?=Za a:=n4.at<|n3.at hi;cases h4i:h4[i]? with|none=>rw[h4i]at K3;exact Zf K3|some ob=>
       cases ob with
       |ins c' gs=>
        rw[h4i]at K3;dsimp only at K3;split at K3
        ·rename_i hz;obtain⟨C',dx',vs',hC',hH',rp'⟩:=N4.at h4i hi4;obtain⟨cl',na'⟩:=hf c' C' hC';obtain⟨yv,ryv,qv⟩:=r4;refine Jg4 N4.inv hH' cl' na' (by rw[rp'.length];exact hz) ryv λs5 I5=>?_
         have n5:Nxt ι4 H4 ι4 (upd H4 a<|.ins C' dx'<|putF fl yv vs'):=#[#[[],03],Ext.upd_mut hH'<|by rw[hH'];exact Za8];obtain⟨R5,_⟩:=N4.rel.write (o:=.ins C' dx'<|putF fl yv vs') (io:=.ins c'<|putI fl v gs) hi4 hH' (by rw[hH'];exact Za8) #[C',dx',_,hC',Jz,RPs.put (RV.mono n5 _ _ qv)<|RPs.mono n5 _ _ rp'];exact K3 s5 σ _ ι4 #[I5,R5,N4.st.mono n5]<|n4.trans n5
        ·exact Zf K3
       |_=>rw[h4i]at K3;exact Zf K3
   |_=>rw[hh]at K1;exact Zf K1
 |_=>exact Zf K1
theorem J0i:OpI ce X ZeX ixL:=by
 intro pj s σ H ι σi h x y v u Q E N rx ry K;obtain⟨xv,rx,qx⟩:=rx;obtain⟨yv,ry,qy⟩:=ry;cases x with
 |ref i=>
  cases y with
  |int k=>
   obtain⟨a,rfl,ha⟩:=qx;cases (show yv=.int k from qy);cases rx;obtain⟨t,rfl⟩:=ry;dsimp only[ixL]at K;cases hi:h[i]? with|none=>rw[hi]at K;exact Zf K|some ob=>
    rw[hi]at K;cases ob with
    |lst xs=>
     dsimp only at K;cases hk:atI xs k with|none=>rw[hk]at K;exact Zf K|some z=>
      rw[hk]at K;dsimp only at K;split at K
      ·rename_i h0;obtain⟨vs,e1,r1⟩:=N.at hi ha;obtain⟨w,hw,qw⟩:=Jhh r1 hk;obtain⟨its,r,pl,hz⟩:=N.inv.list<|SqL.of e1;obtain⟨j,g1,g2,g3,g4,g5⟩:=Jhg hw;obtain⟨w',ew,rw'⟩:=r.get g2;have hn:=VR;have hj:k.toNat=j:=by rw[Zf2 h0 g5]at g1;exact Zam g1
       exact wpAny_getItem_list pl.isList h0 05 (by rw[hj];simpa using ew)<|K _ _ H ι N .refl #[w,rw',qw]
      ·exact Zf K
    |_=>exact Zf K
  |_=>exact Zf K
 |_=>cases y<;>exact Zf K
theorem J1c(p:OpI ce X f g)(N:Now ce X pj ι σi h σ H s)(rx:RU X.K ι H x v)(ry:RU X.K ι H y u) {k:IV->IH->SRes}{Q:Flow->Zk->Prop}{E Q1:QvT}(K:J8 ce X pj ι H (rS σi (g x y h) k) Q E) (step:∀z h1 w s1 H1 ι1,Now ce X pj ι1 σi h1 σ H1 s1->Nxt ι H ι1 H1->RU X.K ι1 H1 z w->J8 ce X pj ι1 H1 (k z h1) Q E->Q1 w s1):Zt (Zz X.prog X.w) X.A (f v u) Q1 E s:=by refine p pj s σ H ι σi h x y v u Q1 E N rx ry ?_;cases e:g x y h with|ok z h'=>rw[e]at K;exact λw s' H' ι' N' n' r=>step z h' w s' H' ι' N' n' r<|J8.mono (r:=k z h') K n'|exc n h'=>rw[e]at K;exact λpl a s' H' ι' N' n' q=>K pl a s' σ H' ι' N' n' q s'<|.inl rfl|stuck=>rw[e]at K;exact K
theorem J2s{pj:PnT}{s:Zk}{σ:L2.St}{H:Hp}{ι:Tw}{σi:ISt}{h:IH}{o i v:IV}{ou iu u:Zg}{Q:Flow->Zk->Prop}{E:QvT}(N:Now ce X pj ι σi h σ H s)(ro:RU X.K ι H o ou)(ri:RU X.K ι H i iu)(rv:RU X.K ι H v u) (K:J8 ce X pj ι H (setI o i v σi h) Q E):Zt (Zz X.prog X.w) X.A (setItem ou iu u) (λ_=>Q .next) E s:=by
 obtain⟨ox,ro,qo⟩:=ro;obtain⟨ix,ri,qi⟩:=ri;obtain⟨vx,rvx,qv⟩:=rv;cases o with
 |ref i=>
  rename_i iv;cases iv with
  |int k=>
   obtain⟨a,rfl,haa⟩:=qo;cases (show ix=.int k from qi);dsimp only[setI]at K;cases hh:h[i]? with|none=>rw[hh]at K;exact Zf K|some ob=>
    rw[hh]at K;cases ob with
    |lst xs=>
     dsimp only at K;cases hj:ixN xs.length k with|none=>rw[hj]at K;exact Zf K|some j=>
      rw[hj]at K;obtain⟨ws,e1,r1'⟩:=N.at hh haa;refine Zar (Jmi (X:=X.wish E) pj s σ H (.ref a) (.int k) vx ou iu u (λH'=>H'=upd H a (.lst<|ws.set j vx)) (N.inv.wish E) ro ri rvx #[a,ws,k,j,rfl,rfl,e1,by rw[r1'.length];exact hj,rfl]) (λ_ s3 hq=>?_) λ_ _ z=>z
      obtain⟨H',I',rfl⟩:=hq;have n:Nxt ι H ι (upd H a<|.lst<|ws.set j vx):=#[#[[],03],Ext.upd_mut e1<|by rw[e1];exact Za8];obtain⟨R3,_⟩:=N.rel.write (o:=.lst<|ws.set j vx) (io:=.lst<|xs.set j v) haa e1 (by rw[e1];exact Za8) #[_,Jz,(RVs.mono n _ _ r1').set (RV.mono n _ _ qv) j];exact K s3 σ _ ι #[I'.unwish,R3,N.st.mono n] n
    |_=>exact Zf K
  |_=>exact Zf K
 |_=>cases i<;>exact Zf K
theorem J2k{o i e:Expr}{mo mi me:E1}{op:ZdA}{tpos:Pos}(ho:PEi ce X o mo)(hi:PEi ce X i mi)(he:PEi ce X e me)(hs:VS i=Zh):PS1 ce X (.AugAssign (.Subscript o i tpos) op e pos) (X5 op mo mi me):=by
 intro pj s σ H ι σi h Q E N K;refine wpAny_AugAssign_SubscriptAny (krun ho N K λov h1 ou s1 H1 ι1 N1 n1 r1 K1=>krun hi N1 K1 λkv h2 ku s2 H2 ι2 N2 n2 r2 K2=>?_) (λ_ _ _=>by cases i<;>first|rfl|cases hs);refine J1c J0i N2 (r1.mono n2) r2 K2 λx h3 xu s3 H3 ι3 N3 n3 r3 K3=>?_
 refine krun he N3 K3 λy h4 yu s4 H4 ι4 N4 n4 r4 K4=>?_
 refine J1c (o_ip op) N4 (r3.mono n4) r4 K4 λz h5 zu s5 H5 ι5 N5 n5 r5 K5=>?_
 exact J2s N5 ((((r1.mono n2).mono n3).mono n4).mono n5) (((r2.mono n3).mono n4).mono n5) r5 K5
end
section
variable{ce:CeT}{k:Nat}{P:Pg}{n:Nat}{S:Sc}{X:Cx}
theorem VA(hf:∀s,PS1 ce X s<|f s):∀(l:Tn),PS2 ce X l (sAll<|l.map f)|[]=>J2e|[a]=>J2f<|hf a|a::b::r=>Jyl (hf a)<|VA hf<|b::r
end
section
variable{ce:CeT}{k:Nat}{P:Pg}{S:Sc}{X:Cx}{xi:Xi}{xf:Str->Str->Bool}{fr:Str->Bool}
theorem J33(a:Zo):∀(n:Nat)(w:Bool)(S:Sc)(X:Cx),Good ce k P S X->XiOk X.K X.mg xi xf->(∀x,fr x=Zh->X.mg x=Zd)->(w=Zh->Warm (JB X a).A X.H₀)->∀e,PEi ce (JB X a) e (hv xi xf fr n w S e)
 |0,_,_,_,_,_,_,_,_=>Ji
 |n+1,w,S,X,G,O,hi,hw,e=>by
  cases e with
  |Constant c j p=>
   cases c with
   |int i=>exact J0t
   |bool b=>exact i_bl
   |none=>exact J0y
   |str x=>exact J00
   |_=>exact Ji
  |_=>exact Ji
theorem J0m(G:Good ce k P S X)(O:XiOk X.K X.mg xi xf)(hi:∀x,fr x=Zh->X.mg x=Zd)(a:Zo)(hw:w=Zh->Warm (JB X a).A X.H₀):∀n st,PS1 ce (JB X a) st (hx xi xf fr w S n st)
 |0,_=>J9
 |n+1,st=>by
  have ih:=J0m G O hi a hw n;have ihe:=J33 a n w S X G O hi hw;cases st with
  |Assign tgs e p=>
   match tgs with
   |[]=>exact J9
   |b::_::_=>cases b<;>exact J9
   |[tg]=>
    cases tg with
    |Name x q=>
     show PS1 ce (JB X a) _ (if QI e then(match S.sto x with|some i=>Jk i (hv xi xf fr n w S e)|none=>stS)else stS);split
     ·rename_i h;cases hv:S.sto x with
      |none=>exact J9
      |some i=>obtain⟨h1,h2,h3⟩:=G.sto hv;exact Jyp (X:=JB X a) G.nodup (ihe e) h1 h2 (Yv h) h3
     ·exact J9
    |_=>exact J9
  |_=>exact J9
theorem Jp3(G:Good ce k P S X)(ho:S.own=Zh)(n:Nat)(a:Zo)(sl:Wy)(suite:Tn):PSH ce X a sl suite (Jvs P S n sl suite):=by exact(VA (J0m G G.pg.xi G.pg.free a (λz=>by cases z) n) _).h
theorem J32(G:Good ce k P S X)(O:XiOk X.K X.mg xi xf){q:Pos}(hx:xi D=Za g)(h2:S.gl D=Zh)(a:Zo)(c:Str)(C:Zo)(b:Bool)(pj:PnT)(σ:L2.St)(H:Hp)(s:Zk)(Q:Bool->Zk->Prop)(E:QvT)(hb:g c=Za b) (hC:W.nsIn X.K Zu c=Za (Za<|.ref C))(I:Inv (JB X a) pj σ H s)(ho:∃oe,s.heap.get? a=Za oe/\oe.cls=.ref C)(hq:Q b s):Zt (Zz X.prog X.w) (JB X a).A (Zby (.Name D q) X.env) (λv s₁=>Zt (Zz X.prog X.w) (JB X a).A (excMatches (.ref a) v) Q E s₁) E s:=by
 obtain⟨v,hv,hg⟩:=O.1 D g hx;obtain⟨gD,db,nn⟩:=G.gl h2;have hc:ClsE (JB X a) (.Name D q) v:=by
  rcases hv with z|⟨z,w⟩
  ·exact Jpa (X:=JB X a) gD z db
  ·exact Xe (X:=JB X a) gD z w nn db
 refine hc pj σ H s _ E I ?_;obtain⟨_,_,e3⟩:=hg c C b hb hC;obtain⟨oe,h1,h2⟩:=ho;obtain⟨hh,gg,d,tk,os⟩:=s;have LT:W.Looks (Zz X.prog X.w) hh (typeOf<|.ref a) (.ref C):=h2▸(W.Looks.ld h1).andThen .now;exact(W.exm_one (I.kIn:X.K.In hh) LT e3).at hq
theorem Jp0(G:Good ce k P S X)(ho:S.own=Zh):∀{l:Ts}{ms:Tr},hHds P S n l=Za ms->HdsOk ce X l ms
 |[],ms,e=>by cases e;exact .nil
 |h::r,ms,e=>by
  unfold hHds at e;cases e1:hHd P S n h with
  |none=>rw[e1]at e;cases e
  |some q=>
   cases e2:hHds P S n r with
   |none=>rw[e1,e2]at e;cases e
   |some l=>
    rw[e1,e2]at e;cases e;unfold hHd at e1;split at e1
    ·rename_i D q2 nm b suite pos;split at e1
     ·rename_i hD;cases e3:P.xi D with
      |none=>rw[e3]at e1;cases e1
      |some g=>
       cases e4:hSl S nm with
       |none=>rw[e3,e4]at e1;cases e1
       |some sl=>
        rw[e3,e4]at e1;cases e1;refine .cons #[λa c C b pj σ H s Q E hb hC I ho hq=>J32 G G.pg.xi e3 hD a c C b pj σ H s Q E hb hC I ho hq,?_,λa=>Jp3 G ho n a sl _]<|Jp0 G ho e2;unfold hSl at e4;cases nm with
        |none=>cases e4;exact .inl #[rfl,rfl]
        |some x=>
         dsimp only at e4;split at e4
         ·rename_i hl;obtain⟨i,hi',rfl⟩:=Z8.mp e4;refine .inr #[x,i,rfl,rfl,by rw[G.n];exact Yg hi',?_];rw[G.kind];exact beq_iff_eq.mp hl
         ·cases e4
     ·cases e1
    ·cases e1
end
section
variable{ce:CeT}{k:Nat}{P:Pg}{n:Nat}{S:Sc}{X:Cx}
theorem Jp2(G:Good ce k P S X)(hm:∀e,PEi ce X e<|m e):PS1 ce X (.Raise exc cause p) (Jp1 P S m exc cause):=by
 unfold Jp1;split
 ·rename_i x q e q2;split
  ·rename_i h;simp only[Zp]at h;obtain⟨⟨h1,h2⟩,h3⟩:=h;obtain⟨C,c1,c2,c3⟩:=G.pg.rz x h2;obtain⟨gx,db,_⟩:=G.gl h1;exact Jyo G.calm gx c1 c2 c3 (Qs (hm e) Q0<|Jx h3) db (Jx h3) rfl
  ·exact J9
 ·exact J9
theorem Jxj(G:Good ce k P S X)(hm:∀s,PS1 ce X s<|m s):PS1 ce X (.Try body hs o f p) (hTry P S n m body hs o f):=by
 unfold hTry;split
 ·split
  ·rename_i h;obtain⟨hk,hf⟩:=G.top h;split
   ·rename_i ms e;exact J47 G.nodup hk hf (VA hm body)<|Jp0 G h e
   ·exact J9
  ·exact J9
 ·exact J9
theorem Jwr{tg:Expr}{env:Env}(h:Ju tg=Zh):(Zbf [tg] env).map (·.2)=[Ze4 tg env]:=by cases tg<;>first|rfl|cases h
theorem Juy(G:Good ce k P S X)(i:Nat){p q:Pos}(h:isLC e=Zh)(h1:X.N[i]?=Za x)(h2:L2.Loc X.env.scope x)(h3:X.fn x=Zh∨X.env.scope.names.lookup x=Za .local):PS1 ce X (.Assign [.Name x q] e p) (Jk i<|ev P n S e):=by
 cases e with
 |ListComp elt gens sc cp=>
  cases hb:(X.env.blockKind==.function&&X.env.kindOf x==Za .local&&q.line==cp.line&&!(sc.names.any λ(n,k)=>n==x&&(k==.local||k==.cell)))with|false=>refine Jyp G.nodup ((Jin ce k P n).e S X _ G) h1 h2 ?_ h3;show(pure (X.env.blockKind==.function&&X.env.kindOf x==Za .local&&q.line==cp.line&&!(sc.names.any λ(n,k)=>n==x&&(k==.local||k==.cell))):Sem Bool)=pure Zj;rw[hb]|true=>
   have hsw:Zeh (.ListComp elt gens sc cp) (Za<|.Name x q) p.line X.env=pure Zh:=by show(pure (X.env.blockKind==.function&&X.env.kindOf x==Za .local&&q.line==cp.line&&!(sc.names.any λ(n,k)=>n==x&&(k==.local||k==.cell))):Sem Bool)=pure Zh;rw[hb]
   have dead:∀m:E1,(∀σ h,m σ h=.stuck)->PS1 ce X (.Assign [.Name x q] (.ListComp elt gens sc cp) p) (Jk i m):=λm hm=>by intro pj s σ H ι σi h Q E N K;unfold Jk at K;rw[hm]at K;exact Zf K
   cases n with|zero=>exact dead _ λ_ _=>rfl|succ n=>
    have ih:=Jin ce k P n;match gens,hsw with
    |[⟨tg,iter,ifs,as⟩],hsw=>
     show PS1 ce X _ (Jk i (if as=0/\Xw iter=Zh/\Q3 S.N (Vk sc) (Qt sc) (jsOf S sc) S.fake sc=Zh then Jpb ifs (evT P n<|S.comp sc) (λmt=>Js (evI P n S tg iter) (Vk sc).length (jsOf S sc) (tgt P n (S.comp sc) tg) mt<|ev P n (S.comp sc) elt)else stE));split
     ·rename_i hs;obtain⟨rfl,hi,ok⟩:=hs;have Gc:=G.comp ok;have ok':=ok;rw[<-Ji8 G]at ok';match ifs,hsw with|[],hsw=>exact Jv7 G.calm (ih.i S X tg iter G) (λC s H fp=>ih.g _ _ tg<|Gc C s H fp) (λC s H fp=>Jwe) (λC s H fp=>ih.e _ _ elt<|Gc C s H fp) ok' G.n rfl (Yd hi) G.nodup h1 h2 h3 hsw|[c],hsw=>exact Jv7 G.calm (ih.i S X tg iter G) (λC s H fp=>ih.g _ _ tg<|Gc C s H fp) (λC s H fp=>Jwf<|ih.t _ _ c<|Gc C s H fp) (λC s H fp=>ih.e _ _ elt<|Gc C s H fp) ok' G.n rfl (Yd hi) G.nodup h1 h2 h3 hsw|_::_::_,_=>exact dead _ λ_ _=>rfl
     ·exact dead _ λ_ _=>rfl
    |[],_=>exact dead _ λ_ _=>rfl
    |⟨_,_,_,_⟩::_::_,_=>exact dead _ λ_ _=>rfl
 |_=>cases h
theorem Jml(ce:CeT)(k:Nat)(P:Pg):∀(n:Nat)(S:Sc)(X:Cx)(st:ZcZ),Good ce k P S X->PS1 ce X st (ex P n S st)
 |0,_,_,_,_=>J9
 |n+1,S,X,st,G=>by
  have ih:=λst=>Jml ce k P n S X st G
  have E:=Jin ce k P n;have ihe:=λe=>E.e S X e G
  cases st with
  |Pass p=>exact J2n
  |Break p=>exact Jyn
  |Continue p=>exact J2l
  |Expr e p=>
   show PS1 ce X _ (if QI e then JC (ev P n S e)else stS);split
   ·rename_i h;exact J2m (ihe e)<|Yv h
   ·exact J9
  |Return v p=>
   cases v with
   |none=>exact J2o
   |some e=>exact J46<|ihe e
  |If c a b p=>exact s_if (E.t S X c G) (VA ih a)<|VA ih b
  |Raise exc cause p=>exact Jp2 G ihe
  |Try body hs o f p=>exact Jxj G ih
  |While c a o p=>
   cases o with
   |nil=>
    show PS1 ce X _<|Jla S.own (evT P n S c)<|sAll<|a.map<|ex P n S;cases h:S.own with
    |true=>obtain⟨hk,hf⟩:=G.top h;exact Jyq hk hf (E.t S X c G)<|VA ih a
    |false=>exact J9
   |cons _ _=>exact J9
  |For tg it a o p=>
   cases o with
   |nil=>
    show PS1 ce X _ (if Xw it&&S.own then sFor (evI P n S tg it) (tgt P n S tg) (sAll<|a.map<|ex P n S)else stS);split
    ·rename_i h;rw[Zp]at h;obtain⟨hk,hf⟩:=G.top h.2;exact J45 G.calm hk hf (E.i S X tg it G) (E.g S X tg G) (VA ih a)<|Yd h.1
    ·exact J9
   |cons _ _=>exact J9
  |AugAssign tg op e p=>
   cases tg with
   |Name x q=>
    show PS1 ce X _ (match S.sto x with|some i=>sAug op i (ev P n S e)|none=>stS);cases hv:S.sto x with
    |none=>exact J9
    |some i=>obtain⟨h1,h2,h3⟩:=G.sto hv;exact J43 G.nodup (ihe e) h1 h2 h3
   |Attribute o f q=>
    show PS1 ce X _ (if P.fld f then X4 op f (ev P n S o) (ev P n S e)else stS);split
    ·rename_i h;exact J2j (ihe o) (ihe e)<|G.pg.fld f h
    ·exact J9
   |Subscript o i q=>
    show PS1 ce X _ (if VS i then X5 op (ev P n S o) (ev P n S i) (ev P n S e)else stS);split
    ·rename_i h;exact J2k (ihe o) (ihe i) (ihe e) h
    ·exact J9
   |_=>exact J9
  |Assign tgs e p=>
   match tgs with
   |[]=>exact J9
   |a::_::_=>cases a<;>exact J9
   |[tg]=>
    have gen:PS1 ce X (.Assign [tg] e p) (if QI e&&((Jtn tg&&Jx8 e)||Jtm tg)then sAsg (ev P n S e) (tgt P n S tg)else stS):=by
     split
     ·rename_i h;simp only[Zp,ZaY]at h;have hst:Ju tg=Zh:=by
       rcases h.2 with q|q
       ·cases tg<;>first|rfl|(simp[Jtn]at q)
       ·cases tg<;>first|rfl|(simp[Jtm]at q)
      refine J42 (ihe e) (E.g S X tg G) (Yv h.1) ?_<|Jwr hst;rcases h.2 with q|q
      ·cases tg with
       |Tuple es j pp=>have q2:=q.2;cases e<;>first|rfl|(simp[Jx8]at q2)
       |_=>simp[Jtn]at q
      ·cases tg with
       |Subscript=>cases e<;>rfl
       |_=>simp[Jtm]at q
     ·exact J9
    cases tg with
    |Name x q=>
     show PS1 ce X _ (if QI e||isLC e then(match S.sto x with|some i=>Jk i (ev P n S e)|none=>stS)else stS);split
     ·rename_i h;cases hv:S.sto x with
      |none=>exact J9
      |some i=>
       obtain⟨h1,h2,h3⟩:=G.sto hv;rcases ZaY _ _▸h with h|h
       ·exact Jyp G.nodup (ihe e) h1 h2 (Yv h) h3
       ·exact Juy G i h h1 h2 h3
     ·exact J9
    |Attribute o f q=>
     show PS1 ce X _ (if QI e||isLC e then Jym P f (ev P n S o) (ev P n S e)else stS);split
     ·rename_i h;have hw:Zeh e (Za<|.Attribute o f q) p.line X.env=pure Zj:=by
       rcases ZaY _ _▸h with h|h
       ·exact Yv h
       ·cases e<;>first|rfl|cases h
      unfold Jym;split
      ·rename_i hf;exact J44 (ihe o) (ihe e) (G.pg.fld f hf) hw
      ·exact J9
     ·exact J9
    |_=>exact gen
  |_=>exact J9
end
structure D4 where
 st:ZcZ
 qual:Str
 ps:Tk
 N:Tk
 dvs:Tx
abbrev _root_.Wp:=List<|Str×D4
def D4.sc(d:D4):Sc:=#[d.N,(JP d.st).names,Zh,d.qual]
set_option genInjectivity false in
structure Tab where
 fns:Wp
 clss:Wp
 meths:List<|Str×Wp
 cons:Wl
 isas:List<|Str×Tk
 flds:Tk
 frees:Tk
 tabs:Tk:=[]
 razs:Tk:=[]
 xis:List (Str×List (Str×Bool)):=[]
 bass:Tk:=[]
 wrs:Wp:=[]
 nes:Tk:=[]
 xms:Wp:=[]
 xfs:List (Str×Tk):=[]
 xbs:Tk:=[]
noncomputable def memS (x:Str):Tk->Bool|[]=>Zj|y::r=>y==x||memS x r
noncomputable def JQ {α:Type}(x:Str):List (Str×α)->Option α|[]=>Zd|(y,a)::r=>if y==x then Za a else JQ x r
def xfOf(T:Tab)(f c:Str):Bool:=match JQ f T.xfs with|some l=>memS c l|none=>Zj
def mkPg(T:Tab)(r:D4->Tx->IH->Res IV):Pg where
 fn:=λx=>(JQ x T.fns).map λd=>#[d.ps.length,d.dvs,r d]
 cls:=λx=>(JQ x T.clss).map λd=>#[d.ps.length,d.dvs,r d]
 meth:=λc m=>((JQ c T.meths).bind<|JQ m).map λd=>#[d.ps.length,d.dvs,r d]
 con:=λx=>JQ x T.cons
 isa:=λx=>(JQ x T.isas).map λl c=>memS c l
 fld:=λx=>memS x T.flds
 free:=λx=>memS x T.frees
 tabs:=λq=>ixOf q T.tabs
 rz:=λx=>memS x T.razs
 xi:=λD=>(JQ D T.xis).map λl c=>JQ c l
 bas:=λx=>memS x T.bass
 wr:=λ_=>Zd
 ne:=λx=>memS x T.nes
 xo:=λx=>(JQ x T.xms).map λd=>#[d.ps.length,d.dvs,r d]
 xf:=xfOf T
 xb:=λx=>memS x T.xbs
def run(T:Tab):Nat->D4->Tx->IH->Res IV|0,_=>λ_ _=>.stuck|k+1,d=>fnI d.N.length<|sAll<|(Qo d.st).map<|ex (mkPg T<|run T k) 40 d.sc
theorem Qc:∀{l:List (Str×α)},JQ x l=Za a->(x,a)∈l
 |[],h=>by cases h
 |(y,b)::r,h=>by
  unfold JQ at h;split at h
  ·rename_i e;cases h;rw[beq_iff_eq.mp e];exact Z2
  ·exact Zl _<|Qc h
theorem V6:∀{l:Tk},memS x l=Zh->x∈l
 |[],h=>by cases h
 |y::r,h=>by
  unfold memS at h;rcases ZaY _ _▸h with e|e
  ·rw[beq_iff_eq.mp e];exact Z2
  ·exact Zl _<|V6 e
structure DefOk(K:W.Frag)(x:Str)(d:D4)(fa:Zo)(fd:Zbc):Prop where
 fun_:∃dV,FunD K x d.qual d.st fa fd dV
 sc:FnScope d.N d.ps<|JP d.st
 dv:∀j,j<=d.dvs.length->∃ds,Qh K fd d.ps ds/\ds.length=d.dvs.length-j/\∃vs,Vals vs ds/\∀ι H,RVs K ι H (d.dvs.drop j) vs
structure TabOk(ce:CeT)(T:Tab)(K:W.Frag)(mg:Str->Wz):Prop where
 fn:∀x d,(x,d)∈T.fns->∃fa fd,mg x=Za (.ref fa)/\DefOk K x d fa fd
 cls:∀x d,(x,d)∈T.clss->∃C fa fd,mg x=Za (.ref C)/\ce x=Za C/\Mk K C fa/\DefOk K "__init__" d fa fd
 meth:∀c l m d,(c,l)∈T.meths->(m,d)∈l->∃C fa fd,ce c=Za C/\Cls K C/\Meth K C m fa/\DefOk K m d fa fd
 con:∀x v,(x,v)∈T.cons->∃u y,mg x=Za u/\RelV y u/\∀ι H,RV K ι H v y
 isa:∀D l,(D,l)∈T.isas->∃c,mg D=Za c/\IsOk ce K c λt=>match t with|.ins c=>Za (memS c l)|.exc _=>Zd|_=>Za Zj
 fld:∀f,f∈T.flds->XQ ce K f
 free:∀x,x∈T.frees->mg x=Zd
 rz:∀x,x∈T.razs->∃C,mg x=Za (.ref C)/\W.nsIn K Zu x=Za (Za<|.ref C)/\XCls K C
 xi:∀D l,(D,l)∈T.xis->∃v,(mg D=Za v∨(mg D=Zd/\ZbO D=Za v))/\∀c b,(c,b)∈l->∃C,W.nsIn K Zu c=Za (Za<|.ref C)/\ExI K C/\W.kitOne K (.ref C) v=Za b/\W.exmOne K (.ref C) v=Za b
 bas:∀x,x∈T.bass->∃C,mg x=Za (.ref C)/\BasK K C
 wr:∀x d,(x,d)∈T.wrs->∃fa fd p,mg x=Za (.ref fa)/\DefOk K x d fa fd/\d.ps=[p]/\d.dvs=[]
 ne:∀c,c∈T.nes->∃C,ce c=Za C/\neIn K C=Zh/\ClsI K C/\W.kitOne K (.ref C) (.type "list")=Za Zj
 xo:∀x d,(x,d)∈T.xms->∃C fa fd,mg x=Za (.ref C)/\W.nsIn K Zu x=Za (Za<|.ref C)/\Jzv K C fa=Zh/\W.keepIn K (.ref C)=Zh/\(∀h:Zaw,K.In h->ExC h C)/\DefOk K "__init__" d fa fd
 xf:∀f l c,(f,l)∈T.xfs->c∈l->∃C,W.nsIn K Zu c=Za (Za<|.ref C)/\StoX K C f/\ExI K C/\W.findIn K (.ref C) f=Za Zd
 xb:∀x,x∈T.xbs->∃C,mg x=Za (.ref C)/\BasX K C
section
variable{ce:CeT}{T:Tab}{prog:ZD}{w:ZV}{K:W.Frag}{mg:Str->Wz}{base:Zaw}
theorem Jnk{k:Nat}{fa:Zo}{fd:Zbc}{ps:Tk}:FnOk prog w K mg base (CXI prog w) k fa fd ps (spI ce K ps λ_ _=>.stuck):=#[λ_ _ _ _ h=>h.1,λ_ _ _ _ _ _ _ _ _ _ _ _ _ h=>by obtain⟨_,_,_,_,_,_,z⟩:=h;exact z.elim]
theorem J5m(O:TabOk ce T K mg):XiOk K mg (λD=>(JQ D T.xis).map λl c=>JQ c l) (xfOf T):=by
 refine#[λD g h=>?_,λf c C h hC=>?_]
 rotate_left
 ·have h':(match JQ f T.xfs with|some l=>memS c l|none=>Zj)=Zh:=h;cases hl:JQ f T.xfs with|none=>rw[hl]at h';cases h'|some l=>rw[hl]at h';obtain⟨C',q,r⟩:=O.xf f l c (Qc hl)<|V6 h';rw[hC]at q;cases q;exact r
 obtain⟨l,hl,rfl⟩:=Z8.mp h;obtain⟨v,hv,hc⟩:=O.xi D l<|Qc hl;refine#[v,hv,λc C b e hC=>?_];obtain⟨C',h1,h2⟩:=hc c b<|Qc e;rw[hC]at h1;cases h1;exact h2
theorem J4y(O:TabOk ce T K mg)(B:T.tabs≠[]->Qy mg base)(k:Nat)(hD:∀x d fa fd,DefOk K x d fa fd->FnD ce prog w K mg base (4*k) #[d.ps.length,d.dvs,run T k d] fa fd d.ps):PgOk ce (4*k) (mkPg T<|run T k) prog w K mg base:=by
 refine#[λx f h=>?_,λx f h=>?_,λc m f h=>?_,λx v h=>?_,λD g h=>?_,λf h=>?_,λx h=>?_,λq j h=>B λe=>?_,λx h=>O.rz x<|V6 h,J5m O,λx h=>O.bas x<|V6 h,λx r h=>trivial,λc h=>O.ne c<|V6 h,λx f h=>?_,λx h=>O.xb x<|V6 h]
 ·obtain⟨d,hd,rfl⟩:=Z8.mp h;obtain⟨fa,fd,hm,ok⟩:=O.fn x d<|Qc hd;obtain⟨dV,F⟩:=ok.fun_;exact#[fa,fd,d.ps,hm,F.kp,hD x d fa fd ok]
 ·obtain⟨d,hd,rfl⟩:=Z8.mp h;obtain⟨C,fa,fd,hm,hC,M,ok⟩:=O.cls x d<|Qc hd;exact#[C,fa,fd,d.ps,hm,hC,M,hD _ d fa fd ok]
 ·obtain⟨d,hd,rfl⟩:=Z8.mp h;obtain⟨l,hl,hd⟩:=Option.bind_eq_some_iff.mp hd;obtain⟨C,fa,fd,hC,cl,me,ok⟩:=O.meth c l m d (Qc hl)<|Qc hd;exact#[C,fa,fd,d.ps,hC,cl,me,hD m d fa fd ok]
 ·exact O.con x v<|Qc h
 ·obtain⟨l,hl,rfl⟩:=Z8.mp h;exact O.isa D l<|Qc hl
 ·exact O.fld f<|V6 h
 ·exact O.free x<|V6 h
 ·have h':ixOf q T.tabs=Za j:=h;rw[e]at h';cases h'
 ·obtain⟨d,hd,rfl⟩:=Z8.mp h;obtain⟨C,fa,fd,h1,h2,h3,h4,h5,ok⟩:=O.xo x d<|Qc hd;exact#[C,fa,fd,d.ps,h1,h2,h3,h4,h5,hD _ d fa fd ok]
theorem Jvk(O:TabOk ce T K mg)(B:T.tabs≠[]->Qy mg base):∀k x d fa fd,DefOk K x d fa fd->FnD ce prog w K mg base (4*k) #[d.ps.length,d.dvs,run T k d] fa fd d.ps
 |0,x,d,fa,fd,ok=>#[rfl,Jnk,ok.dv]
 |k+1,x,d,fa,fd,ok=>by
  refine#[rfl,?_,ok.dv];obtain⟨dV,F⟩:=ok.fun_;show FnOk prog w K mg base (CXI prog w) (4*k+3+1) fa fd d.ps<|spI ce K d.ps<|run T (k+1) d;refine F.fn (m:=sAll<|(Qo d.st).map<|ex (mkPg T<|run T k) 40 d.sc) ok.sc λcdv A outer s H E hcd hr=>?_
  refine VA (λst=>Jml ce (4*k) (mkPg T<|run T k) 40 d.sc _ st ?_) _;exact#[rfl,rfl,ok.sc.nd,ok.sc.kind,rfl,hr.mono 05,λ_ _=>rfl,J4y O B k<|Jvk O B k,λ_=>#[hcd,rfl],λ_=>hr,λ_=>#[rfl,rfl]]
end
inductive All{α:Type}(p:α->Prop):List α->Prop|nil:All p []|cons {a:α}{l:List α}:p a->All p l->All p (a::l)
theorem All.mem:∀{l:List α}{a:α},All p l->a∈l->p a
 |_,_,.nil,h=>by cases h
 |_,_,.cons h r,m=>by
  rcases ZB.mp m with rfl|m
  ·exact h
  ·exact r.mem m
def Jvf(l:Tk):Ty->Wu:=λt=>match t with|.ins c=>Za (memS c l)|.exc _=>Zd|_=>Za Zj
section
variable{T:Tab}{K:W.Frag}{mg:Str->Wz}
def ceOf(ces:Wn):CeT:=λc=>JQ c ces
def kits(K:W.Frag)(v:Zg)(l:List<|Zo×Bool):Bool:=l.all λp=>W.kitOne K (.ref p.1) v==Za p.2&&W.exmOne K (.ref p.1) v==Za p.2
theorem J3g{v:Zg}:∀{cs:Wn}{bs:List Bool},All (λp:Str×Zo=>W.nsIn K Zu p.1=Za (Za<|.ref p.2)/\ExI K p.2) cs->cs.length=bs.length->kits K v ((cs.map (·.2)).zip bs)=Zh ->All (λp:Str×Bool=>∃C,W.nsIn K Zu p.1=Za (Za<|.ref C)/\ExI K C/\W.kitOne K (.ref C) v=Za p.2/\W.exmOne K (.ref C) v=Za p.2) ((cs.map (·.1)).zip bs)|[],[],_,_,_=>.nil|(_,C)::_,_::_,.cons h r,e,q=>by simp only[kits,ZQ,List.zip_cons_cons,Zav,Zp,beq_iff_eq]at q;exact .cons #[C,h.1,h.2,q.1.1,q.1.2] (J3g r (by simpa using e)<|by simpa only[kits]using q.2)|[],_::_,_,e,_=>by cases e|_::_,[],_,e,_=>by cases e
theorem J2y(ces:Wn)(fn:All (λp:Str×D4=>∃fa fd,mg p.1=Za (.ref fa)/\DefOk K p.1 p.2 fa fd) T.fns) (cls:All (λp:Str×D4=>∃C fa fd,mg p.1=Za (.ref C)/\ceOf ces p.1=Za C/\Mk K C fa/\DefOk K "__init__" p.2 fa fd) T.clss) (meth:All (λq:Str×Wp=>∃C,ceOf ces q.1=Za C/\All (λp:Str×D4=>∃fa fd,Meth K C p.1 fa/\DefOk K p.1 p.2 fa fd) q.2) T.meths) (con:All (λp:Str×IV=>∃u y,mg p.1=Za u/\RelV y u/\∀ι H,RV K ι H p.2 y) T.cons) (cl:All (λp:Str×Zo=>ClsI K p.2/\All (λf=>Qz K p.2 f) T.flds) ces) (isa:All (λq:Str×Tk=>∃D,mg q.1=Za (.ref D)/\W.kitOne K (.type "NoneType") (.ref D)=Za Zj/\W.kitOne K (.type "bool") (.ref D)=Za Zj/\W.kitOne K (.type "int") (.ref D)=Za Zj/\W.kitOne K (.type "str") (.ref D)=Za Zj /\ W.kitOne K (.type "list") (.ref D)=Za Zj/\W.kitOne K (.type "tuple") (.ref D)=Za Zj/\W.kitOne K (.type "dict") (.ref D)=Za Zj/\All (λp:Str×Zo=>W.kitOne K (.ref p.2) (.ref D)=Za (memS p.1 q.2)) ces) T.isas) (free:All (λx=>mg x=Zd) T.frees) (raz:All (λx=>∃C,mg x=Za (.ref C)/\W.nsIn K Zu x=Za (Za<|.ref C)/\XCls K C) T.razs:=by exact .nil) (xis:All (λq:Str×List (Str×Bool)=>∃v,(mg q.1=Za v∨(mg q.1=Zd/\ZbO q.1=Za v))/\All (λp:Str×Bool=>∃C,W.nsIn K Zu p.1=Za (Za<|.ref C)/\ExI K C/\W.kitOne K (.ref C) v=Za p.2/\W.exmOne K (.ref C) v=Za p.2) q.2) T.xis:=by exact .nil) (bas:All (λx=>∃C,mg x=Za (.ref C)/\BasK K C) T.bass:=by exact .nil) (wr:All (λq:Str×D4=>(∃fa fd,mg q.1=Za (.ref fa)/\DefOk K q.1 q.2 fa fd)/\∃p,q.2.ps=[p]/\q.2.dvs=[]) T.wrs:=by exact .nil) (nes:All (λc=>∃C,ceOf ces c=Za C/\neIn K C=Zh/\W.kitOne K (.ref C) (.type "list")=Za Zj) T.nes:=by exact .nil) (xms:All (λp:Str×D4=>∃C fa fd,mg p.1=Za (.ref C)/\W.nsIn K Zu p.1=Za (Za<|.ref C)/\Jzv K C fa=Zh/\W.keepIn K (.ref C)=Zh/\(∀h:Zaw,K.In h->ExC h C)/\DefOk K "__init__" p.2 fa fd) T.xms:=by exact .nil) (xfs:All (λq:Str×Tk=>All (λc=>∃C,W.nsIn K Zu c=Za (Za<|.ref C)/\StoX K C q.1/\ExI K C/\W.findIn K (.ref C) q.1=Za Zd) q.2) T.xfs:=by exact .nil) (xbs:All (λx=>∃C,mg x=Za (.ref C)/\BasX K C) T.xbs:=by exact .nil):TabOk (ceOf ces) T K mg:=by
 refine#[λx d h=>fn.mem h,λx d h=>cls.mem h,λc l m d hc hm=>?_,λx v h=>con.mem h,λD l h=>?_,λf hf=>?_,λx h=>free.mem h,λx h=>raz.mem h,λD l h=>?_,λx h=>bas.mem h,λx d h=>let ⟨⟨fa,fd,a,b⟩,p,c,e⟩:=wr.mem h;#[fa,fd,p,a,b,c,e],λc h=>let ⟨C,p,q,r⟩:=nes.mem h;#[C,p,q,(cl.mem<|Qc p).1,r],λx d h=>xms.mem h,λf l c h hc=>(xfs.mem h).mem hc,λx h=>xbs.mem h]
 ·obtain⟨C,hC,hl⟩:=meth.mem hc;obtain⟨fa,fd,me,ok⟩:=hl.mem hm;exact#[C,fa,fd,hC,(cl.mem<|Qc hC).1.cl,me,ok]
 ·obtain⟨C,hC,h1,h2,h3,h4,h5,h6,h7,h8⟩:=isa.mem h;refine#[_,hC,#[λb e=>?_,λb e=>?_,λb e=>?_,λb e=>?_,λb e=>?_,λb e=>?_,λb e=>?_,λk C' b e hk=>?_,(λk C' b e=>by cases e)]]
  ·cases e;exact h1
  ·cases e;exact h2
  ·cases e;exact h3
  ·cases e;exact h4
  ·cases e;exact h5
  ·cases e;exact h6
  ·cases e;exact h7
  ·cases e;exact#[(cl.mem<|Qc hk).1,h8.mem<|Qc hk]
 ·intro c C e;obtain⟨h1,h2⟩:=cl.mem<|Qc e;exact#[h1.cl,h2.mem hf]
 ·obtain⟨v,hv,hl⟩:=xis.mem h;exact#[v,hv,λc b hc=>hl.mem hc]
theorem len1{α:Type}{P:List α->Prop}(F0:∀a,P [a]):∀us:List α,us.length=1->P us|[a],_=>F0 a
theorem len2{α:Type}{P:List α->Prop}(F0:∀a b,P [a,b]):∀us:List α,us.length=2->P us|[a,b],_=>F0 a b
theorem len3{α:Type}{P:List α->Prop}(F0:∀a b c,P [a,b,c]):∀us:List α,us.length=3->P us|[a,b,c],_=>F0 a b c
theorem len4{α:Type}{P:List α->Prop}(F0:∀a b c d,P [a,b,c,d]):∀us:List α,us.length=4->P us|[a,b,c,d],_=>F0 a b c d
theorem len5{α:Type}{P:List α->Prop}(F0:∀a b c d e,P [a,b,c,d,e]):∀us:List α,us.length=5->P us|[a,b,c,d,e],_=>F0 a b c d e
theorem len6{α:Type}{P:List α->Prop}(F0:∀a b c d e f,P [a,b,c,d,e,f]):∀us:List α,us.length=6->P us|[a,b,c,d,e,f],_=>F0 a b c d e f
theorem len7{α:Type}{P:List α->Prop}(F0:∀a b c d e f g,P [a,b,c,d,e,f,g]):∀us:List α,us.length=7->P us|[a,b,c,d,e,f,g],_=>F0 a b c d e f g
theorem J5f:∀j:Nat,j<=3->j=0∨j=1∨j=2∨j=3:=05
theorem Jvj{x:Str}{d:D4}{fa:Zo}{oc kV doc pm cdv ct:Zg}{od an:Tc}{osl:Wc}(lk:K.lookup fa=Za #[oc,od,.func<|W.fnOf x d.qual (QE d.st) (Qo d.st) (JP d.st) .none kV doc pm an cdv ct,osl]) (hc:W.codeIn K cdv d.qual=Zh)(hk:W.keepIn K (.ref fa)=Zh)(sc:FnScope d.N d.ps<|JP d.st)(hd:d.dvs=[]) (hb:∀us:Tv,us.length=d.ps.length->Zf0 (W.fnOf x d.qual (QE d.st) (Qo d.st) (JP d.st) .none kV doc pm an cdv ct) #[us,[]]=pure (d.ps.zip us)):DefOk K x d fa (W.fnOf x d.qual (QE d.st) (Qo d.st) (JP d.st) .none kV doc pm an cdv ct):=#[#[_,#[oc,od,kV,doc,pm,an,cdv,ct,osl,rfl,lk,hc],hk],sc,λj hj=>#[[],.all hb,by rw[hd];simp,[],.nil,by rw[hd];intro _ _;cases j<;>exact rfl]]
noncomputable def scOk (N P:Tk)(sc:ZbF):Bool:=sc.kind==.function&&!sc.isCoroutine&&!sc.isGenerator&&decide N.Nodup&&decide (N.take P.length=P)&&P.all (λx=>sc.names.lookup x==Za .local||sc.names.lookup x==Za .cell)&&sc.names.all (λy=>!(y.2==.free))
theorem scOk.of(h:scOk N P sc=Zh):FnScope N P sc:=by simp only[scOk,Zp,beq_iff_eq,Zbl,decide_eq_true_eq,Zcr,ZaY,beq_eq_false_iff_ne]at h;obtain⟨⟨⟨⟨⟨⟨h1,h2⟩,h3⟩,h4⟩,h5⟩,h6⟩,h7⟩:=h;exact#[h1,h2,h3,h4,h5,h6,h7]
def FnB(x q:Str)(d:D4):Prop:=FnScope d.N d.ps (JP d.st)/\d.dvs=[]/\d.qual=q/\∀(kV doc pm:Zg)(an:Tc)(cdv ct:Zg)(us:Tv),us.length=d.ps.length->Zf0 (W.fnOf x d.qual (QE d.st) (Qo d.st) (JP d.st) .none kV doc pm an cdv ct) #[us,[]]=pure (d.ps.zip us)
section
variable{x q:Str}{d:D4}{h:Zaw}{a C:Zo}{oc kV dc pm cd ct:Zg}{od an:Tc}{sl:Wc}
theorem Jq0(B:FnB x q d)(hl:K.lookup a=Za #[oc,od,.func<|W.fnOf x q (QE d.st) (Qo d.st) (JP d.st) .none kV dc pm an cd ct,sl])(hc:W.codeIn K cd q=Zh)(hk:W.keepIn K (.ref a)=Zh):∃fd,DefOk K x d a fd:=by obtain⟨s,v,rfl,b⟩:=B;exact#[_,Jvj hl hc hk s v<|b _ _ _ _ _ _]
theorem J1(X:K.In h)(G:h.Ns Zu mg)(B:FnB x q d)(ha:W.nsIn K Zu x=Za (Za<|.ref a):=by k_is)(hl:K.lookup a=Za #[oc,od,.func<|W.fnOf x q (QE d.st) (Qo d.st) (JP d.st) .none kV dc pm an cd ct,sl]:=by k_is)(hc:W.codeIn K cd q=Zh:=by k_is)(hk:W.keepIn K (.ref a)=Zh:=by k_is):∃fa fd,mg x=Za (.ref fa)/\DefOk K x d fa fd:=
 let ⟨fd,D⟩:=Jq0 B hl hc hk
 #[a,fd,W.mg_of X G ha,D]
theorem Ql(B:FnB x q d)(ha:W.findIn K (.ref C) x=Za (Za<|.ref a):=by k_is)(hi:W.isFn K (.ref a)=Zh:=by k_is)(hl:K.lookup a=Za #[oc,od,.func<|W.fnOf x q (QE d.st) (Qo d.st) (JP d.st) .none kV dc pm an cd ct,sl]:=by k_is)(hc:W.codeIn K cd q=Zh:=by k_is)(hk:W.keepIn K (.ref a)=Zh:=by k_is):∃fa fd,Meth K C x fa/\DefOk K x d fa fd:=
 let ⟨fd,D⟩:=Jq0 B hl hc hk
 #[a,fd,#[ha,hi,hk],D]
theorem Jt5(B:FnB "__init__" q d)(ha:W.findIn K (.ref C) "__init__"=Za (Za<|.ref a):=by k_is)(hi:W.isFn K (.ref a)=Zh:=by k_is)(hl:K.lookup a=Za #[oc,od,.func<|W.fnOf "__init__" q (QE d.st) (Qo d.st) (JP d.st) .none kV dc pm an cd ct,sl]:=by k_is)(hc:W.codeIn K cd q=Zh:=by k_is)(hk:W.keepIn K (.ref a)=Zh:=by k_is)(hm:W.makesIn K C=Zh:=by k_is)(hq:W.keepIn K (.ref C)=Zh:=by k_is):∃fa fd,Mk K C fa/\DefOk K "__init__" d fa fd:=
 let ⟨fd,D⟩:=Jq0 B hl hc hk
 #[a,fd,#[hm,ha,hi,hq],D]
end
theorem Jxx{prog:ZD}{w:ZV}(O:TabOk ce T K mg)(B:T.tabs≠[]->Qy mg base)(k:Nat){d:D4}(hp:d.ps=[x])(ok:DefOk K "law" d fa fd):FnOk prog w K mg base (CXI prog w) (4*k) fa fd [x] (X9 K x<|run T k d):=by have:=(Jvk (prog:=prog) (w:=w) (base:=base) O B k "law" d fa fd ok).ok;rw[hp]at this;exact Js5 this
end
def WR{α:Type}(r:Res α)(Q:α->IH->Prop):Prop:=match r with|.ok a h=>Q a h|_=>False
def WS(r:SRes)(N:ISt->IH->Prop)(R:IV->IH->Prop):Prop:=match r with|.next σ h=>N σ h|.ret v h=>R v h|_=>False
section
variable{α β:Type}{σ:ISt}{h:IH}{Q:α->IH->Prop}{N:ISt->IH->Prop}{R:IV->IH->Prop}
theorem WR.mono(x:WR r P)(f:∀a h,P a h->Q a h):WR r Q:=by cases r with|ok a h=>exact f a h x|exc n h=>exact x|stuck=>exact x
theorem Je(e:r=.ok a h)(q:Q a h):WR r Q:=by rw[e];exact q
theorem WR.eq(x:WR r Q):∃a h,r=.ok a h/\Q a h:=by cases r with|ok a h=>exact#[a,h,rfl,x]|exc n h=>exact x.elim|stuck=>exact x.elim
theorem WS.mono(x:WS r N R)(f:∀σ h,N σ h->N' σ h)(g:∀v h,R v h->R' v h):WS r N' R':=by cases r with|next σ h=>exact f σ h x|ret v h=>exact g v h x|_=>exact x
theorem XF(a:α):WR (.ok a h) Q=Q a h:=rfl
theorem J0(r:Res α)(f:α->IH->Res β)(Q:β->IH->Prop):WR (r.bind f) Q=WR r λa h=>WR (f a h) Q:=by cases r<;>rfl
theorem Vu(c:Prop)[Decidable c](x y:Res α):WR (if c then x else y) Q=((c->WR x Q)/\(¬c->WR y Q)):=by by_cases hc:c<;>simp[hc]
theorem QB(r:Res α)(k:α->IH->SRes):WS (rS σ r k) N R=WR r λa h=>WS (k a h) N R:=by cases r<;>rfl
theorem Jm1(r:SRes)(Q:IV->IH->Prop):WR r.fin Q=WS r (λ_ h=>Q .non h) Q:=by cases r with|exc n σ h=>show WR (match h[n]? with|some (.exc _ _)=>Res.exc n h|_=>Res.stuck) Q=False;split<;>rfl|_=>rfl
theorem Jzs(σ:ISt):WS (.next σ h) N R=N σ h:=rfl
theorem Jm8(a b:S1):WS (Jf a b σ h) N R=WS (a σ h) (λσ1 h1=>WS (b σ1 h1) N R) R:=by unfold Jf;cases a σ h<;>rfl
theorem Jsk:WS (Jq σ h) N R=N σ h:=rfl
theorem Jm9(i:Nat)(e:E1):WS (Jk i e σ h) N R=WR (e σ h) λv h1=>N (σ.set i<|Za v) h1:=by unfold Jk;rw[QB];rfl
theorem Jvd(t:T1)(a b:S1):WS (sIf t a b σ h) N R=WR (t σ h) λc h1=>(c=Zh->WS (a σ h1) N R)/\(c=Zj->WS (b σ h1) N R):=by unfold sIf;rw[QB];congr 1;funext c h1;cases c<;>simp
theorem Jiu(e:E1):WS (Jm e σ h) N R=WR (e σ h) R:=by unfold Jm;rw[QB];rfl
theorem Jit(e:E1):WS (JC e σ h) N R=WR (e σ h) λ_ h1=>N σ h1:=by unfold JC;rw[QB];rfl
theorem XG(e:E1)(g:G1):WS (sAsg e g σ h) N R=WR (e σ h) λv h1=>WS (g v σ h1) N R:=by unfold sAsg;rw[QB]
theorem Jsi(i:Nat)(v:IV):WS (gNm i v σ h) N R=N (σ.set i<|Za v) h:=rfl
theorem VZ(f:Str)(o e:E1):WS (JN f o e σ h) N R=WR (e σ h) λv h1=>WR (o σ h1) λov h2=>∃i c fs,ov=.ref i/\h2[i]?=Za (.ins c fs)/\fs.length<1000/\N σ (h2.set i<|.ins c<|putI f v fs):=by
 unfold JN;rw[QB];congr 1;funext v h1;rw[QB];congr 1;funext ov h2;cases ov with
 |ref i=>
  cases e:h2[i]? with|none=>simp[WS,e]|some o=>
   cases o with
   |ins c fs=>
    by_cases hl:fs.length<1000
    ·simp only[e,hl,if_true,WS];refine propext #[λq=>#[i,c,fs,rfl,e,hl,q],λ⟨i',c',fs',e1,e2,_,q⟩=>?_];cases e1;rw[e]at e2;cases e2;exact q
    ·simp only[e,hl,if_false,WS];refine propext #[λq=>q.elim,λ⟨i',c',fs',e1,e2,hl',_⟩=>?_];cases e1;rw[e]at e2;cases e2;exact hl hl'
   |_=>simp[WS,e]
 |_=>simp[WS]
theorem Yy(it:I1)(g:G1)(b:S1):WS (sFor it g b σ h) N R=WR (it σ h) λJ h1=>WS (JY J.chk g b J.xs σ h1) N R:=by unfold sFor;rw[QB]
theorem Qw(v:IV)(Q:IV->IH->Prop):WR (eC v σ h) Q=Q v h:=rfl
theorem VI(f:IV->IV->IH->Res IV)(a b:E1)(Q:IV->IH->Prop):WR (Jc f a b σ h) Q=WR (a σ h) λx h1=>WR (b σ h1) λy h2=>WR (f x y h2) Q:=by unfold Jc;rw[J0];congr 1;funext x h1;rw[J0]
theorem Jr3(a b:E1)(tr:IV->IH->Res Bool)(Q:IV->IH->Prop):WR (eAnd a b tr σ h) Q=WR (a σ h) λx h1=>WR (tr x h1) λc h2=>(c=Zh->WR (b σ h2) Q)/\(c=Zj->Q x h2):=by unfold eAnd;rw[J0];congr 1;funext x h1;rw[J0];congr 1;funext c h2;cases c<;>simp[WR]
theorem Jvb(t:T1)(a b:E1)(Q:IV->IH->Prop):WR (eIf t a b σ h) Q=WR (t σ h) λc h1=>(c=Zh->WR (a σ h1) Q)/\(c=Zj->WR (b σ h1) Q):=by unfold eIf;rw[J0];congr 1;funext c h1;cases c<;>simp
theorem Jzp(a b:T1)(Q:Bool->IH->Prop):WR (Qv a b σ h) Q=WR (a σ h) λc h1=>(c=Zh->WR (b σ h1) Q)/\(c=Zj->Q Zj h1):=by unfold Qv;rw[J0];congr 1;funext c h1;cases c<;>simp[WR]
theorem Jsh(a b:T1)(Q:Bool->IH->Prop):WR (tOrI a b σ h) Q=WR (a σ h) λc h1=>(c=Zh->Q Zh h1)/\(c=Zj->WR (b σ h1) Q):=by unfold tOrI;rw[J0];congr 1;funext c h1;cases c<;>simp[WR]
theorem Jlm(a:T1)(Q:Bool->IH->Prop):WR (JE a σ h) Q=WR (a σ h) λc h1=>Q (!c) h1:=by unfold JE;rw[J0];rfl
theorem Jln(tr:IV->IH->Res Bool)(a:E1)(Q:Bool->IH->Prop):WR (Jh tr a σ h) Q=WR (a σ h) λx h1=>WR (tr x h1) Q:=by unfold Jh;rw[J0]
theorem Jfa(f g:IV->IV->IH->Res IV)(a b c:E1)(Q:IV->IH->Prop):WR (JW f g a b c σ h) Q=WR (a σ h) λx h1=>WR (b σ h1) λy h2=>WR (f x y h2) λk h3=>∃t,k=.bl t/\(t=Zh->WR (c σ h3) λz h4=>WR (g y z h4) Q)/\(t=Zj->Q (.bl Zj) h3):=by
 unfold JW;rw[J0];congr 1;funext x h1;rw[J0];congr 1;funext y h2;rw[J0];congr 1;funext k h3;cases k with
 |bl t=>cases t with|true=>show WR ((c σ h3).bind λz h4=>g y z h4) Q=_;rw[J0];simp|false=>simp[WR]
 |_=>simp[WR]
theorem Jli(Q:Tx->IH->Prop):WR (Jd σ h) Q=Q [] h:=rfl
theorem Yx(a:E1)(r:A1)(Q:Tx->IH->Prop):WR (Jb a r σ h) Q=WR (a σ h) λx h1=>WR (r σ h1) λxs h2=>Q (x::xs) h2:=by unfold Jb;rw[J0];congr 1;funext x h1;rw[J0];rfl
theorem Jm7(a:A1)(Q:IV->IH->Prop):WR (eTup a σ h) Q=WR (a σ h) λxs h1=>xs.length<=sizeLine/\Q (.tup xs) h1:=by unfold eTup;rw[J0];congr 1;funext xs h1;rw[Vu];by_cases hz:xs.length<=sizeLine<;>simp[hz,WR]
theorem J28(a:A1)(Q:IV->IH->Prop):WR (eLst a σ h) Q=WR (a σ h) λxs h1=>xs.length<=sizeLine/\Q (.ref h1.length) (h1++[.lst xs]):=by unfold eLst;rw[J0];congr 1;funext xs h1;rw[Vu];by_cases hz:xs.length<=sizeLine<;>simp[hz,WR]
theorem Jip(f:Tx->IH->Res IV)(d:Tx)(a:A1)(Q:IV->IH->Prop):WR (Jl f d a σ h) Q=WR (a σ h) λvs h1=>WR (f (vs++d) h1) Q:=by unfold Jl;rw[J0]
theorem Jis(c:Str)(f:Tx->IH->Res IV)(d:Tx)(a:A1)(Q:IV->IH->Prop):WR (Q5 c f d a σ h) Q=WR (a σ h) λvs h1=>WR (f (.ref h1.length::(vs++d))<|h1++[.ins c []]) λr h2=>r=.non/\Q (.ref h1.length) h2:=by unfold Q5;rw[J0];congr 1;funext vs h1;rw[J0];congr 1;funext r h2;cases r<;>simp[WR]
theorem Jze(f:Tx->IH->Res IV)(a:A1)(Q:IV->IH->Prop):WR (eCB f a σ h) Q=WR (a σ h) λvs h1=>WR (f vs h1) Q:=by unfold eCB;rw[J0]
theorem Jm5(f:IV->IH->Res IV)(x:IV)(Q:IV->IH->Prop):WR (on1 f [x] h) Q=WR (f x h) Q:=rfl
theorem Jm3(ans:Ty->Wu)(e:E1)(Q:IV->IH->Prop):WR (eIsi ans e σ h) Q=WR (e σ h) λv h1=>∃b,(tyI v h1).bind ans=Za b/\Q (.bl b) h1:=by unfold eIsi;rw[J0];congr 1;funext v h1;cases (tyI v h1).bind ans<;>simp[WR]
theorem J3b(f:IV->Wx->Wx->IH->Res IV)(e:E1)(lo hi:O1)(Q:IV->IH->Prop):WR (eSl f e lo hi σ h) Q=WR (e σ h) λx h1=>WR (lo σ h1) λl h2=>WR (hi σ h2) λu h3=>WR (f x l u h3) Q:=by unfold eSl;rw[J0];congr 1;funext x h1;rw[J0];congr 1;funext l h2;rw[J0]
noncomputable def V1 (f:Str)(v:IV)(h:IH):Te:=match v with|.ref i=>(match h[i]? with|some (.ins _ fs)=>fs.lookup f|_=>Zd)|_=>Zd
theorem Jm2(f:Str)(o:E1)(Q:IV->IH->Prop):WR (Jj f o σ h) Q=WR (o σ h) λv h1=>∃x,V1 f v h1=Za x/\Q x h1:=by
 unfold Jj;rw[J0];congr 1;funext v h1;cases v with
 |ref i=>
  unfold V1;cases e:h1[i]? with|none=>simp[WR,e]|some ob=>cases ob with|ins c fs=>cases e2:fs.lookup f<;>simp[WR,e,e2]|_=>simp[WR,e]
 |_=>simp[WR,V1]
variable{i j:Int}{x y:Str}{P:IV->IH->Prop}
theorem Jmz(i j:Int):WR (Jo (.int i) (.int j) h) P=P (.int<|i+j) h:=rfl
theorem Jsf(i j:Int):WR (Qm (.int i) (.int j) h) P=P (.int<|i-j) h:=rfl
theorem J3a(i j:Int):WR (JX (.int i) (.int j) h) P=(QR i j/\P (.int<|i*j) h):=by show WR (Xx (.int i) (.int j) h) P=_;unfold Xx;rw[Vu];by_cases hm:QR i j<;>simp[hm,WR]
theorem Jiq(i j:Int):WR (JJ (.int i) (.int j) h) P=((0<j/\j.natAbs.log2<9000)/\P (.int<|i/j) h):=by unfold JJ;rw[Vu];by_cases hm:0<j/\j.natAbs.log2<9000<;>simp[hm,WR]
theorem J29(i j:Int):WR (J2 (.int i) (.int j) h) P=(0<j/\P (.int<|i%j) h):=by unfold J2;rw[Vu];by_cases hm:0<j<;>simp[hm,WR]
theorem Jm6(i j:Int):WR (JS (.int i) (.int j) h) P=((0<=j/\j<=1000000/\i.natAbs<2^64)/\P (.int<|i^j.toNat) h):=by unfold JS;rw[Vu];by_cases hm:0<=j/\j<=1000000/\i.natAbs<2^64<;>simp[hm,WR]
theorem Jzl(i j:Int):WR (cLt (.int i) (.int j) h) P=P (.bl<|decide (i<j)) h:=rfl
theorem Jzj(i j:Int):WR (cLe (.int i) (.int j) h) P=P (.bl<|decide (i<=j)) h:=rfl
theorem J27(x y:Str):WR (cLe (.str x) (.str y) h) P=P (.bl (!decide (y.cps.toList<x.cps.toList))) h:=rfl
theorem Jzi(i j:Int):WR (cGt (.int i) (.int j) h) P=P (.bl<|decide (j<i)) h:=rfl
theorem Jzh(i j:Int):WR (cGe (.int i) (.int j) h) P=P (.bl<|decide (j<=i)) h:=rfl
theorem Jzo(i j:Int):WR (cNe (.int i) (.int j) h) P=P (.bl (!decide (i=j))) h:=rfl
theorem Jr5(b:Bool)(P:Bool->IH->Prop):WR (asB (.bl b) h) P=P b h:=rfl
theorem Jlo(b:Bool)(P:Bool->IH->Prop):WR (tru (.bl b) h) P=P b h:=rfl
theorem J26(v w:IV):WR (cIs v w h) P=∃b,isI v w=Za b/\P (.bl b) h:=by unfold cIs;cases isI v w<;>simp[WR]
theorem Vc{chk:IH->Prop}{g:G1}{b:S1}(I:Nat->ISt->IH->Prop){xs:Tx}(hc:∀i σ h,I i σ h->chk h) (turn:∀i (hi:i<xs.length) σ h,I i σ h->WS (g xs[i] σ h) (λσ1 h1=>WS (b σ1 h1) (I<|i+1) R) λ_ _=>False)(done:∀σ h,I xs.length σ h->N σ h)(start:I 0 σ h):WS (JY chk g b xs σ h) N R:=by
 have key:∀(n i:Nat)(σ:ISt)(h:IH),xs.length-i=n->i<=xs.length->I i σ h->WS (JY chk g b (xs.drop i) σ h) N R:=by
  intro n;induction n with|zero=>intro i σ h hn hi hI;have:i=xs.length:=05;subst this;rw[List.drop_length];unfold JY;rw[if_pos<|hc _ _ _ hI];exact done _ _ hI|succ n ih=>
   intro i σ h hn hi hI;have hlt:i<xs.length:=05;rw[Zb4 hlt];unfold JY;rw[if_pos<|hc _ _ _ hI];have t:=turn i hlt σ h hI;cases eg:g xs[i] σ h with
   |next σ1 h1=>rw[eg]at t;have t':WS (b σ1 h1) (I<|i+1) R:=t;dsimp only;cases eb:b σ1 h1 with|next σ2 h2=>rw[eb]at t';exact ih (i+1) σ2 h2 05 hlt t'|ret v h2=>rw[eb]at t';exact t'|brk σ2 h2=>rw[eb]at t';exact t'.elim|cont σ2 h2=>rw[eb]at t';exact t'.elim|exc m σ2 h2=>rw[eb]at t';exact t'.elim|stuck=>rw[eb]at t';exact t'.elim
   |ret v h1=>rw[eg]at t;exact t.elim
   |brk σ2 h2=>rw[eg]at t;exact t.elim
   |cont σ2 h2=>rw[eg]at t;exact t.elim
   |exc m σ2 h2=>rw[eg]at t;exact t.elim
   |stuck=>rw[eg]at t;exact t.elim
 have:=key xs.length 0 σ h 05 (ZA _) start;simpa using this
end
section
variable{α:Type}{h h1:IH}{a:α}{r:Res α}{P:IV->IH->Prop}
theorem Jv(x:WR r λv h'=>v=a/\h'=h1):r=.ok a h1:=by obtain⟨_,_,e,rfl,rfl⟩:=x.eq;exact e
theorem Jm4(xs:Tx)(n:Int):WR (Jg (.tup xs) (.int n) h) P=∃x,atI xs n=Za x/\P x h:=by unfold Jg;cases e:atI xs n<;>simp[WR,e]
theorem Jsa(xs:Tx)(n:Int):WR (Jg (.rol xs) (.int n) h) P=∃x,atI xs n=Za x/\P x h:=by unfold Jg;cases e:atI xs n<;>simp[WR,e]
theorem Jr9(i:Nat)(n:Int):WR (Jg (.ref i) (.int n) h) P=∃xs,h[i]?=Za (.lst xs)/\∃x,atI xs n=Za x/\P x h:=by
 unfold Jg;cases e:h[i]? with|none=>simp[WR,e]|some o=>cases o with|lst xs=>cases e2:atI xs n<;>simp[WR,e,e2]|_=>simp[WR,e]
theorem Jll(xs:Tx):WR (lenI (.tup xs) h) P=P (.int xs.length) h:=rfl
theorem Jlj(xs:Tx):WR (lenI (.rol xs) h) P=P (.int xs.length) h:=rfl
theorem Jsc(i:Nat):WR (lenI (.ref i) h) P=∃xs,h[i]?=Za (.lst xs)/\P (.int xs.length) h:=by unfold lenI;cases e:h[i]? with|none=>simp[WR,e]|some o=>cases o<;>simp[WR,e]
theorem Jlk(x:Str):WR (lenI (.str x) h) P=(x.length<=sizeLine/\P (.int x.length) h):=by unfold lenI;rw[Vu];by_cases hm:x.length<=sizeLine<;>simp[hm,WR]
theorem JL{xs:List α}{n:Nat}(e:xs[n]?=Za x):atI xs (n:Int)=Za x:=by have hn:n<xs.length:=(Zs.mp e).1;have:(n:Int)<xs.length:=05;simp[atI,ixN,this,e]
theorem QU:atI (x::xs) 0=Za x:=by simp[atI,ixN]
theorem Vw{x y:α}{xs:List α}:atI (x::y::xs) 1=Za y:=JL (n:=1) rfl
theorem Vx{x y z:α}{xs:List α}:atI (x::y::z::xs) 2=Za z:=JL (n:=2) rfl
theorem Jws{x y z u:α}{xs:List α}:atI (x::y::z::u::xs) 3=Za u:=JL (n:=3) rfl
theorem Jou{xs:List α}{n:Int}(h0:0<=n)(e:xs[n.toNat]?=Za x):atI xs n=Za x:=by have:=JL e;rwa [Int.toNat_of_nonneg h0]at this
theorem Jrx(x:Str):tyI (.str x) h=Za .str:=rfl
theorem Jwi(e:h[i]?=Za (.lst xs)):tyI (.ref i) h=Za .lst:=by simp[tyI,e]
theorem grow{i:Nat}(e:h[i]?=Za o):(h++g)[i]?=Za o:=by rw[ZI (Zs.mp e).1];exact e
theorem grown:(h++[o])[h.length]?=Za o:=03
theorem J6(e:h[i]?=Za o):i<h.length:=(Zs.mp e).1
theorem Ji1(f:IV->Bool):∀xs:Tx,VN (xs.map λx=>.bl<|f x)=Za (xs.map f)|[]=>rfl|x::xs=>by simp[VN,Ji1 f xs]
theorem all_map{xs:Tx}(e:h[i]?=Za (.lst<|xs.map λx=>.bl<|f x)):allI (.ref i) h=.ok (.bl<|xs.all f) h:=by simp[allI,e,Ji1,List.all_map,Function.comp_def]
end
def Ex(h h':IH):Prop:=∃g,h'=h++g
theorem Ex.refl(h:IH):Ex h h:=#[[],03]
theorem Ex.trans(a:Ex h h1)(b:Ex h1 h2):Ex h h2:=by obtain⟨g,rfl⟩:=a;obtain⟨g',rfl⟩:=b;exact#[g++g',03]
theorem Ex.get(a:Ex h h'){i:Nat}(e:h[i]?=Za o):h'[i]?=Za o:=by obtain⟨g,rfl⟩:=a;exact grow e
theorem Ex.one(h:IH)(o:IX):Ex h (h++[o]):=#[[o],rfl]
theorem Ex.len(a:Ex h h'):h.length<=h'.length:=by obtain⟨g,rfl⟩:=a;simp
section
variable{α:Type}{h:IH}
theorem Jw1{chk:IH->Prop}{t:T1}{e:E1}{caps:ISt}{p:IV->Bool}{f:IV->IV}(i0:Nat):∀{xs acc:Tx}{o:Te}{h1:IH},h1[i0]?=Za (.lst acc)->(∀h2,(∀j ob,j≠i0->h1[j]?=Za ob->h2[j]?=Za ob)->chk h2)->acc.length+xs.length<sizeLine ->(∀x∈xs,∀h2,(∀j ob,j≠i0->h1[j]?=Za ob->h2[j]?=Za ob)->WR (t (Za x::caps) h2) λb h3=>b=p x/\Ex h2 h3) ->(∀x∈xs,p x=Zh->∀h2,(∀j ob,j≠i0->h1[j]?=Za ob->h2[j]?=Za ob)->WR (e (Za x::caps) h2) λv h3=>v=f x/\Ex h2 h3) ->WR (JK chk (gNm 0) t e i0 xs (o::caps) h1) λv h3=>v=.ref i0/\∃g,h3=h1.set i0 (.lst<|acc++(xs.filter p).map f)++g
 |[],acc,o,h1,hi,hc,_,_,_=>by
  unfold JK;rw[if_pos<|hc h1 λ_ _ _ q=>q];refine#[rfl,[],?_];simp only[List.filter_nil,ZcV,ZaI];refine(ZbL λj=>?_);by_cases hj:j=i0
  ·subst hj;rw[hi,ZO<|J6 hi]
  ·rw[ZX<|ZP hj]
 |x::xs,acc,o,h1,hi,hc,hl,ht,he=>by
  unfold JK;rw[if_pos<|hc h1 λ_ _ _ q=>q];dsimp only[gNm,ZbA];have hl':acc.length+xs.length+1<sizeLine:=by simpa[ZfO]using hl
  obtain⟨b,h2,e1,rfl,x2⟩:=(ht x Z2 h1 λ_ _ _ q=>q).eq;rw[e1];have k12:∀j ob,j≠i0->h1[j]?=Za ob->h2[j]?=Za ob:=λj ob _ q=>x2.get q
  cases hp:p x with
  |false=>
   dsimp only;refine WR.mono (Jw1 i0 (x2.get hi) (λh3 q=>hc h3 λj ob n r=>q j ob n<|k12 j ob n r) 05 (λy hy h3 q=>ht y (Zl _ hy) h3 λj ob n r=>q j ob n<|k12 j ob n r) λy hy hpy h3 q=>he y (Zl _ hy) hpy h3 λj ob n r=>q j ob n<|k12 j ob n r) λv h3 ⟨ev,g,eg⟩=>#[ev,?_]
   obtain⟨g2,rfl⟩:=x2;refine#[g2++g,?_];rw[eg,ZaG (h:=J6 hi)];simp[hp]
  |true=>
   dsimp only;obtain⟨v,h3,e3,rfl,x3⟩:=(he x Z2 hp h2 k12).eq;rw[e3];dsimp only;rw[x3.get<|x2.get hi];dsimp only;rw[if_pos 05];have k13:∀j ob,j≠i0->h1[j]?=Za ob->(h3.set i0<|.lst<|acc++[f x])[j]?=Za ob:=λj ob n q=>by rw[ZX<|ZP n];exact x3.get<|x2.get q
   refine WR.mono (Jw1 i0 (acc:=acc++[f x]) (by rw[ZO<|J6<|x3.get<|x2.get hi]) (λh4 q=>hc h4 λj ob n r=>q j ob n<|k13 j ob n r) (by simp;lia) (λy hy h4 q=>ht y (Zl _ hy) h4 λj ob n r=>q j ob n<|k13 j ob n r) λy hy hpy h4 q=>he y (Zl _ hy) hpy h4 λj ob n r=>q j ob n<|k13 j ob n r) λv h4 ⟨ev,g,eg⟩=>#[ev,?_]
   obtain⟨g3,q3⟩:=x2.trans x3;refine#[g3++g,?_];rw[eg,q3,ZaG (h:=J6 hi),ZaG (h:=by rw[Zbq];exact J6 hi),Zfg];simp[hp]
theorem Jr6{t:T1}{e:E1}{js:Tq}{p:IV->Bool}{f:IV->IV}(hit:WR (it σ h0) λJ h1=>J.xs=xs/\J.chk=chk/\h1=h)(hl:xs.length<sizeLine) (hc:∀h2:IH,(∀(j:Nat)(ob:IX),h[j]?=Za ob->h2[j]?=Za ob)->chk h2) (ht:∀x∈xs,∀h2:IH,(∀(j:Nat)(ob:IX),h[j]?=Za ob->h2[j]?=Za ob)->WR (t (Za x::js.map λj=>(σ[j]?).join) h2) λb h3=>b=p x/\Ex h2 h3) (he:∀x∈xs,p x=Zh->∀h2:IH,(∀(j:Nat)(ob:IX),h[j]?=Za ob->h2[j]?=Za ob)->WR (e (Za x::js.map λj=>(σ[j]?).join) h2) λv h3=>v=f x/\Ex h2 h3):WR (Js it 1 js (gNm 0) t e σ h0) λv h3=>v=.ref h.length/\∃g,h3=h++.lst ((xs.filter p).map f)::g:=by
 obtain⟨J,h1,e1,q1,q2,rfl⟩:=hit.eq;unfold Js;rw[e1];show WR (JK J.chk (gNm 0) t e h1.length J.xs (Zd::js.map λj=>(σ[j]?).join)<|h1++[.lst []]) _;rw[q1,q2];have lift:∀{h2:IH},(∀j ob,j≠h1.length->(h1++[IX.lst []])[j]?=Za ob->h2[j]?=Za ob)->∀j ob,h1[j]?=Za ob->h2[j]?=Za ob:=λq j ob r=>q j ob (Z5<|J6 r)<|grow r
 refine WR.mono (Jw1 (p:=p) (f:=f) h1.length (acc:=[]) grown (λh2 q=>hc h2<|lift q) (by simpa using hl) (λx hx h2 q=>ht x hx h2<|lift q) λx hx hp h2 q=>he x hx hp h2<|lift q) λv h3 ⟨ev,g,eg⟩=>#[ev,g,?_]
 rw[eg];simp
theorem filt{α:Type}(xs:List α):xs.filter (λ_=>Zh)=xs:=List.filter_eq_self.mpr 03
theorem Vs{e:E1}{js:Tq}{f:IV->IV}(hit:WR (it σ h0) λJ h1=>J.xs=xs/\J.chk=chk/\h1=h)(hl:xs.length<sizeLine) (hc:∀h2:IH,(∀(j:Nat)(ob:IX),h[j]?=Za ob->h2[j]?=Za ob)->chk h2) (he:∀x∈xs,∀h2:IH,(∀(j:Nat)(ob:IX),h[j]?=Za ob->h2[j]?=Za ob)->WR (e (Za x::js.map λj=>(σ[j]?).join) h2) λv h3=>v=f x/\Ex h2 h3):WR (Js it 1 js (gNm 0) JA e σ h0) λv h3=>v=.ref h.length/\∃g,h3=h++.lst (xs.map f)::g:=by
 have:=Jr6 (p:=λ_=>Zh) (f:=f) (t:=JA) (e:=e) (js:=js) (σ:=σ) (h:=h) hit hl hc (λ_ _ h2 _=>#[rfl,.refl _]) λx hx _ h2 q=>he x hx h2 q
 rwa [filt]at this
theorem JH{g:IH}:(h++o::g)[h.length]?=Za o:=03
theorem Ex.cons(h:IH)(o:IX)(g:IH):Ex h (h++o::g):=#[_,rfl]
end
section
variable{σ:ISt}{h h1:IH}{Q:IV->IH->Prop}{J:ItI->IH->Prop}
theorem Qx(e:E1):WR (Jy e σ h) J=WR (e σ h) λv h1=>WR (Jtp v h1) J:=by unfold Jy;rw[J0]
theorem Vt(f:Tx->IH->Res ItI)(a:A1):WR (iRg f a σ h) J=WR (a σ h) λvs h1=>WR (f vs h1) J:=by unfold iRg;rw[J0]
theorem Vb(i:Nat):WR (Jtp (.ref i) h) J=∃xs,h[i]?=Za (.lst xs)/\J #[xs,λh'=>h'[i]?=Za (.lst xs)] h:=by show WR (itOf (.ref i) h) J=_;unfold itOf;cases e:h[i]? with|none=>simp[WR,e]|some o=>cases o<;>simp[WR,e]
theorem XE(xs:Tx):WR (Jtp (.tup xs) h) J=J #[xs,λ_=>True] h:=rfl
theorem Jr7(i:Nat):WR (QG [.ref i] h) J=∃xs,h[i]?=Za (.lst xs)/\J #[Qi 0 xs,λh'=>h'[i]?=Za (.lst xs)] h:=by show WR (QG [.ref i] h) J=_;unfold QG;cases e:h[i]? with|none=>simp[WR,e]|some o=>cases o<;>simp[WR,e]
theorem VY(j:Int):WR (Qd [.int j] h) J=((-(2^62)<=j/\j<2^62)/\J #[rngI 0 j,λ_=>True] h):=by unfold Qd;rw[Vu];exact propext #[λ⟨a,b⟩=>(Classical.em _).elim (λq=>#[q,a q]) λq=>(b q).elim,λ⟨a,b⟩=>#[λ_=>b,λq=>absurd a q]]
theorem Qe(i j:Int):(rngI i j).length=(j-i).toNat:=by simp[rngI]
theorem V9(i j:Int)(n:Nat)(hn:n<(rngI i j).length):(rngI i j)[n]=.int (i+n):=by simp[rngI]
theorem Jxa(xs:Tx)(n:Nat)(hn:n<(Qi 0 xs).length):(Qi 0 xs)[n]=.tup [.int n,xs[n]'(by rwa [Xn]at hn)]:=by have:=Jdx xs 0 n;rw[Zb hn,Zb<|by rwa [Xn]at hn]at this;simpa using this
theorem J3c(i:Nat)(lo hi:Wx):WR (slI (.ref i) lo hi h) Q=∃xs,h[i]?=Za (.lst xs)/\Q (.ref h.length) (h++[.lst<|cutI xs lo hi]):=by unfold slI;cases e:h[i]? with|none=>simp[WR,e]|some o=>cases o<;>simp[WR,e]
theorem J3d(xs:Tx)(lo hi:Wx):WR (slI (.rol xs) lo hi h) Q=Q (.ref h.length) (h++[.lst<|cutI xs lo hi]):=rfl
theorem Jur(n d:Nat):HT.sIx n d Zd=d:=HT.sIx_none n d
theorem Jsw(xs:List α)(n:Nat):cutI xs (Za (n:Int)) Zd=xs.drop n:=by
 unfold cutI;rw[Jur,HT.sIx_nat];by_cases hn:n<=xs.length
 ·rw[Zb3 hn];exact Zb0 03
 ·rw[Nat.min_eq_right 05,List.drop_length,Zd4 05];simp
theorem Jw2(xs:List α)(n m:Nat):cutI xs (Za (n:Int)) (Za (m:Int))=(xs.take m).drop n:=by
 unfold cutI;rw[HT.sIx_nat,HT.sIx_nat];refine ZbL λi=>?_
 simp only[List.getElem?_take,List.getElem?_drop];by_cases h1:n+i<xs.length
 ·rw[Zb3<|show n<=xs.length by lia];by_cases h3:n+i<m
  ·rw[if_pos h3,if_pos 05]
  ·rw[if_neg h3,if_neg 05]
 ·rw[show xs[n+i]?=Zd from Za3 05,show xs[min n xs.length+i]?=Zd from Za3 05];simp
variable{P:Pg}{m:Str}{n i:Nat}{o:E1}{a:A1}{xs:Tx}{c:Str}{fs:Wl}
theorem Jzg(e:o σ h=.ok (.ref i) h1)(hl:h1[i]?=Za (.lst xs))(hg:bmOf "list" m n=Za g):WR (Jp P m n o a σ h) Q=WR (a σ h1) λvs h2=>WR (g (.ref i) vs h2) Q:=by
 unfold Jp;rw[e];have hi:Yf (.ref i) h1=Zj:=by simp[Yf,hl]
 have ht:tyS (.ref i) h1="list":=by simp[tyS,hl]
 dsimp only;rw[hi,ht,hg];dsimp only;rw[if_neg Zw];unfold eBm;rw[e,J0,XF];have:tyOk "list" (.ref i) h1=Zh:=by simp[tyOk,hl]
 rw[if_pos this,J0]
theorem VX(e:o σ h=.ok (.ref i) h1)(hi:h1[i]?=Za (.ins c fs))(hf:fs.lookup m=Zd)(hd:JV P m n c=Za (f,d)):WR (Jp P m n o a σ h) Q=WR (a σ h1) λvs h2=>WR (f (.ref i::(vs++d)) h2) Q:=by
 unfold Jp;rw[e];have hi':Yf (.ref i) h1=Zh:=by simp[Yf,hi]
 dsimp only;rw[hi',if_pos rfl];unfold Js1;rw[e,J0,XF];dsimp only;rw[hi];dsimp only;rw[hd,hf];dsimp only;rw[J0]
theorem Jr4(y:IV):WR (VL (.ref i) [y] h) Q=∃xs,h[i]?=Za (.lst xs)/\xs.length<sizeLine/\Q .non (h.set i<|.lst<|xs++[y]):=by
 unfold VL;cases e:h[i]? with|none=>simp[WR,e]|some ob=>cases ob with|lst xs=>by_cases hz:xs.length<sizeLine<;>simp[WR,e,hz]|_=>simp[WR,e]
theorem VM:bmOf "list" "append" 1=Za VL:=02
theorem JR(e:h[i]?=Za (.ins c fs)):V1 f (.ref i) h=fs.lookup f:=by simp[V1,e]
theorem Jvc:WR (QH (.ref i) h) Q=∃xs,h[i]?=Za (.lst xs)/\Q (.ref h.length) (h++[.lst xs]):=by unfold QH;cases e:h[i]? with|none=>simp[WR,e]|some ob=>cases ob<;>simp[WR,e]
theorem Jir(xs:Tx):WR (QH (.tup xs) h) Q=Q (.ref h.length) (h++[.lst xs]):=rfl
theorem Jzq:WR (VW (.ref i) h) Q=∃xs,h[i]?=Za (.lst xs)/\Q (.tup xs) h:=by unfold VW;cases e:h[i]? with|none=>simp[WR,e]|some ob=>cases ob<;>simp[WR,e]
end
section
variable{σ:ISt}{h:IH}{Q:IV->IH->Prop}
theorem Jzc(i j:Nat):WR (Jo (.ref i) (.ref j) h) Q=∃xs,h[i]?=Za (.lst xs)/\∃ys,h[j]?=Za (.lst ys)/\xs.length+ys.length<=sizeLine/\Q (.ref h.length) (h++[.lst<|xs++ys]):=by
 unfold Jo;dsimp only;split
 ·rename_i xs ys e e';rw[Vu];refine propext #[λ⟨a,b⟩=>?_,λ⟨xs',f,ys',f',l,q⟩=>?_]
  ·by_cases l:xs.length+ys.length<=sizeLine
   ·exact#[xs,e,ys,e',l,a l]
   ·exact(b l).elim
  ·rw[e]at f;rw[e']at f';cases f;cases f';exact#[λ_=>q,λn=>absurd l n]
 ·rename_i no;exact propext #[ZbM,λ⟨xs,f,ys,f',_⟩=>(no xs ys f f').elim]
theorem J3e(o i:E1)(v:IV):WS (gSb o i v σ h) N R=WR (o σ h) λov h1=>WR (i σ h1) λiv h2=>WS (setI ov iv v σ h2) N R:=by unfold gSb;rw[QB];congr 1;funext ov h1;rw[QB]
theorem Jzt(i:Nat)(k:Int)(v:IV):WS (setI (.ref i) (.int k) v σ h) N R=∃xs,h[i]?=Za (.lst xs)/\∃j,ixN xs.length k=Za j/\N σ (h.set i<|.lst<|xs.set j v):=by
 unfold setI;cases e:h[i]? with|none=>simp[WS,e]|some ob=>cases ob with|lst xs=>cases q:ixN xs.length k<;>simp[WS,e,q]|_=>simp[WS,e]
end
section
variable{σ:ISt}{h h1:IH}{Q:IV->IH->Prop}{P:Pg}{m:Str}{n i:Nat}{o:E1}{a:A1}{x:Str}
theorem Jo2:bmOf "list" "extend" 1=Za Xo:=02
theorem Jmp:∀zs:Tk,Vq (zs.map IV.str)=Za zs|[]=>rfl|z::zs=>by rw[ZQ,Vq,Jmp zs];rfl
end
section
variable{σ:ISt}{h:IH}{Q:IV->IH->Prop}{i:Nat}
theorem Jsg:WR (sumI (.ref i) h) Q=∃xs,h[i]?=Za (.lst xs)/\∃ns,JF xs=Za ns/\Q (.int ns.sum) h:=by
 unfold sumI;cases e:h[i]? with|none=>simp[WR,e]|some ob=>cases ob with|lst xs=>cases q:JF xs<;>simp[WR,e,q]|_=>simp[WR,e]
theorem QF:∀ns:Tp,JF (ns.map IV.int)=Za ns|[]=>rfl|n::ns=>by rw[ZQ,JF,QF ns];rfl
theorem Jse(aa:A1)(md:E1):WR (Xl aa md σ h) Q=WR (aa σ h) λxs h1=>WR (md σ h1) λd h2=>∃i,xs=[.ref i]/\∃ys,h2[i]?=Za (.lst ys)/\∃ns,JF ys=Za ns/\Q (maxD ns d) h2:=by
 unfold Xl;rw[J0];congr 1;funext xs h1;rw[J0];congr 1;funext d h2;match xs with
 |[.ref i]=>
  simp only[Zfo,IV.ref.injEq,and_true,exists_eq_left'];cases e:h2[i]? with|none=>simp[WR]|some ob=>cases ob with|lst ys=>cases q:JF ys<;>simp[WR,q]|_=>simp[WR]
 |[]=>simp[WR]
 |[.non]=>simp[WR]
 |[.bl _]=>simp[WR]
 |[.int _]=>simp[WR]
 |[.str _]=>simp[WR]
 |[.tup _]=>simp[WR]
 |[.rol _]=>simp[WR]
 |x::_::_=>cases x<;>simp[WR]
theorem Jsd(aa:A1):WR (XY aa σ h) Q=WR (aa σ h) λxs h1=>∃i,xs=[.ref i]/\∃ys,h1[i]?=Za (.lst ys)/\∃zs,Vq ys=Za zs/\zs.length+1<ZbJ/\Q (.int<|cntD (QA zs) zs.length) h1:=by
 unfold XY;rw[J0];congr 1;funext xs h1;match xs with
 |[.ref i]=>
  simp only[Zfo,IV.ref.injEq,and_true,exists_eq_left'];cases e:h1[i]? with|none=>simp[WR]|some ob=>
   cases ob with
   |lst ys=>cases q:Vq ys with|none=>simp[WR,q]|some zs=>by_cases hz:zs.length+1<ZbJ<;>simp[WR,q,hz]
   |_=>simp[WR]
 |[]=>simp[WR]
 |[.non]=>simp[WR]
 |[.bl _]=>simp[WR]
 |[.int _]=>simp[WR]
 |[.str _]=>simp[WR]
 |[.tup _]=>simp[WR]
 |[.rol _]=>simp[WR]
 |x::_::_=>cases x<;>simp[WR]
theorem Ji5{zs:Tk}(nd:zs.Nodup):∀i,i<=zs.length->cntD (QA zs) i=i
 |0,_=>rfl
 |i+1,hi=>by
  have ih:=Ji5 nd i 05;have hm:metB (QA zs) i (QA zs i)=Zj:=by unfold metB;rw[List.any_eq_false];intro j hj;have hj:=Za0.mp hj;simp only[decide_eq_true_eq];intro e;simp only[QA,Zi,Zb (show j<zs.length by lia),Zb (show i<zs.length by lia),ZeS]at e;have:=(ZeD nd).mp e;lia
  unfold cntD;rw[hm,ih];rfl
theorem Jwc(f:Nat->Int):∀(n j:Nat),j<n->f j<=JT f n
 |0,_,h=>05
 |1,j,h=>by obtain rfl:j=0:=05;exact ZJ _
 |n+2,j,h=>by
  rw[Jeg f 05];by_cases hj:j=n+1
  ·subst hj;split<;>lia
  ·have:=Jwc f (n+1) j 05;split<;>lia
theorem Jwd(f:Nat->Int)(b:Int):∀(n:Nat),0<n->(∀j,j<n->f j<=b)->JT f n<=b
 |0,h,_=>05
 |1,_,q=>q 0 05
 |n+2,_,q=>by
  rw[Jeg f 05];have:=Jwd f b (n+1) 05 λj hj=>q j 05
  have:=q (n+1) 05;split<;>lia
end
section
variable{h:IH}{Q:IV->IH->Prop}{i:Nat}
theorem Jr8(hi:h[i]?=Za (.lst xs))(hj:h[j]?=Za (.lst ys))(hl:xs.length+ys.length<=sizeLine):WR (Xo (.ref i) [.ref j] h) Q=Q .non (h.set i<|.lst<|xs++ys):=by unfold Xo;simp only[hi,hj];rw[if_pos hl];rfl
end
def KpB(i0:Nat)(h h':IH):Prop:=∀(j:Nat)(ob:IX),j≠i0->h[j]?=Za ob->h'[j]?=Za ob
def Kp(h h':IH):Prop:=∀(j:Nat)(ob:IX),h[j]?=Za ob->h'[j]?=Za ob
theorem KpB.trans(p:KpB i0 a b)(q:KpB i0 b c):KpB i0 a c:=λj ob n e=>q j ob n<|p j ob n e
theorem Kp.trans(p:Kp a b)(q:Kp b c):Kp a c:=λj ob e=>q j ob<|p j ob e
theorem Kp.but(p:Kp a b):KpB i0 a b:=λj ob _ e=>p j ob e
theorem Ex.kp(x:Ex a b):Kp a b:=λ_ _ e=>x.get e
theorem Jz6{chk:IH->Prop}{e:E1}{caps:ISt}{D:IV->IV->IH->Prop}(i0:Nat)(mono:∀x y h2 h3,KpB i0 h2 h3->D x y h2->D x y h3):∀{xs acc:Tx}{o:Te}{h1:IH},h1[i0]?=Za (.lst acc)->(∀h2,KpB i0 h1 h2->chk h2)->acc.length+xs.length<sizeLine ->(∀x∈xs,∀h2:IH,KpB i0 h1 h2->i0<h2.length->WR (e (Za x::caps) h2) λv h3=>Ex h2 h3/\D x v h3) ->WR (JK chk (gNm 0) JA e i0 xs (o::caps) h1) λv h3=>v=.ref i0/\∃ys,h3[i0]?=Za (.lst<|acc++ys)/\ys.length=xs.length/\KpB i0 h1 h3/\∀(i:Nat) x y,xs[i]?=Za x->ys[i]?=Za y->D x y h3
 |[],acc,o,h1,hi,hc,_,_=>by unfold JK;rw[if_pos<|hc h1 λ_ _ _ q=>q];exact#[rfl,[],by simpa using hi,rfl,λ_ _ _ q=>q,λi x y q=>by simp at q]
 |x::xs,acc,o,h1,hi,hc,hl,he=>by
  unfold JK;rw[if_pos<|hc h1 λ_ _ _ q=>q];dsimp only[gNm,ZbA,JA];have hl':acc.length+xs.length+1<sizeLine:=by simpa[ZfO]using hl
  obtain⟨v,h3,e3,x3,dv⟩:=(he x Z2 h1 (λ_ _ _ q=>q)<|J6 hi).eq;rw[e3];dsimp only;rw[x3.get hi];dsimp only;rw[if_pos 05];have k34:KpB i0 h3 (h3.set i0<|.lst<|acc++[v]):=λj ob n q=>by rw[ZX<|ZP n];exact q
  have k14:KpB i0 h1 (h3.set i0<|.lst<|acc++[v]):=x3.kp.but.trans k34;refine WR.mono (Jz6 i0 mono (acc:=acc++[v]) (by rw[ZO<|J6<|x3.get hi]) (λh4 q=>hc h4<|k14.trans q) (by simp;lia) λy hy h4 q=>he y (Zl _ hy) h4<|k14.trans q) ?_;rintro w h5 ⟨rfl,ys,g5,ln,k5,d5⟩;refine#[rfl,v::ys,by simpa using g5,by simp[ln],k14.trans k5,?_];intro i x' y' q1 q2;cases i with
  |zero=>simp only[Zct,ZaQ]at q1 q2;subst q1;subst q2;exact mono _ _ _ _ (k34.trans k5) dv
  |succ i=>exact d5 i x' y' (by simpa using q1)<|by simpa using q2
theorem Jm0{h h0:IH}{it:I1}{e:E1}{js:Tq}{xs:Tx}{chk:IH->Prop}(D:IV->IV->IH->Prop)(hit:WR (it σ h0) λJ h1=>J.xs=xs/\J.chk=chk/\h1=h)(hl:xs.length<sizeLine) (mono:∀x y h2 h3,KpB h.length h2 h3->D x y h2->D x y h3)(hc:∀h2:IH,Kp h h2->chk h2) (he:∀x∈xs,∀h2:IH,Kp h h2->h.length<h2.length->WR (e (Za x::js.map λj=>(σ[j]?).join) h2) λv h3=>Ex h2 h3/\D x v h3):WR (Js it 1 js (gNm 0) JA e σ h0) λv h3=>v=.ref h.length/\∃ys,h3[h.length]?=Za (.lst ys)/\ys.length=xs.length/\Kp h h3/\∀(i:Nat) x y,xs[i]?=Za x->ys[i]?=Za y->D x y h3:=by
 obtain⟨J,h1,e1,q1,q2,rfl⟩:=hit.eq;unfold Js;rw[e1];show WR (JK J.chk (gNm 0) JA e h1.length J.xs (Zd::js.map λj=>(σ[j]?).join)<|h1++[.lst []]) _;rw[q1,q2];have lift:∀{h2:IH},KpB h1.length (h1++[IX.lst []]) h2->Kp h1 h2:=λq j ob r=>q j ob (Z5<|J6 r)<|grow r
 refine WR.mono (Jz6 h1.length mono (acc:=[]) grown (λh2 q=>hc h2<|lift q) (by simpa using hl) λx hx h2 q ln=>he x hx h2 (lift q) ln) ?_;rintro v h3 ⟨rfl,ys,g3,ln,k3,d3⟩;exact#[rfl,ys,by simpa using g3,ln,lift k3,d3]
section
variable{h:IH}
theorem Jw0{g:G1}{t:T1}{e:E1}{caps:ISt}{p:IV->Bool}{f:IV->IV}{st:IV->ISt}(i0:Nat):∀{xs acc:Tx}{ls:ISt}{h1:IH},ls.length=n->h1[i0]?=Za (.lst acc)->(∀h2,(∀j ob,j≠i0->h1[j]?=Za ob->h2[j]?=Za ob)->chk h2)->acc.length+xs.length<sizeLine ->(∀x∈xs,∀(ls:ISt)(h2:IH),ls.length=n->(st x).length=n/\g x (ls++caps) h2=.next (st x++caps) h2) ->(∀x∈xs,∀h2,(∀j ob,j≠i0->h1[j]?=Za ob->h2[j]?=Za ob)->WR (t (st x++caps) h2) λb h3=>b=p x/\Ex h2 h3) ->(∀x∈xs,p x=Zh->∀h2,(∀j ob,j≠i0->h1[j]?=Za ob->h2[j]?=Za ob)->WR (e (st x++caps) h2) λv h3=>v=f x/\Ex h2 h3) ->WR (JK chk g t e i0 xs (ls++caps) h1) λv h3=>v=.ref i0/\∃g,h3=h1.set i0 (.lst<|acc++(xs.filter p).map f)++g
 |[],acc,ls,h1,_,hi,hc,_,_,_,_=>by
  unfold JK;rw[if_pos<|hc h1 λ_ _ _ q=>q];refine#[rfl,[],?_];simp only[List.filter_nil,ZcV,ZaI];refine(ZbL λj=>?_);by_cases hj:j=i0
  ·subst hj;rw[hi,ZO<|J6 hi]
  ·rw[ZX<|ZP hj]
 |x::xs,acc,ls,h1,hls,hi,hc,hl,hg,ht,he=>by
  unfold JK;rw[if_pos<|hc h1 λ_ _ _ q=>q];obtain⟨sl,eg1⟩:=hg x Z2 ls h1 hls;rw[eg1];dsimp only;have hl':acc.length+xs.length+1<sizeLine:=by simpa[ZfO]using hl
  obtain⟨b,h2,e1,rfl,x2⟩:=(ht x Z2 h1 λ_ _ _ q=>q).eq;rw[e1];have k12:∀j ob,j≠i0->h1[j]?=Za ob->h2[j]?=Za ob:=λj ob _ q=>x2.get q
  cases hp:p x with
  |false=>
   dsimp only;refine WR.mono (Jw0 i0 sl (x2.get hi) (λh3 q=>hc h3 λj ob n r=>q j ob n<|k12 j ob n r) 05 (λy hy=>hg y<|Zl _ hy) (λy hy h3 q=>ht y (Zl _ hy) h3 λj ob n r=>q j ob n<|k12 j ob n r) λy hy hpy h3 q=>he y (Zl _ hy) hpy h3 λj ob n r=>q j ob n<|k12 j ob n r) λv h3 ⟨ev,g,eg⟩=>#[ev,?_]
   obtain⟨g2,rfl⟩:=x2;refine#[g2++g,?_];rw[eg,ZaG (h:=J6 hi)];simp[hp]
  |true=>
   dsimp only;obtain⟨v,h3,e3,rfl,x3⟩:=(he x Z2 hp h2 k12).eq;rw[e3];dsimp only;rw[x3.get<|x2.get hi];dsimp only;rw[if_pos 05];have k13:∀j ob,j≠i0->h1[j]?=Za ob->(h3.set i0<|.lst<|acc++[f x])[j]?=Za ob:=λj ob n q=>by rw[ZX<|ZP n];exact x3.get<|x2.get q
   refine WR.mono (Jw0 i0 (acc:=acc++[f x]) sl (by rw[ZO<|J6<|x3.get<|x2.get hi]) (λh4 q=>hc h4 λj ob n r=>q j ob n<|k13 j ob n r) (by simp;lia) (λy hy=>hg y<|Zl _ hy) (λy hy h4 q=>ht y (Zl _ hy) h4 λj ob n r=>q j ob n<|k13 j ob n r) λy hy hpy h4 q=>he y (Zl _ hy) hpy h4 λj ob n r=>q j ob n<|k13 j ob n r) λv h4 ⟨ev,g,eg⟩=>#[ev,?_]
   obtain⟨g3,q3⟩:=x2.trans x3;refine#[g3++g,?_];rw[eg,q3,ZaG (h:=J6 hi),ZaG (h:=by rw[Zbq];exact J6 hi),Zfg];simp[hp]
theorem Jva{g:G1}{t:T1}{e:E1}{js:Tq}{p:IV->Bool}{f:IV->IV}{st:IV->ISt}{n:Nat}(hit:WR (it σ h0) λJ h1=>J.xs=xs/\J.chk=chk/\h1=h)(hl:xs.length<sizeLine) (hc:∀h2:IH,(∀(j:Nat)(ob:IX),h[j]?=Za ob->h2[j]?=Za ob)->chk h2) (hg:∀x∈xs,∀(ls:ISt)(h2:IH),ls.length=n->(st x).length=n/\g x (ls++js.map λj=>(σ[j]?).join) h2=.next (st x++js.map λj=>(σ[j]?).join) h2) (ht:∀x∈xs,∀h2:IH,(∀(j:Nat)(ob:IX),h[j]?=Za ob->h2[j]?=Za ob)->WR (t (st x++js.map λj=>(σ[j]?).join) h2) λb h3=>b=p x/\Ex h2 h3) (he:∀x∈xs,p x=Zh->∀h2:IH,(∀(j:Nat)(ob:IX),h[j]?=Za ob->h2[j]?=Za ob)->WR (e (st x++js.map λj=>(σ[j]?).join) h2) λv h3=>v=f x/\Ex h2 h3):WR (Js it n js g t e σ h0) λv h3=>v=.ref h.length/\∃g,h3=h++.lst ((xs.filter p).map f)::g:=by
 obtain⟨J,h1,e1,q1,q2,rfl⟩:=hit.eq;unfold Js;rw[e1];show WR (JK J.chk g t e h1.length J.xs (Zab n Zd++js.map λj=>(σ[j]?).join)<|h1++[.lst []]) _;rw[q1,q2];have lift:∀{h2:IH},(∀j ob,j≠h1.length->(h1++[IX.lst []])[j]?=Za ob->h2[j]?=Za ob)->∀j ob,h1[j]?=Za ob->h2[j]?=Za ob:=λq j ob r=>q j ob (Z5<|J6 r)<|grow r
 refine WR.mono (Jw0 (p:=p) (f:=f) (st:=st) h1.length (acc:=[]) (ZbX ..) grown (λh2 q=>hc h2<|lift q) (by simpa using hl) hg (λx hx h2 q=>ht x hx h2<|lift q) λx hx hp h2 q=>he x hx hp h2<|lift q) λv h3 ⟨ev,g,eg⟩=>#[ev,g,?_]
 rw[eg];simp
end
def Jwq(ts:Tw)(H:Hp):Prop:=∀b,H b=Zd∨(∃o xs,H b=Za (.frz o<|.lst xs))∨(b∈ts/\H b=Za (.tbl #[]))
theorem Jqr{P:ZD}{w:ZV}{K:W.Frag}{mg mb:Str->Wz}{k:Nat}{fa a:Zo}{fd:Zbc}{x:Str}{sp:Sp}{s₁:Zk}{vs:Tv}{ns:Tp}{ts:Tw}
  (KX:K.In s₁.heap)(hns:s₁.heap.Ns Zu mg)(hb:s₁.heap.Ns Zdm mb)(hbb:∀x:Str,x≠"__name__"->mb x=ZbO x)(hlim:s₁.heap.NoLimit)(hg:s₁.gens=#[])
  (ha:s₁.heap.get? a=Za {cls:=.type "list",data:=.seq vs.toArray})(hi:Zbs vs ns)(hl:ns.length<=sizeLine)(hr:Room k ZfI)
  (hT:∀p∈ts,s₁.heap.get? p=Za (W.tabObj #[])/\isCodeTable s₁.heap p/\K.lookup p=Zd)
  (hbm:∃bm ob,mg "__builtins__"=Za (.ref bm)/\bm≠Zdm/\s₁.heap.get? bm=Za ob/\ob.cls=.type "module"/\ob.dict=Za Zdm/\ob.data=.plain)
  (F:∀base:Zaw,K.In base->base.Ns Zu mg->Qy mg base->FnOk P w K mg base (CXI P w) k fa fd [x] sp)(hbind:∀(s:Zk)(u:Zg),Zd1 s fd #[[u],[]] [(x,u)])
  (hsp:∀H:Hp,Jwq ts H->SqL K H a (ns.map V.int)->(∀p∈ts,H p=Za (.tbl #[]))->sp [.ref a] H (λv _=>v=.bl Zh) λ_ _ _=>False):
  ZcR (Zz P w) ZfI (.call (.ref fa) #[[.ref a],[]]) (λr s'=>r=.ok (.ret<|.bool Zh)/\OldK s₁.heap s'.heap/\s'.os=s₁.os/\Zea s'.gens) s₁:=by
 have rv:=L2.XD hi;have lenV:=hi.length;have nta:a∉ts:=λz=>by
  have e:=(hT a z).1;rw[ha]at e;have e':=Zam e;injection e' with h1
  cases h1
 have core:∀H:Hp,Jwq ts H->SqL K H a (ns.map V.int)->HOk P w H s₁.heap->(∀b,H b≠Zd->b=a∨b∈ts)->(H a≠Zd->K.lookup a=Zd)->(∀p∈ts,H p=Za (.tbl #[])) ->
   ZcR (Zz P w) ZfI (.call (.ref fa) #[[.ref a],[]]) (λr s'=>r=.ok (.ret<|.bool Zh)/\OldK s₁.heap s'.heap/\s'.os=s₁.os/\Zea s'.gens) s₁:=by
  intro H hO hS hok hA hK hTt;have base_of:∀{b:Zo}{o:Obj},s₁.heap.get? b=Za o->H b=Zd->(hidT s₁.heap H).get? b=Za o:=λe n=>Jtd e n
  have noA:∀{b:Zo}{o:Obj},s₁.heap.get? b=Za o->(∀vs n,o.data≠.seq vs n)->(∀vs,o.data≠.fields vs)->H b=Zd:=λ{b o} e d1 d2=>by
   cases q:H b with|none=>rfl|some u=>
    rcases hA b (by rw[q];simp)with e'|e'
    ·subst e';rw[ha]at e;cases e;exact absurd rfl (d1 _ _)
    ·rw[(hT b e').1]at e;cases e;exact absurd rfl (d2 _)
  have nsK:∀{b:Zo}{m:Str->Wz},s₁.heap.Ns b m->(hidT s₁.heap H).Ns b m:=λ{b m} ⟨o,es,ep,e,d,r⟩=>#[o,es,ep,base_of e (noA e (λ_ _ z=>by rw[d]at z;cases z) λ_ z=>by rw[d]at z;cases z),d,r];have hKb:K.In (hidT s₁.heap H):=λb o e=>base_of (KX b o e) (by
   cases q:H b with|none=>rfl|some u=>
    rcases hA b (by rw[q];simp)with e'|e'
    ·subst e';rw[hK<|by rw[q];simp]at e;cases e
    ·rw[(hT b e').2.2]at e;cases e)
  have hM:Mod K mg (hidT s₁.heap H):=#[hKb,nsK hns,#[mb,nsK hb,hbb],let ⟨mc,h1,h2⟩:=hlim;#[mc,nsK h1,h2]];have hB:Qy mg (hidT s₁.heap H):=by obtain⟨bm,ob,b1,b2,b3,b4,b5,b6⟩:=hbm;refine#[bm,ob,b1,b2,λz=>?_,base_of b3 (noA b3 (λ_ _ z=>by rw[b6]at z;cases z) λ_ z=>by rw[b6]at z;cases z),b4,b5,b6];obtain⟨o,es,ep,e,d,_⟩:=hns;rw[<-z,b3]at e;cases e;rw[b6]at d;cases d
  have e0:Env0 P w K mg (hidT s₁.heap H) ZfI [] s₁ H:=#[rfl,hM,λb o e=>Jyb e,ZcS<|Jp7 _ _,trivial,λb hb=>absurd (show b∈([]:Tw)from hb) 03,hok,.of_eq hg];refine Zc3 ((F _ hKb (nsK hns) hB).run ZfI [] s₁ H #[[.ref a],[]] [.ref a] [.ref a] _ _ hr e0 (hbind s₁<|.ref a) (.cons rfl .nil)<|hsp H hO hS hTt) λr s' h=>?_
  cases r with|error e=>exact h.elim λ_ z=>z.2.2.2.2.elim|ok fl=>
   cases fl with|next=>exact ZbM h|brk=>exact ZbM h|cont=>exact ZbM h|ret u=>
    obtain⟨v,H',os,bare,un,hok',r',q⟩:=h;have q':v=.bl Zh:=q;subst q';obtain rfl:u=ZdF Zh:=r';have main:∀b o,s₁.heap.get? b=Za o->asItWas s₁.heap s'.heap b o/\∃o',s'.heap.get? b=Za o':=λb o e=>by
     rcases hO b with z|⟨ob,xs,z⟩|⟨hb,z⟩
     ·have:=un.keep b o e z (by intro z;exact absurd (show b∈([]:Tw)from z) 03) 03;exact#[.inl this,_,this]
     ·have z2:=un.frzs b ob _ z;obtain⟨e1,_⟩:=hok b _ z;obtain⟨e2,_⟩:=hok' b _ z2;rw[e]at e1;cases e1;exact#[.inl e2,_,e2]
     ·obtain⟨more,z2⟩:=un.tbls b _ z;have e2:=hok' b _ z2;have e1:=(hT b hb).1;rw[e]at e1;cases e1;exact#[.inr<|.inl #[(hT b hb).2.1,rfl,#[],more,rfl,e2],_,e2]
    exact#[rfl,#[λb o e=>(main b o e).1,λb o e=>(main b o e).2],os,bare]
 cases hk:K.lookup a with
 |some o=>
  have e:=KX a o hk;rw[ha]at e;cases e;refine core (λb=>if b∈ts then Za (.tbl #[])else Zd) (λb=>?_) (.inr #[_,vs.toArray,_,hk,rfl,rfl,rfl,by rw[Zx,lenV];exact hl,by simpa using rv]) (λb u z=>?_) (λb z=>?_) (λz=>absurd (if_neg nta) z) λp hp=>if_pos hp
  ·by_cases hb:b∈ts
   ·exact .inr<|.inr #[hb,if_pos hb]
   ·exact .inl<|if_neg hb
  ·by_cases hb:b∈ts
   ·have z':=(if_pos hb).symm.trans z;cases z';exact(hT b hb).1
   ·have z':=(if_neg hb).symm.trans z;cases z'
  ·by_cases hb:b∈ts
   ·exact .inr hb
   ·exact absurd (if_neg hb) z
 |none=>
  refine core (λb=>if b=a then Za (.frz {cls:=.type "list",data:=.seq vs.toArray} (.lst<|ns.map V.int))else if b∈ts then Za (.tbl #[])else Zd) (λb=>?_) (.inl<|.inr #[{cls:=.type "list",data:=.seq vs.toArray},if_pos rfl]) (λb u z=>?_) (λb z=>?_) (λ_=>hk) λp hp=>?_
  ·by_cases hb:b=a
   ·exact .inr<|.inl #[_,_,if_pos hb]
   ·by_cases hc:b∈ts
    ·exact .inr<|.inr #[hc,(if_neg hb).trans<|if_pos hc]
    ·exact .inl<|(if_neg hb).trans<|if_neg hc
  ·by_cases hb:b=a
   ·have z':=(if_pos hb).symm.trans z;cases z';subst hb;exact#[ha,by rw[Zr];exact hl,vs,_,rv,ha]
   ·by_cases hc:b∈ts
    ·have z':=((if_neg hb).trans<|if_pos hc).symm.trans z;cases z';exact(hT b hc).1
    ·have z':=((if_neg hb).trans<|if_neg hc).symm.trans z;cases z'
  ·by_cases hb:b=a
   ·exact .inl hb
   ·by_cases hc:b∈ts
    ·exact .inr hc
    ·exact absurd ((if_neg hb).trans<|if_neg hc) z
  ·have hb:p≠a:=λz=>nta<|z▸hp
   exact(if_neg hb).trans<|if_pos hp
noncomputable def Jsu (o:Obj)(q:Str):Bool:=match o with|⟨_,_,.fields vs,_⟩=>(match vs.toList with|_::.str n _::_=>n==q|_=>Zj)|_=>Zj
def QN(K:W.Frag)(q:Str)(p:Zo):Bool:=(K.lookup p).isNone&&K.all (λe=>!(Jsu e.2 q)||W.codeHdIn K e.1 p)&&K.any (λe=>Jsu e.2 q&&W.codeHdIn K e.1 p)
def QS(K:W.Frag):Tk->Tw->Bool|[],[]=>Zh|q::qs,p::ps=>QN K q p&&!ps.contains p&&QS K qs ps|_,_=>Zj
theorem Jny{K:W.Frag}(h:K.lookup c=Za o):(c,o)∈K:=by
 induction K with|nil=>cases h|cons p K ih=>
  obtain⟨b,o'⟩:=p;rw[Zao]at h;split at h
  ·rename_i e;cases h;rw[beq_iff_eq.mp e];exact Z2
  ·exact Zl _<|ih h
theorem QN.code{K:W.Frag}{q:Str}{p:Zo}(h:QN K q p=Zh):∀cdv,W.codeIn K cdv q=Zh->∃c,cdv=.ref c/\W.codeHdIn K c p=Zh:=by
 simp only[QN,Zp,Zcr,ZaY,Zbl]at h;intro cdv e;unfold W.codeIn at e;split at e
 ·rename_i c;refine#[c,rfl,?_];cases hk:K.lookup c with|none=>rw[hk]at e;cases e|some o=>
   rw[hk]at e;rcases h.1.2 _ (Jny hk)with z|z
   ·exfalso;have e':Jsu o q=Zh:=by obtain⟨oc,od,dt,sl⟩:=o;cases dt<;>first|exact e|cases e
    have z':Jsu o q=Zj:=z;rw[e']at z';cases z'
   ·exact z
 ·cases e
theorem QN.some{K:W.Frag}{q:Str}{p:Zo}(h:QN K q p=Zh):K.lookup p=Zd/\∃c,W.codeHdIn K c p=Zh:=by simp only[QN,Zp,List.any_eq_true,Option.isNone_iff_eq_none]at h;obtain⟨⟨h1,_⟩,e,_,h2⟩:=h;exact#[h1,e.1,h2.2]
theorem QS.mem{K:W.Frag}:∀{qs:Tk}{ts:Tw},QS K qs ts=Zh->ts.Nodup/\qs.length=ts.length/\(∀(i:Nat)(q:Str),qs[i]?=Za q->∃p,ts[i]?=Za p/\QN K q p=Zh)/\∀p∈ts,∃q,QN K q p=Zh
 |[],[],_=>#[.nil,rfl,λi q e=>by simp at e,λp hp=>by cases hp]
 |q::qs,p::ps,h=>by
  simp only[QS,Zp,Zbl,List.contains_eq_mem,decide_eq_false_iff_not]at h;obtain⟨⟨h1,h2⟩,h3⟩:=h;obtain⟨a,b,c,d⟩:=QS.mem h3;refine#[Zc7.mpr #[h2,a],by simp[b],λi r e=>?_,λr hr=>?_]
  ·cases i with|zero=>have e':Za q=Za r:=e;cases e';exact#[p,rfl,h1]|succ i=>exact c i r e
  ·rcases ZB.mp hr with rfl|hr
   ·exact#[q,h1]
   ·exact d r hr
 |[],_::_,h=>by cases h
 |_::_,[],h=>by cases h
theorem Jnx{K:W.Frag}{x:Str}{f:Tx->IH->Res IV}{H:Hp}{a:Zo}{ns:Tp}{qs:Tk}{ts:Tw}(hO:Jwq ts H)(hS:SqL K H a<|ns.map V.int)(hT:∀p∈ts,H p=Za (.tbl #[]))(hc:QS K qs ts=Zh) (hf:∃h',f [.rol<|ns.map IV.int] (qs.map IX.tab)=.ok (.bl Zh) h'):X9 K x f [.ref a] H (λv _=>v=.bl Zh) λ_ _ _=>False:=by
 intro ce;obtain⟨h',hf⟩:=hf;have sr:SqR K H a (ns.map V.int):=by
  rcases hS with(h|⟨o,h⟩)|h
  ·rcases hO a with z|⟨ob,xs,z⟩|⟨_,z⟩
   ·rw[z]at h;cases h
   ·rw[z]at h;cases h
   ·rw[z]at h;cases h
  ·exact .inl #[o,h]
  ·exact .inr h
 obtain⟨nd,le,at_,_⟩:=QS.mem hc;refine#[rfl,ts,qs.map IX.tab,[.rol<|ns.map IV.int],#[by simp[le],nd,λi o e=>?_],#[.ref a,[],rfl,#[a,_,rfl,sr,RVs.ints ns],rfl],?_]
 ·rw[Zy]at e;cases eq:qs[i]? with|none=>rw[eq]at e;cases e|some q=>rw[eq]at e;cases e;obtain⟨p,ep,hp⟩:=at_ i q eq;exact#[p,ep,QN.code hp,#[],hT p<|ZcJ ep,trivial,λpos cv z=>by cases z]
 ·rw[hf];intro v H' ι' _ _ q;exact q
theorem Ju9{l:W.OpenLaw}{n k:Nat}{q:ZD}{loose:Tk}{XP:(Str->Wz)->Zaw->Prop}{YP:ZV->Zaw->Prop}{d:DefRec}{K:Params->W.Frag}{f:Tx->IH->Res IV}{x:Str}{qs:Tk}{ts:Tw} (hn:l.most=Za n)(hn2:n<=sizeLine)(hdf:d.params.defaults=[])(hr:Room k ZfI) (hY:∀(w:ZV)(h:Zaw),YP w h->(K w.params).In h/\∀p∈ts,h.get? p=Za (W.tabObj #[]))(hc:∀w:ZV,QS (K w.params) qs ts=Zh) (F:∀(w:ZV)(mg:Str->Wz)(fa:Zo)(h:Zaw),(K w.params).In h->h.Ns Zu mg->mg d.name=Za (.ref fa) ->∃fd:Zbc,(∀(s:Zk)(u:Zg),Zd1 s fd #[[u],[]] [(x,u)]) /\ ∀base:Zaw,(K w.params).In base->base.Ns Zu mg->Qy mg base->FnOk l.prog w (K w.params) mg base (CXI l.prog w) k fa fd [x] (X9 (K w.params) x f)) (hf:∀ns:Tp,ns.length<=n->∃h',f [.rol<|ns.map IV.int] (qs.map IX.tab)=.ok (.bl Zh) h'):W.WalkO q loose XP YP l.row.toRowW d [] (λf vs=>PySem.call f vs):=by
 refine Att.attach_call hn hdf λw s₀ s₁ mg mb fa o pm cd doc a vs ns G Y ho hd hcd hmg hobj hints hlen hg=>?_
 obtain⟨KX,hT⟩:=hY w _ Y;obtain⟨fd,hb,hF⟩:=F w mg fa _ KX G.T.g hmg;refine Jqr KX G.T.g G.T.b G.T.builtins G.T.nolimit hg hobj hints (ZC hlen hn2) hr (λp hp=>?_) G.T.bmain hF hb λH hO hS hTt=>Jnx hO hS hTt (hc w)<|hf ns hlen
 obtain⟨q,hq⟩:=(QS.mem<|hc w).2.2.2 p hp;obtain⟨h1,c,h2⟩:=QN.some hq;exact#[hT p hp,((W.codeHd_of_K KX h2).tab<|hT p hp).isCodeTable,h1]
section
variable{α β:Type}{σ:ISt}{h:IH}
def WE(r:Res α)(Q:α->IH->Prop)(Z:Nat->IH->Prop):Prop:=match r with|.ok a h=>Q a h|.exc n h=>Z n h|.stuck=>False
def WSE(r:SRes)(N:ISt->IH->Prop)(R:IV->IH->Prop)(Z:Nat->ISt->IH->Prop):Prop:=match r with|.next σ h=>N σ h|.ret v h=>R v h|.exc n σ h=>Z n σ h|_=>False
variable{Q:α->IH->Prop}{Z:Nat->IH->Prop}{N:ISt->IH->Prop}{R:IV->IH->Prop}{Y:Nat->ISt->IH->Prop}
theorem Jza{Q:β->IH->Prop}(r:Res α)(f:α->IH->Res β):WE (r.bind f) Q Z=WE r (λa h=>WE (f a h) Q Z) Z:=by cases r<;>rfl
theorem WE.of(w:WR r Q):WE r Q Z:=by cases r with|ok a h=>exact w|exc n h=>exact Zf w|stuck=>exact Zf w
theorem WE.mono(w:WE r Q Z)(hq:∀a h,Q a h->Q' a h)(hz:∀n h,Z n h->Z' n h):WE r Q' Z':=by cases r with|ok a h=>exact hq _ _ w|exc n h=>exact hz _ _ w|stuck=>exact w
theorem WE.wr(w:WE r Q λ_ _=>False):WR r Q:=by cases r with|ok a h=>exact w|exc n h=>exact w|stuck=>exact w
theorem WSE.of(w:WS r N R):WSE r N R Y:=by cases r with|next σ h=>exact w|ret v h=>exact w|_=>exact Zf w
theorem Jnc(r:Res α)(k:α->IH->SRes):WSE (rS σ r k) N R Y=WE r (λa h=>WSE (k a h) N R Y) λn h=>Y n σ h:=by cases r<;>rfl
theorem Jlp(a b:S1):WSE (Jf a b σ h) N R Y=WSE (a σ h) (λσ1 h1=>WSE (b σ1 h1) N R Y) R Y:=by unfold Jf;cases a σ h<;>rfl
theorem Jsl:WSE (Jq σ h) N R Y=N σ h:=rfl
theorem Jzu(i:Nat)(e:E1):WSE (Jk i e σ h) N R Y=WE (e σ h) (λv h1=>N (σ.set i<|Za v) h1) λn h=>Y n σ h:=by unfold Jk;rw[Jnc];rfl
theorem Jnb(e:E1):WSE (JC e σ h) N R Y=WE (e σ h) (λ_ h1=>N σ h1) λn h=>Y n σ h:=by unfold JC;rw[Jnc];rfl
theorem Jwo(t:T1)(a b:S1):WSE (sIf t a b σ h) N R Y=WE (t σ h) (λc h1=>(c=Zh->WSE (a σ h1) N R Y)/\(c=Zj->WSE (b σ h1) N R Y)) λn h=>Y n σ h:=by unfold sIf;rw[Jnc];congr 1;funext c h1;cases c<;>simp
theorem Jsm(c:Str)(a:A1):WSE (VB c a σ h) N R Y=WE (a σ h) (λvs h1=>vs.length<=sizeLine/\Y h1.length σ (h1++[.exc c []])) λn h=>Y n σ h:=by
 unfold VB;rw[Jnc];congr 1;funext vs h1;by_cases z:vs.length<=sizeLine
 ·simp[z,WSE]
 ·simp[z,WSE]
theorem Jr0{Q:IV->IH->Prop}(f:Tx->IH->Res IV)(d:Tx)(a:A1):WE (Jl f d a σ h) Q Z=WE (a σ h) (λvs h1=>WE (f (vs++d) h1) Q Z) Z:=by unfold Jl;rw[Jza]
theorem Jwl{Q:IV->IH->Prop}{r:SRes}(w:WSE r (λ_ h=>Q .non h) Q λn _ h=>(∃c fs,h[n]?=Za (.exc c fs))/\Z n h):WE r.fin Q Z:=by cases r with|next σ h=>exact w|ret v h=>exact w|exc n σ h=>obtain⟨⟨c,fs,e⟩,z⟩:=w;rw[Jxc e];exact z|_=>exact Zf w
theorem J3f(b:S1)(hs:Tr)(w:WSE (b σ h) N R λn σ1 h1=>∃c fs,h1[n]?=Za (.exc c fs)/\WS (V2 hs c n σ1 h1) N R):WS (sTry b hs σ h) N R:=by unfold sTry;cases e:b σ h with|next σ1 h1=>rw[e]at w;exact w|ret v h1=>rw[e]at w;exact w|exc n σ1 h1=>rw[e]at w;obtain⟨c,fs,e1,w⟩:=w;dsimp only;rw[e1];exact w|_=>rw[e]at w;exact Zf w
theorem Jzr(sl:Wy)(r:SRes):WS (r.drop sl) N R=WS r (λσ h=>N (VU sl Zd σ) h) R:=by unfold SRes.drop;cases r<;>rfl
theorem J5g(e:g c=Za Zh):WS (V2 ((g,sl,m)::r) c n σ h) N R=WS (m (VU sl (Za<|.ref n) σ) h) (λσ h=>N (VU sl Zd σ) h) R:=by unfold V2;dsimp only;rw[e];dsimp only;rw[Jzr]
end
theorem Jf0:∀{a b c:Tp},ltL a b=Zh->ltL b c=Zh->ltL a c=Zh
 |a::as,b::bs,c::cs,h1,h2=>by
  unfold ltL at h1 h2 ⊢;by_cases e1:a=b
  ·rw[if_pos e1]at h1;subst e1;by_cases e2:a=c
   ·rw[if_pos e2]at h2 ⊢;exact Jf0 h1 h2
   ·rw[if_neg e2]at h2 ⊢;exact h2
  ·rw[if_neg e1,decide_eq_true_eq]at h1;by_cases e2:b=c
   ·subst e2;rw[if_neg e1,decide_eq_true_eq];exact h1
   ·rw[if_neg e2,decide_eq_true_eq]at h2;rw[if_neg 00,decide_eq_true_eq];omega
 |[],_,_,h,_=>by simp[ltL]at h
 |_::_,[],_,h,_=>by simp[ltL]at h
 |_::_,_::_,[],_,h=>by simp[ltL]at h
theorem Yi:∀a:Tp,ltL a a=Zj|[]=>rfl|a::as=>by unfold ltL;rw[if_pos rfl];exact Yi as
theorem Jty{as bs:Tp}(h:as.length=bs.length):ltT (.tup<|as.map .int) (.tup<|bs.map .int)=Za (ltL as bs):=by unfold ltT;dsimp only;rw[QF,QF];dsimp only;rw[if_pos h]
section
variable{mk:IV->IH->Res IV}{kf:IV->Tp}{i n:Nat}{ys:Tx}
theorem Jeh(hi:h0[i]?=Za (.lst ys))(hm:∀y∈ys,∀h,Ex h0 h->WR (mk y h) λv h'=>v=.tup ((kf y).map .int)/\Ex h h')(hl:∀y∈ys,(kf y).length=n):∀(r:Nat)(b:IV)(h:IH),Ex h0 h->r<ys.length->b∈ys->(∀y∈ys.take (ys.length-r),ltL (kf y) (kf b)=Zj)->WR (QV ltT mk i ys.length r b (.tup<|(kf b).map .int) h) λv h'=>v∈ys/\(∀y∈ys,ltL (kf y) (kf v)=Zj)/\Ex h h'
 |0,b,h,x,_,hb,q=>by unfold QV;rw[x.get hi];dsimp only;rw[if_pos rfl];rw[Nat.sub_zero,ZeT]at q;exact#[hb,q,.refl _]
 |r+1,b,h,x,hr,hb,q=>by
  unfold QV;rw[x.get hi];dsimp only;rw[if_pos rfl];have hlt:ys.length-(r+1)<ys.length:=00;rw[Zb hlt];dsimp only;have hy:=ZF hlt;have ht:ys.take (ys.length-r)=ys.take (ys.length-(r+1))++[ys[ys.length-(r+1)]]:=by rw[<-Za7 hlt,show ys.length-(r+1)+1=ys.length-r by omega]
  generalize ys[ys.length-(r+1)]=y at hy ht;obtain⟨v,h2,e,rfl,x2⟩:=(hm y hy h x).eq;rw[e];show WR (match ltT (.tup<|(kf y).map .int) (.tup<|(kf b).map .int)with|some Zh=>_|some Zj=>_|none=>_) _;rw[Jty<|by rw[hl y hy,hl b hb]];cases c:ltL (kf y) (kf b)with
  |true=>
   refine WR.mono (Jeh hi hm hl r y h2 (x.trans x2) 00 hy λz hz=>?_) λv h' ⟨a,d,g⟩=>#[a,d,x2.trans g]
   rw[ht]at hz;rcases ZK.mp hz with hz|hz
   ·cases zc:ltL (kf z) (kf y)with
    |false=>rfl
    |true=>exact absurd (Jf0 zc c)<|by rw[q z hz];exact Zw
   ·rw[Z9.mp hz];exact Yi _
  |false=>
   refine WR.mono (Jeh hi hm hl r b h2 (x.trans x2) 00 hb λz hz=>?_) λv h' ⟨a,d,g⟩=>#[a,d,x2.trans g]
   rw[ht]at hz;rcases ZK.mp hz with hz|hz
   ·exact q z hz
   ·rw[Z9.mp hz];exact c
theorem Jsb(hi:h[i]?=Za (.lst ys))(ne:ys≠[])(hm:∀y∈ys,∀h',Ex h h'->WR (mk y h') λv h2=>v=.tup ((kf y).map .int)/\Ex h' h2)(hl:∀y∈ys,(kf y).length=n):WR (VQ ltT mk i Zd h) λv h'=>v∈ys/\(∀y∈ys,ltL (kf y) (kf v)=Zj)/\Ex h h':=by
 unfold VQ;rw[hi];dsimp only;cases ys with
 |nil=>exact absurd rfl ne
 |cons y r=>
  obtain⟨v,h2,e,rfl,x2⟩:=(hm y Z2 h<|.refl _).eq;show WR ((mk y h).nx.bind λk h'=>QV ltT mk i (y::r).length ((y::r).length-1) y k h') _;rw[e];refine WR.mono (Jeh (kf:=kf) (x2.get hi) (λz hz h' x=>hm z hz h'<|x2.trans x) hl ((y::r).length-1) y h2 (.refl _) 03 Z2 λz hz=>?_) λv h' ⟨a,d,g⟩=>#[a,d,x2.trans g]
  rw[show(y::r).length-((y::r).length-1)=1 by simp,List.take_succ_cons,List.take_zero,Z9]at hz;rw[hz];exact Yi _
theorem Jzm{js:Tq}{m:E1}{Q:IV->IH->Prop}(hj:h[j]?=Za (.tab q))(hi:σ[i]?=Za (Za<|.ref a)):WR (Xm ltT q j js (Jb (Ja i) Jd) m σ h) Q=WR (VQ ltT (λv h'=>m (Za v::js.map λj=>(σ[j]?).join) h') a Zd h) Q:=by
 have e:Jb (Ja i) Jd σ h=.ok [.ref a] h:=by unfold Jb Ja Jd;rw[hi];rfl
 unfold Xm;rw[e];show WR (match h[j]? with|some (.tab q')=>_|_=>_) Q=_;rw[hj];dsimp only;rw[if_pos rfl]
end
end L4
local macro_rules|`($c:char)=>let n:=c.getChar.toNat;if n<58 then `(L3.eC<|.int $(Lean.quote (n-48))) else `(L3.Ja $(Lean.quote (n-97)))
namespace LW
theorem Kaz{α:Sort _}{p:α->Prop}{a':α}:(∃a,a'=a/\p a)↔p a':=exists_eq_left'
theorem Kbz{α:Sort _}{p:α->Prop}{a':α}:(∃a,a=a'/\p a)↔p a':=exists_eq_left
theorem Kcz(a b:Bool):(L3.IV.bl a=L3.IV.bl b)=(a=b):=L3.IV.bl.injEq a b
theorem Kdz(a b:Int):(L3.IV.int a=L3.IV.int b)=(a=b):=L3.IV.int.injEq a b
theorem Kez(a b:Nat):(L3.IV.ref a=L3.IV.ref b)=(a=b):=L3.IV.ref.injEq a b
theorem Kfz(a b:PySem.Str):(L3.IV.str a=L3.IV.str b)=(a=b):=L3.IV.str.injEq a b
theorem Kgz(a b:List L3.IV):(L3.IV.tup a=L3.IV.tup b)=(a=b):=L3.IV.tup.injEq a b
theorem Khz(a b:List L3.IV):(L3.IX.lst a=L3.IX.lst b)=(a=b):=L3.IX.lst.injEq a b
theorem Kiz{α:Type _}(a b:α):(Za a=Za b)=(a=b):=ZaQ a b
theorem Kjz:(!true)=Zj:=Zdg
theorem Kkz:(!false)=Zh:=Zet
theorem Klz:(Zh=Zj)=False:=Zds
theorem Kmz:(Zj=Zh)=False:=Zad
theorem Knz{α β:Type _}(a:α)(f:α->Option β):(Za a).bind f=f a:=ZdI a f
theorem Koz(p:Prop):(True->p)=p:=true_implies p
theorem Kpz(p:Prop):(False->p)=True:=false_implies p
theorem Kqz(α:Sort _):(α->True)=True:=implies_true α
theorem Krz{α:Type _}{a b:α}{l:List α}{n:Nat}:(a::l).set (n+1) b=a::l.set n b:=Zdt
theorem Ksz{α:Type _}{a b:α}{l:List α}:(a::l).set 0 b=b::l:=ZbA
theorem Ktz{α:Type _}{a:α}{l m:List α}:(a::l)++m=a::(l++m):=ZaK
theorem Kuz{α:Type _}(l:List α):[]++l=l:=Zbr l
theorem Kvz{α:Type _}(l:List α):l++[]=l:=ZaI l
end LW
namespace LW
open PySem L2 L3 L4
noncomputable def top (i:Nat):ZcZ:=PySem.Challenge.pw_dutyproof_k55_whole_fars_keep.main.body.getD i<|.Pass #[0,0,0,0]
def Jcf:D4:=#[top 9,"is_whole",["thing"],["thing"],[]]
def Jah:D4:=#[top 10,"is_whole_from",["thing","least"],["thing","least"],[]]
def Jbs:D4:=#[top 11,"rounds_up",["top","bottom"],["top","bottom"],[]]
def Jdq:D4:=#[top 18,"is_name",["thing"],["thing"],[]]
def Jbq:D4:=#[top 24,"own_holds",["holds","length"],["holds","length"],[]]
def Jdu:D4:=#[top 25,"own_due",["due","gap"],["due","gap"],[]]
def Qn:D4:=#[Qa (top 26) 0,"Work.__init__",["self","name","gap","length","due","late","holds"],["self","name","gap","length","due","late","holds"],[.non,.int 0,.non]]
def Jbm:D4:=#[Qa (top 26) 1,"Work.held",["self"],["self"],[]]
def Jcd:D4:=#[top 28,"ceilings",["duty"],["duty","found","at","hold"],[]]
def Jam:D4:=#[top 29,"refuse_holds",["duty"],["duty"],[]]
def Ja4:D4:=#[top 31,"comings_in",["work","span"],["work","span"],[]]
def Jdp:D4:=#[top 34,"dues_in",["work","span"],["work","span","spare"],[]]
def Je2:D4:=#[top 35,"demand",["duty","span"],["duty","span"],[]]
def Jhr:D4:=#[top 36,"asked",["duty","span"],["duty","span"],[]]
def Jdo:D4:=#[top 37,"crowded",["duty","span"],["duty","span"],[]]
def Jae:D4:=#[top 38,"refuse_crowded",["duty","far"],["duty","far"],[]]
def Jhs:D4:=#[top 39,"bends",["duty","far"],["duty","far","found","work"],[]]
def Jac:D4:=#[top 40,"first_overdrawn",["duty","far"],["duty","far","bend"],[]]
def Jas:D4:=#[top 41,"lets_by_due",["duty","far"],["duty","far"],[]]
def Jhu:D4:=#[top 42,"spans",["duty"],["duty","told","more"],[]]
def Jht:D4:=#[top 49,"ready",["coming"],["coming"],[]]
def Je3:D4:=#[top 50,"due_at",["duty","coming"],["duty","coming"],[]]
def Jbn:D4:=#[top 51,"is_coming",["duty","thing"],["duty","thing","work"],[]]
def Jaq:D4:=#[top 52,"first_wrong",["duty","row"],["duty","row","last_come","place","coming","at"],[]]
def Jdn:D4:=#[top 53,"checked",["duty","row"],["duty","row","wrong"],[]]
def Jbp:D4:=#[top 58,"next_stop",["work","done","length"],["work","done","length"],[]]
def Ja0:D4:=#[Qa (top 59) 0,"Bench.__init__",["self","order","row"],["self","order","row"],[]]
def Jaa:D4:=#[Qa (top 59) 1,"Bench.next_ready",["self"],["self"],[]]
def Jal:D4:=#[Qa (top 59) 2,"Bench.let_in",["self"],["self"],[]]
def Jab:D4:=#[Qa (top 59) 3,"Bench.turns_for",["self","place"],["self","place","coming","done","turns"],[]]
def Ja1:D4:=#[Qa (top 59) 4,"Bench.tell",["self","place","until"],["self","place","until","begin"],[]]
def Jap:D4:=#[Qa (top 59) 5,"Bench.go_on",["self"],["self","place","turns"],[]]
def Jsx:D4:=#[top 60,"run",["order","row"],["order","row","bench"],[]]
def Jlz:D4:=#[top 61,"ends",["order","row"],["order","row","last","stretch"],[]]
def Je4:D4:=#[top 62,"missed",["order","row"],["order","row","turns"],[]]
def Jbr:D4:=#[top 66,"own_works",["works"],["works"],[]]
def Jce:D4:=#[top 67,"crowd_of",["works"],["works","greatest"],[]]
def Jbj:D4:=#[Qa (top 68) 0,"Duty.__init__",["self","works"],["self","works"],[]]
def Jbk:D4:=#[Qa (top 68) 1,"Duty.size",["self"],["self"],[]]
def Jbl:D4:=#[Qa (top 68) 2,"Duty.work",["self","at"],["self","at"],[]]
def Ja3:D4:=#[Qa (top 70) 0,"Order.__init__",["self","duty"],["self","duty"],[]]
def Xg:D4:=#[Qa (top 70) 2,"Order.holds",["self","coming","done"],["self","coming","done"],[]]
def Xh:D4:=#[Qa (top 70) 3,"Order.pick",["self","row","waiting","dones"],["self","row","waiting","dones"],[]]
def Xj:D4:=#[Qa (top 70) 4,"Order.standing",["self","coming","done"],["self","coming","done"],[]]
def Ja2:D4:=#[Qa (top 71) 0,"ByDue.__init__",["self","duty"],["self","duty"],[]]
def Jag:D4:=#[Qa (top 71) 1,"ByDue.rank_of",["self","coming","done"],["self","coming","done"],[]]
def Jar:D4:=#[top 73,"_law_cell_at",["_law_script","_law_k"],["_law_script","_law_k"],[]]
def Ja5:D4:=#[top 74,"_law_stream",["_law_cell","_law_many"],["_law_cell","_law_many","_law_found","_law_rest","_law_k","_law_number"],[]]
def Jbo:D4:=#[top 75,"_law_plain",["_law_cell","_law_unit","_law_many"],["_law_cell","_law_unit","_law_many","_law_xs","_law_gap","_law_length","_law_last","_law_late"],[]]
def Jdr:D4:=#[top 76,"_law_far",["_law_duty","_law_some","_law_cell"],["_law_duty","_law_some","_law_cell","_law_way","_law_last"],[]]
def Jdt:D4:=#[top 77,"_law_row",["_law_cells","_law_some"],["_law_cells","_law_some","_law_made","_law_nexts","_law_base","_law_cell","_law_xs","_law_at","_law_gap","_law_length","_law_last","_law_late","_law_turn","_law_come","_law_behind","_law_turns"],[]]
def Jds:D4:=#[top 78,"_law_let",["_law_duty","_law_far_here"],["_law_duty","_law_far_here","_law_found"],[]]
def QD:D4:=#[top 79,"law",["_law_script"],["_law_script","_law_first","_law_unit","_law_many","_law_some","_law_works","_law_k","_law_gap","_law_length","_law_last","_law_late","_law_duty","_law_let_here","_law_made","_law_found","_law_at","_law_come","_law_behind","_law_turns"],[]]
def T:Tab where
 fns:=[(("is_whole":Str),Jcf),(("is_whole_from":Str),Jah),(("rounds_up":Str),Jbs),(("is_name":Str),Jdq),(("own_holds":Str),Jbq),(("own_due":Str),Jdu),(("ceilings":Str),Jcd),(("refuse_holds":Str),Jam),(("comings_in":Str),Ja4),(("dues_in":Str),Jdp),(("demand":Str),Je2),(("asked":Str),Jhr),(("crowded":Str),Jdo),(("refuse_crowded":Str),Jae),(("bends":Str),Jhs),(("first_overdrawn":Str),Jac),(("lets_by_due":Str),Jas),(("spans":Str),Jhu),(("ready":Str),Jht),(("due_at":Str),Je3),(("is_coming":Str),Jbn),(("first_wrong":Str),Jaq),(("checked":Str),Jdn),(("next_stop":Str),Jbp),(("run":Str),Jsx),(("ends":Str),Jlz),(("missed":Str),Je4),(("own_works":Str),Jbr),(("crowd_of":Str),Jce),(("_law_cell_at":Str),Jar),(("_law_stream":Str),Ja5),(("_law_plain":Str),Jbo),(("_law_far":Str),Jdr),(("_law_row":Str),Jdt),(("_law_let":Str),Jds),(("law":Str),QD)]
 clss:=[("Work",Qn),("Bench",Ja0),("Duty",Jbj),("Order",Ja3),("ByDue",Ja2)]
 meths:=[("Work",([("held",Jbm)]:Wp)),("Bench",([("next_ready",Jaa),("let_in",Jal),("turns_for",Jab),("tell",Ja1),("go_on",Jap)]:Wp)),("Duty",([("size",Jbk),("work",Jbl)]:Wp)),("Order",([("holds",Xg),("pick",Xh),("standing",Xj)]:Wp)),("ByDue",([("rank_of",Jag),("holds",Xg),("pick",Xh),("standing",Xj)]:Wp))]
 cons:=[("MOST_LETTERS",.int 8),("MOST_HOLDS",.int 6),("THING",.int 0),("START",.int 1),("END",.int 2),("MOST_CROWDED",.int 200),("MOST_COMINGS",.int 200),("AT",.int 0),("COME",.int 1),("LATE",.int 2),("LENGTH",.int 3),("PLACE",.int 0),("FROM",.int 1),("UNTIL",.int 2),("MOST_WORKS",.int 12),("MOST_CROWD",.int 80)]
 isas:=[("Work",["Work"])]
 flds:=["append","dones","due","duty","extend","gap","hold_tuples","late","later","length","name","order","place","pop","remove","row","setdefault","stretches","turn","waiting","works"]
 frees:=["all","bool","enumerate","int","isinstance","len","list","max","min","range","set","sorted","str","sum","tuple"]
 tabs:=["Order.pick","Bench.__init__"]
 razs:=["TooMany"]
 xis:=[("TooMany",[("TooMany",Zh)])]
 bass:=["Order"]
def Jg7:Str->Wu:=λc=>JQ c [("TooMany",Zh)]
abbrev pg(k:Nat):Pg:=mkPg T<|run T k
section
variable(k:Nat)(x0 x1 x2 x3 x4 x5 x6:IV)(h:IH)
abbrev Jcb:=run T k Jcf
abbrev VJ:=run T k Jah
abbrev Jbg:=run T k Jbs
abbrev Jfc:=run T k Jdq
abbrev XO:=run T k Jbq
abbrev XN:=run T k Jdu
abbrev Jbd:=run T k Qn
abbrev Jcs:=run T k Jbm
abbrev Jd4:=run T k Jcd
abbrev Jak:=run T k Jam
abbrev Jaw:=run T k Ja4
abbrev XM:=run T k Jdp
abbrev Jg8:=run T k Je2
abbrev XJ:=run T k Jhr
abbrev Jc3:=run T k Jdo
abbrev Jad:=run T k Jae
abbrev Jki:=run T k Jhs
abbrev Jaj:=run T k Jac
abbrev Jbf:=run T k Jas
abbrev Jkj:=run T k Jhu
abbrev Jha:=run T k Jht
abbrev XL:=run T k Je3
abbrev Jct:=run T k Jbn
abbrev Jbe:=run T k Jaq
abbrev Jfb:=run T k Jdn
abbrev Jcv:=run T k Jbp
abbrev Jbz:=run T k Ja0
abbrev Jaf:=run T k Jaa
abbrev Ja6:=run T k Jal
abbrev Jai:=run T k Jab
abbrev Jb0:=run T k Ja1
abbrev Jba:=run T k Jap
abbrev Jwp:=run T k Jsx
abbrev Jlq:=run T k Jlz
abbrev Jg9:=run T k Je4
abbrev Jcw:=run T k Jbr
abbrev Jd5:=run T k Jce
abbrev Jbb:=run T k Jbj
abbrev Jcq:=run T k Jbk
abbrev Jcr:=run T k Jbl
abbrev Jb1:=run T k Ja3
abbrev Jbc:=run T k Xg
abbrev Jav:=run T k Xh
abbrev Jan:=run T k Xj
abbrev XI:=run T k Ja2
abbrev Jat:=run T k Jag
abbrev Jao:=run T k Jar
abbrev Jax:=run T k Ja5
abbrev Jcu:=run T k Jbo
abbrev Jfd:=run T k Jdr
abbrev Jff:=run T k Jdt
abbrev Jfe:=run T k Jds
abbrev Xb:=run T k QD
def Jiw(k:Nat):S1:=Jm<|eAnd (eIsi Jop 'a') (eUn (Jt7 tru)<|eIsi Jhb 'a') tru
theorem Jky:Jcb (k+1) [x0] h=(Jiw k [Za x0] h).fin:=02
def Ja8:S1:=Jm<|eAnd (Jl (Jcb k) []<|Jb 'a' Jd) (Jc cGe 'a' 'b') tru
theorem Jew:VJ (k+1) [x0,x1] h=(Ja8 k [Za x0,Za x1] h).fin:=02
def Jdj(k:Nat):S1:=Jm<|Jc JJ (Jc Qm (Jc Jo 'a' 'b') '1') 'b'
theorem Jjo:Jbg (k+1) [x0,x1] h=(Jdj k [Za x0,Za x1] h).fin:=02
def Jbh(k:Nat):E1:=JW cLe cLe (eC<|.str "a") 'a'<|eC<|.str "z"
def Jfl:S1:=Jm<|eCB (on1 allI)<|Jb (Js (Jy 'a') 1 [] (gNm 0) JA<|Jbh k) Jd
def Jfk:S1:=Jf (sIf (tOrI (JE<|Jh tru<|eIsi Xc 'a')<|JE<|Jh asB<|JW cLe cLe '1' (eCB (on1 lenI)<|Jb 'a' Jd) '8') (Jm<|eC<|.bl Zj) Jq)<|Jfl k
theorem Jno:Jfc (k+1) [x0] h=(Jfk k [Za x0] h).fin:=02
def Jde(k:Nat):S1:=Jf (sIf (Jh asB<|Jc cIs 'a'<|eC .non) (Jm<|eTup Jd) Jq)<|Jf (sIf (JE<|Jh tru<|eIsi QT 'a') stS Jq)<|Jf (sIf (Jh asB<|Jc cGt (eCB (on1 lenI)<|Jb 'a' Jd) '6') stS Jq)<|Jf (sIf (JE<|Jh tru<|eCB (on1 allI)<|Jb (Js (Jy 'a') 1 [1] (gNm 0) JA<|stE) Jd) stS Jq)<|Jf (sIf (JE<|Jh tru stE) stS Jq)<|Jm<|eCB (on1 VW)<|Jb (Js (Jy 'a') 1 [] (gNm 0) JA<|eTup<|Jb (Jc Jg 'a' '0')<|Jb (Jc Jg 'a' '1')<|Jb (Jc Jg 'a' '2') Jd) Jd
theorem Jjm:XO (k+1) [x0,x1] h=(Jde k [Za x0,Za x1] h).fin:=02
def Jfo(k:Nat):S1:=Jm 'a'
def Jfn:S1:=Jf (sIf (tOrI (JE<|Jh tru<|Jl (VJ k) []<|Jb 'a'<|Jb '1' Jd)<|Jh asB<|Jc cGt 'a' 'b') stS Jq)<|Jfo k
def Jfm:S1:=Jf (sIf (Jh asB<|Jc cIs 'a'<|eC .non) (Jm 'b') Jq)<|Jfn k
theorem Jns:XN (k+1) [x0,x1] h=(Jfm k [Za x0,Za x1] h).fin:=02
def Jdc:S1:=JN "hold_tuples" 'a'<|Jl (XO k) []<|Jb 'g'<|Jb 'd' Jd
def Jhj:S1:=Jf (sIf (JE<|Jh tru<|Jl (Jfc k) []<|Jb 'b' Jd) stS Jq)<|Jf (sIf (JE<|Jh tru<|Jl (VJ k) []<|Jb 'c'<|Jb '1' Jd) stS Jq)<|Jf (sIf (JE<|Jh tru<|Jl (VJ k) []<|Jb 'd'<|Jb '1' Jd) stS Jq)<|Jf (sIf (JE<|Jh tru<|Jl (VJ k) []<|Jb 'f'<|Jb '0' Jd) stS Jq)<|Jf (JN "name" 'a' 'b')<|Jf (JN "gap" 'a' 'c')<|Jf (JN "length" 'a' 'd')<|Jf (JN "due" 'a'<|Jl (XN k) []<|Jb 'e'<|Jb 'c' Jd)<|Jf (JN "late" 'a' 'f')<|Jdc k
theorem Jji:Jbd (k+1) [x0,x1,x2,x3,x4,x5,x6] h=(Jhj k [Za x0,Za x1,Za x2,Za x3,Za x4,Za x5,Za x6] h).fin:=02
def Jdb(k:Nat):S1:=Jm<|eCB (on1 QH)<|Jb (Jj "hold_tuples" 'a') Jd
theorem Jjh:Jcs (k+1) [x0] h=(Jdb k [Za x0] h).fin:=02
def Jd0:S1:=sFor (Jy<|Jp (pg k) "held" 0 (Jp (pg k) "work" 1 'a'<|Jb 'c' Jd) Jd) (gNm 3)<|JC<|Jp (pg k) "setdefault" 2 'b'<|Jb (Jc Jg 'd' '0')<|Jb 'c' Jd
def Jek(k:Nat):S1:=Jm 'b'
def Jej:S1:=Jf (sFor (iRg Qd<|Jb (Jp (pg k) "size" 0 'a' Jd) Jd) (gNm 2)<|Jd0 k)<|Jek k
def Jei:S1:=Jf (Jk 1 Xk)<|Jej k
theorem Jkw:Jd4 (k+1) [x0] h=(Jei k [Za x0,Zd,Zd,Zd] h).fin:=02
def Jbx:S1:=sIf (Jh asB<|Jc cGt (eCB (on1 Xr)<|Jb (Jl (Jd4 k) []<|Jb 'a' Jd) Jd) '0') stS Jq
theorem Jfu:Jak (k+1) [x0] h=(Jbx k [Za x0] h).fin:=02
def Jge:S1:=Jm<|eIf (Jh asB<|Jc cGe 'b' '1') (Jl (Jbg k) []<|Jb (Jc Jo 'b'<|Jj "late" 'a')<|Jb (Jj "gap" 'a') Jd) '0'
theorem Jh4:Jaw (k+1) [x0,x1] h=(Jge k [Za x0,Za x1] h).fin:=02
def Jkn(k:Nat):S1:=Jf (Jk 2<|Jc Qm (Jc Jo 'b'<|Jj "late" 'a')<|Jj "due" 'a')<|Jm<|eIf (Jh asB<|Jc cGe 'c' '0') (Jc Jo (Jc JJ 'c'<|Jj "gap" 'a') '1') '0'
theorem Jnn:XM (k+1) [x0,x1] h=(Jkn k [Za x0,Za x1,Zd] h).fin:=02
def Jng:S1:=Jm<|eCB (on1 sumI)<|Jb (Js (Jy<|Jj "works" 'a') 1 [1] (gNm 0) JA<|Jc JX (Jl (XM k) []<|Jb 'a'<|Jb 'b' Jd)<|Jj "length" 'a') Jd
theorem Jpx:Jg8 (k+1) [x0,x1] h=(Jng k [Za x0,Za x1] h).fin:=02
def Jov:S1:=Jm<|eCB (on1 sumI)<|Jb (Js (Jy<|Jj "works" 'a') 1 [1] (gNm 0) JA<|Jc JX (Jl (Jaw k) []<|Jb 'a'<|Jb 'b' Jd)<|Jj "length" 'a') Jd
theorem Js7:XJ (k+1) [x0,x1] h=(Jov k [Za x0,Za x1] h).fin:=02
def Jkm:S1:=Jm<|eCB (on1 sumI)<|Jb (Js (Jy<|Jj "works" 'a') 1 [1] (gNm 0) JA<|Jl (Jaw k) []<|Jb 'a'<|Jb 'b' Jd) Jd
theorem Jnm:Jc3 (k+1) [x0,x1] h=(Jkm k [Za x0,Za x1] h).fin:=02
def Jaz:S1:=sIf (Jh asB<|Jc cGt (Jl (Jc3 k) []<|Jb 'a'<|Jb 'b' Jd)<|eC<|.int 200) (VB "TooMany"<|Jb (eC<|.str "more than 200 comings may be ready within the far") Jd) Jq
theorem Jed:Jad (k+1) [x0,x1] h=(Jaz k [Za x0,Za x1] h).fin:=02
def Jfp(k:Nat):E1:=Jc Qm (Jc Jo (Jc JX 'a'<|Jj "gap" 'b')<|Jj "due" 'b')<|Jj "late" 'b'
def Jow:S1:=Jf (JC<|Jl (Jad k) []<|Jb 'a'<|Jb 'b' Jd)<|Jf (Jk 2<|eLst Jd)<|Jf (sFor (Jy<|Jj "works" 'a') (gNm 3)<|JC<|Jp (pg k) "extend" 1 'c'<|Jb (Js (iRg Qd<|Jb (Jl (XM k) []<|Jb 'd'<|Jb 'b' Jd) Jd) 1 [3] (gNm 0) JA<|Jfp k) Jd)<|Jm<|Ya<|Jb 'c' Jd
theorem Js8:Jki (k+1) [x0,x1] h=(Jow k [Za x0,Za x1,Zd,Zd] h).fin:=02
def Jcy:S1:=Jf (sFor (Jy<|Jl (Jki k) []<|Jb 'a'<|Jb 'b' Jd) (gNm 2)<|sIf (Jh asB<|Jc cGt (Jl (Jg8 k) []<|Jb 'a'<|Jb 'c' Jd) 'c') (Jm 'c') Jq)<|Jm<|eC .non
theorem Jdz:Jaj (k+1) [x0,x1] h=(Jcy k [Za x0,Za x1,Zd] h).fin:=02
def Jb6:S1:=Jf (JC<|Jl (Jad k) []<|Jb 'a'<|Jb 'b' Jd)<|Jm<|eAnd (Jc cLe (Jl (XJ k) []<|Jb 'a'<|Jb 'b' Jd) 'b') (Jc cIs (Jl (Jaj k) []<|Jb 'a'<|Jb 'b' Jd)<|eC .non) tru
def Jb5:S1:=Jf (sIf (Jh asB<|Jc cLt 'b' '1') (Jm<|eC<|.bl Zj) Jq)<|Jb6 k
def Jb4:S1:=Jf (JC<|Jl (Jak k) []<|Jb 'a' Jd)<|Jb5 k
theorem Jgn:Jbf (k+1) [x0,x1] h=(Jb4 k [Za x0,Za x1] h).fin:=02
def Jfq(k:Nat):E1:=Jj "due" 'a'
def Jo0:S1:=Jf (Jk 1<|eLst<|Jb (Xl (Jb (Js (Jy<|Jj "works" 'a') 1 [] (gNm 0) JA<|Jfq k) Jd) '1') Jd)<|Jf (Jk 2<|Jl (XJ k) []<|Jb 'a'<|Jb (Jc Jg 'b'<|eUn V8 '1') Jd)<|Jf (X6 (Qv (Jh asB<|Jc cGt 'c'<|Jc Jg 'b'<|eUn V8 '1')<|Jh asB<|Jc cLe (Jl (Jc3 k) []<|Jb 'a'<|Jb 'c' Jd)<|eC<|.int 200)<|Jf (JC<|Jp (pg k) "append" 1 'b'<|Jb 'c' Jd)<|Jk 2<|Jl (XJ k) []<|Jb 'a'<|Jb 'c' Jd)<|Jm 'b'
theorem Jtb:Jkj (k+1) [x0] h=(Jo0 k [Za x0,Zd,Zd] h).fin:=02
def Joz(k:Nat):S1:=Jm<|Jc Jo (Jc Jg 'a' '1')<|Jc Jg 'a' '2'
theorem Jta:Jha (k+1) [x0] h=(Joz k [Za x0] h).fin:=02
def Jnh:S1:=Jm<|Jc Jo (Jc Jg 'b' '1')<|Jj "due"<|Jp (pg k) "work" 1 'a'<|Jb (Jc Jg 'b' '0') Jd
theorem Jpy:XL (k+1) [x0,x1] h=(Jnh k [Za x0,Za x1] h).fin:=02
def Jau:E1:=Jl (Jcb k) []<|Jb 'a' Jd
def Jhk:S1:=Jf (sIf (tOrI (JE<|Jh tru<|eIsi Joq 'b')<|Jh asB<|Jc cNe (eCB (on1 lenI)<|Jb 'b' Jd) '4') (Jm<|eC<|.bl Zj) Jq)<|Jf (sIf (JE<|Jh tru<|eCB (on1 allI)<|Jb (Js (Jy 'b') 1 [] (gNm 0) JA<|Jau k) Jd) (Jm<|eC<|.bl Zj) Jq)<|Jf (sIf (tOrI (JE<|Jh asB<|JW cLe cLt '0' (Jc Jg 'b' '0')<|Jp (pg k) "size" 0 'a' Jd)<|Jh asB<|Jc cLt (Jc Jg 'b' '1') '0') (Jm<|eC<|.bl Zj) Jq)<|Jf (Jk 2<|Jp (pg k) "work" 1 'a'<|Jb (Jc Jg 'b' '0') Jd)<|Jm<|eAnd (JW cLe cLe '0' (Jc Jg 'b' '2')<|Jj "late" 'c') (JW cLe cLe '1' (Jc Jg 'b' '3')<|Jj "length" 'c') tru
theorem Jjj:Jct (k+1) [x0,x1] h=(Jhk k [Za x0,Za x1,Zd] h).fin:=02
def Jfj:S1:=Jf (Jk 2 Xk)<|Jf (sFor (iRg QG<|Jb 'b' Jd) (gTp 2<|gC (gNm 3)<|gC (gNm 4) gN)<|Jf (sIf (JE<|Jh tru<|Jl (Jct k) []<|Jb 'a'<|Jb 'e' Jd) (Jm 'd') Jq)<|Jf (Jk 5<|Jc Jg 'e' '0')<|Jf (sIf (Qv (Jh asB<|Jc cInD 'f' 'c')<|Jh asB<|Jc cLt (Jc Qm (Jc Jg 'e' '1')<|Jc VT 'c' 'f')<|Jj "gap"<|Jp (pg k) "work" 1 'a'<|Jb 'f' Jd) (Jm 'd') Jq)<|sAsg (Jc Jg 'e' '1')<|gSbD 'c' 'f')<|Jm<|eC .non
theorem Jgl:Jbe (k+1) [x0,x1] h=(Jfj k [Za x0,Za x1,Zd,Zd,Zd,Zd] h).fin:=02
def Jkl:S1:=Jf (sIf (Jh asB<|Jc cGt (eCB (on1 lenI)<|Jb 'b' Jd)<|eC<|.int 200) (VB "TooMany"<|Jb (eC<|.str "a row that is run or looked at has at most two hundred comings") Jd) Jq)<|Jf (Jk 2<|Jl (Jbe k) []<|Jb 'a'<|Jb 'b' Jd)<|sIf (Jh asB<|Jc Jlv 'c'<|eC .non) stS Jq
theorem Jnl:Jfb (k+1) [x0,x1] h=(Jkl k [Za x0,Za x1,Zd] h).fin:=02
def Jhm:S1:=Jm<|eCB (on1 Xv)<|Jb (Jc Jo (eLst<|Jb 'c' Jd)<|Js (Jy<|Jp (pg k) "held" 0 'a' Jd) 1 [1] (gNm 0) (Jh asB<|Jc cGt (Jc Jg 'a' '2') 'b')<|Jc Jg 'a' '2') Jd
theorem Jjl:Jcv (k+1) [x0,x1,x2] h=(Jhm k [Za x0,Za x1,Za x2] h).fin:=02
def Xd:E1:=Jl (Jha k) []<|Jb (Jc Jg 'b' 'a') Jd
def Jch(k:Nat):S1:=JN "stretches" 'a'<|eLst Jd
def Jgc:S1:=Jf (JN "order" 'a' 'b')<|Jf (JN "row" 'a' 'c')<|Jf (JN "dones" 'a'<|Js (Jy 'c') 1 [] (gNm 0) JA '0')<|Jf (JN "later" 'a'<|XZ "Bench.__init__" 1 [2] (Jb (eCB (on1 lenI)<|Jb 'c' Jd) Jd)<|Xd k)<|Jf (JN "waiting" 'a'<|eLst Jd)<|Jf (JN "turn" 'a' '0')<|Jch k
theorem Jhz:Jbz (k+1) [x0,x1,x2] h=(Jgc k [Za x0,Za x1,Za x2] h).fin:=02
def Jcg:S1:=Jm<|Jl (Jha k) []<|Jb (Jc Jg (Jj "row" 'a')<|Jc Jg (Jj "later" 'a')<|eUn V8 '1') Jd
theorem Jc0:Jaf (k+1) [x0] h=(Jcg k [Za x0] h).fin:=02
def Jbw:S1:=X6 (Qv (Jh asB<|Jc cGt (eCB (on1 lenI)<|Jb (Jj "later" 'a') Jd) '0')<|Jh asB<|Jc cLe (Jp (pg k) "next_ready" 0 'a' Jd)<|Jj "turn" 'a')<|JC<|Jp (pg k) "append" 1 (Jj "waiting" 'a')<|Jb (Jp (pg k) "pop" 0 (Jj "later" 'a') Jd) Jd
def Jet:S1:=Jf (sIf (Jh asB<|Jc cEq (eCB (on1 lenI)<|Jb (Jj "waiting" 'a') Jd) '0') (JN "turn" 'a'<|eCB (on2 maxI)<|Jb (Jj "turn" 'a')<|Jb (Jp (pg k) "next_ready" 0 'a' Jd) Jd) Jq)<|Jbw k
theorem Jft:Ja6 (k+1) [x0] h=(Jet k [Za x0] h).fin:=02
def Jcx:S1:=Jf (Jk 2<|Jc Jg (Jj "row" 'a') 'b')<|Jf (Jk 3<|Jc Jg (Jj "dones" 'a') 'b')<|Jf (Jk 4<|Jc Qm (Jl (Jcv k) []<|Jb (Jp (pg k) "work" 1 (Jj "duty"<|Jj "order" 'a')<|Jb (Jc Jg 'c' '0') Jd)<|Jb 'd'<|Jb (Jc Jg 'c' '3') Jd) 'd')<|Jf (sIf (Jh asB<|Jc cGt (eCB (on1 lenI)<|Jb (Jj "later" 'a') Jd) '0') (Jk 4<|eCB (on2 minI)<|Jb 'e'<|Jb (Jc Qm (Jp (pg k) "next_ready" 0 'a' Jd)<|Jj "turn" 'a') Jd) Jq)<|Jm 'e'
theorem Jdy:Jai (k+1) [x0,x1] h=(Jcx k [Za x0,Za x1,Zd,Zd,Zd] h).fin:=02
def Jci:S1:=JC<|Jp (pg k) "append" 1 (Jj "stretches" 'a')<|Jb (eTup<|Jb 'b'<|Jb 'd'<|Jb 'c' Jd) Jd
def Jgd:S1:=Jf (Jk 3<|Jj "turn" 'a')<|Jf (sIf (Qv (Jh asB<|Jc cGt (eCB (on1 lenI)<|Jb (Jj "stretches" 'a') Jd) '0')<|Jh asB<|Jc cEq (Jc Jg (Jc Jg (Jj "stretches" 'a')<|eUn V8 '1') '0') 'b') (Jk 3<|Jc Jg (Jp (pg k) "pop" 0 (Jj "stretches" 'a') Jd) '1') Jq)<|Jci k
theorem Jh0:Jb0 (k+1) [x0,x1,x2] h=(Jgd k [Za x0,Za x1,Za x2,Zd] h).fin:=02
def Jfh:S1:=Jf (JC<|Jp (pg k) "let_in" 0 'a' Jd)<|Jf (Jk 1<|Jp (pg k) "pick" 3 (Jj "order" 'a')<|Jb (Jj "row" 'a')<|Jb (Jj "waiting" 'a')<|Jb (Jj "dones" 'a') Jd)<|Jf (Jk 2<|Jp (pg k) "turns_for" 1 'a'<|Jb 'b' Jd)<|Jf (JC<|Jp (pg k) "tell" 2 'a'<|Jb 'b'<|Jb (Jc Jo (Jj "turn" 'a') 'c') Jd)<|Jf (X4 .Add "turn" 'a' 'c')<|Jf (X5 .Add (Jj "dones" 'a') 'b' 'c')<|sIf (Jh asB<|Jc cEq (Jc Jg (Jj "dones" 'a') 'b')<|Jc Jg (Jc Jg (Jj "row" 'a') 'b') '3') (JC<|Jp (pg k) "remove" 1 (Jj "waiting" 'a')<|Jb 'b' Jd) Jq
theorem Jgj:Jba (k+1) [x0] h=(Jfh k [Za x0,Zd,Zd] h).fin:=02
def Jww:S1:=Jf (JC<|Jl (Jfb k) []<|Jb (Jj "duty" 'a')<|Jb 'b' Jd)<|Jf (Jk 2<|Q5 "Bench" (Jbz k) []<|Jb 'a'<|Jb 'b' Jd)<|Jf (X6 (Jh asB<|Jc cGt (Jc Jo (eCB (on1 lenI)<|Jb (Jj "later" 'c') Jd)<|eCB (on1 lenI)<|Jb (Jj "waiting" 'c') Jd) '0')<|JC<|Jp (pg k) "go_on" 0 'c' Jd)<|Jm<|Jj "stretches" 'c'
theorem J0k:Jwp (k+1) [x0,x1] h=(Jww k [Za x0,Za x1,Zd] h).fin:=02
def Jgv(k:Nat):E1:=Jc VT 'b' 'a'
def Jsq:S1:=Jf (Jk 2 Xk)<|Jf (sFor (Jy<|Jl (Jwp k) []<|Jb 'a'<|Jb 'b' Jd) (gNm 3)<|sAsg (Jc Jg 'd' '2')<|gSbD 'c'<|Jc Jg 'd' '0')<|Jm<|Js (iRg Qd<|Jb (eCB (on1 lenI)<|Jb 'b' Jd) Jd) 1 [2] (gNm 0) JA<|Jgv k
theorem Jxh:Jlq (k+1) [x0,x1] h=(Jsq k [Za x0,Za x1,Zd,Zd] h).fin:=02
def Jen:T1:=Jh asB<|Jc cGt (Jc Jg 'd' 'a')<|Jl (XL k) []<|Jb (Jj "duty" 'c')<|Jb 'b' Jd
def Jni:S1:=Jf (Jk 2<|Jl (Jlq k) []<|Jb 'a'<|Jb 'b' Jd)<|Jm<|Js (iRg QG<|Jb 'b' Jd) 2 [0,2] (gTp 2<|gC (gNm 0)<|gC (gNm 1) gN) (Jen k) 'a'
theorem Jpz:Jg9 (k+1) [x0,x1] h=(Jni k [Za x0,Za x1,Zd] h).fin:=02
def Jb7(k:Nat):E1:=eIsi (Jvf ["Work"]) 'a'
def Jb8(k:Nat):E1:=Jj "name" 'a'
def Jdi(k:Nat):S1:=Jm<|eCB (on1 VW)<|Jb 'a' Jd
def Jdh:S1:=Jf (sIf (Jh asB<|Jc cNe (XY<|Jb (Js (Jy 'a') 1 [] (gNm 0) JA<|Jb8 k) Jd)<|eCB (on1 lenI)<|Jb 'a' Jd) stS Jq)<|Jdi k
def Jdg:S1:=Jf (sIf (JE<|Jh tru<|eCB (on1 allI)<|Jb (Js (Jy 'a') 1 [] (gNm 0) JA<|Jb7 k) Jd) stS Jq)<|Jdh k
def Jdf:S1:=Jf (sIf (JE<|Jh tru<|eIsi QT 'a') stS Jq)<|Jdg k
theorem Jjn:Jcw (k+1) [x0] h=(Jdf k [Za x0] h).fin:=02
def Jcn(k:Nat):E1:=Jj "due" 'a'
def Jco:E1:=Jl (Jbg k) []<|Jb (Jc Jo 'b'<|Jj "late" 'a')<|Jb (Jj "gap" 'a') Jd
def Jem:S1:=Jm<|eCB (on1 sumI)<|Jb (Js (Jy 'a') 1 [1] (gNm 0) JA<|Jco k) Jd
def Jel:S1:=Jf (Jk 1<|Xl (Jb (Js (Jy 'a') 1 [] (gNm 0) JA<|Jcn k) Jd) '0')<|Jem k
theorem Jkx:Jd5 (k+1) [x0] h=(Jel k [Za x0,Zd] h).fin:=02
def Jc8:S1:=sIf (Jh asB<|Jc cGt (Jl (Jd5 k) []<|Jb (Jj "works" 'a') Jd)<|eC<|.int 80) (VB "TooMany"<|Jb (eC<|.str "the crowd of a duty is at most 80") Jd) Jq
def Jc7:S1:=Jf (sIf (Jh asB<|Jc cGt (eCB (on1 lenI)<|Jb (Jj "works" 'a') Jd)<|eC<|.int 12) (VB "TooMany"<|Jb (eC<|.str "a duty has at most twelve works") Jd) Jq)<|Jc8 k
def Jc6:S1:=Jf (JN "works" 'a'<|Jl (Jcw k) []<|Jb 'b' Jd)<|Jc7 k
theorem Jje:Jbb (k+1) [x0,x1] h=(Jc6 k [Za x0,Za x1] h).fin:=02
def Jc9(k:Nat):S1:=Jm<|eCB (on1 lenI)<|Jb (Jj "works" 'a') Jd
theorem Jjf:Jcq (k+1) [x0] h=(Jc9 k [Za x0] h).fin:=02
def Jda(k:Nat):S1:=Jm<|Jc Jg (Jj "works" 'a') 'b'
theorem Jjg:Jcr (k+1) [x0,x1] h=(Jda k [Za x0,Za x1] h).fin:=02
def Jcl(k:Nat):S1:=JN "duty" 'a' 'b'
theorem Jh2:Jb1 (k+1) [x0,x1] h=(Jcl k [Za x0,Za x1] h).fin:=02
def Jfi(k:Nat):S1:=Jm<|eC<|.bl Zj
theorem Jgk:Jbc (k+1) [x0,x1,x2] h=(Jfi k [Za x0,Za x1,Za x2] h).fin:=02
def Jby:E1:=Jc Jo (Jp (pg k) "standing" 2 'd'<|Jb (Jc Jg 'c' 'a')<|Jb (Jc Jg 'b' 'a') Jd)<|eTup<|Jb 'a' Jd
def Jcm:S1:=Jm<|Xm ltT "Order.pick" 0 [3,1,0] (Jb 'c' Jd)<|Jby k
theorem Jh3:Jav (k+1) [x0,x1,x2,x3] h=(Jcm k [Za x0,Za x1,Za x2,Za x3] h).fin:=02
def Jay:S1:=Jm<|eTup<|Jb (Jp (pg k) "rank_of" 2 'a'<|Jb 'b'<|Jb 'c' Jd)<|Jb (eIf (Jh tru<|Jp (pg k) "holds" 2 'a'<|Jb 'b'<|Jb 'c' Jd) '0' '1') Jd
theorem Jec:Jan (k+1) [x0,x1,x2] h=(Jay k [Za x0,Za x1,Za x2] h).fin:=02
def Jck:S1:=JC<|Jl (Jb1 k) []<|Jb 'a'<|Jb 'b' Jd
def Jcj:S1:=Jf (JC<|Jl (Jak k) []<|Jb 'b' Jd)<|Jck k
theorem Jh1:XI (k+1) [x0,x1] h=(Jcj k [Za x0,Za x1] h).fin:=02
def Jd8:S1:=Jm<|Jl (XL k) []<|Jb (Jj "duty" 'a')<|Jb 'b' Jd
theorem Jev:Jat (k+1) [x0,x1,x2] h=(Jd8 k [Za x0,Za x1,Za x2] h).fin:=02
def Jb3(k:Nat):S1:=Jm '0'
def Jb2:S1:=Jf (sIf (Jh asB<|Jc cLt 'b'<|eCB (on1 lenI)<|Jb 'a' Jd) (Jm<|Jc Jg 'a' 'b') Jq)<|Jb3 k
theorem Jgm:Jao (k+1) [x0,x1] h=(Jb2 k [Za x0,Za x1] h).fin:=02
def Jgf:S1:=Jf (Jk 2<|eLst Jd)<|Jf (sIf (Jh asB<|Jc cGe 'a'<|Jc JS (eC<|.int 10)<|eC<|.int 30) (Jf (Jk 3<|Jc Qm 'a'<|Jc JS (eC<|.int 10)<|eC<|.int 30)<|Jf (sFor (iRg Qd<|Jb 'b' Jd) (gNm 4)<|Jf (JC<|Jp (pg k) "append" 1 'c'<|Jb (Jc J2 'd'<|Jc JS (eC<|.int 10)<|eC<|.int 45) Jd)<|Jk 3<|Jc JJ 'd'<|Jc JS (eC<|.int 10)<|eC<|.int 45)<|Jm 'c') Jq)<|Jf (Jk 5<|Jc Jo (Jc J2 'a'<|Jc Jo (Jc JS (eC<|.int 10)<|eC<|.int 18) '9')<|eC<|.int 48271)<|Jf (sFor (iRg Qd<|Jb (Jc Jo 'b' '2') Jd) (gNm 4)<|Jf (Jk 5<|Jc J2 (Jc Jo (Jc Jo (Jc JX 'f' 'f')<|Jc JX (eC<|.int 48271) 'f') 'e')<|Jc Jo (Jc JS (eC<|.int 10)<|eC<|.int 18) '9')<|JC<|Jp (pg k) "append" 1 'c'<|Jb 'f' Jd)<|Jm<|eSl slI 'c' (Vn '2') Jx9
theorem Jh5:Jax (k+1) [x0,x1] h=(Jgf k [Za x0,Za x1,Zd,Zd,Zd,Zd] h).fin:=02
def Jdd(k:Nat):S1:=Jm<|eTup<|Jb 'e'<|Jb 'f'<|Jb 'g'<|Jb 'h' Jd
def Jhl:S1:=Jf (Jk 3<|Jl (Jax k) []<|Jb 'a'<|Jb '8' Jd)<|Jf (Jk 4<|Jc Jo (Jc JX 'b'<|Jc Jo '1'<|Jc J2 (Jc Jg 'd' '0') '8')<|Jc J2 (Jc Jg 'd' '1') '5')<|Jf (Jk 5<|Jc Jo '1'<|Jc J2 (Jc Jg 'd' '2')<|Jc Jo (Jc JJ (Jc JX 'e'<|Jc Jg (eLst<|Jb '6'<|Jb '4'<|Jb '2' Jd)<|Jc J2 (Jc Jg 'd' '7') '3')<|Jc JX '5' 'c') '1')<|Jf (Jk 6<|Jc Qm 'e'<|Jc JX (Jc J2 (Jc Jg 'd' '3') '2')<|Jc J2 (Jc Jg 'd' '4')<|Jc Jo (Jc JJ 'e' '2') '1')<|Jf (Jk 7<|Jc JX (Jc JJ (Jc J2 (Jc Jg 'd' '5') '3') '2')<|Jc J2 (Jc Jg 'd' '6')<|Jc Jo (Jc JJ 'e' '4') '1')<|Jf (sIf (Jh asB<|Jc cEq (Jc J2 (Jc JJ (Jc Jg 'd' '5') '3')<|eC<|.int 12) '5') (Jk 7<|Jc J2 (Jc Jg 'd' '6')<|Jc Jo (Jc Jo 'e'<|Jc JJ 'e' '2') '1') Jq)<|Jdd k
theorem Jjk:Jcu (k+1) [x0,x1,x2] h=(Jhl k [Za x0,Za x1,Za x2,Zd,Zd,Zd,Zd,Zd] h).fin:=02
def Jdk(k:Nat):E1:=Jc Jg 'a' '2'
def Jko:S1:=Jf (Jk 3<|Jc J2 'c' '4')<|Jf (Jk 4<|Jc Jg (Jl (Jkj k) []<|Jb 'a' Jd)<|eUn V8 '1')<|Jf (sIf (Jh asB<|Jc cEq 'd' '0') (Jm 'e') Jq)<|Jf (sIf (Jh asB<|Jc cEq 'd' '1') (Jm<|Jc Qm (Jc Jo 'e'<|Jc J2 (Jc JJ 'c' '4') '7') '3') Jq)<|Jf (sIf (Jh asB<|Jc cEq 'd' '2') (Jm<|eCB (on1 Xu)<|Jb (Js (Jy 'b') 1 [] (gNm 0) JA<|Jdk k) Jd) Jq)<|Jm<|Jc Jo '1'<|Jc J2 (Jc JJ 'c' '4')<|Jc JX '6'<|Jc Jg (Jc Jg 'b' '0') '0'
theorem Jnp:Jfd (k+1) [x0,x1,x2] h=(Jko k [Za x0,Za x1,Za x2,Zd,Zd] h).fin:=02
def Jdl(k:Nat):E1:=eC<|.int 0
def Jkq:S1:=Jf (Jk 2<|eLst Jd)<|Jf (Jk 3<|Js (Jy 'b') 1 [] (gNm 0) JA<|Jdl k)<|Jf (Jk 4 '0')<|Jf (sFor (Jy 'a') (gNm 5)<|Jf (Jk 6<|Jl (Jax k) []<|Jb 'f'<|Jb '6' Jd)<|Jf (Jk 7<|Jc J2 (Jc Jg 'g' '0')<|eCB (on1 lenI)<|Jb 'b' Jd)<|Jf (sAsg (Jc Jg 'b' 'h')<|gTp 4<|gC (gNm 8)<|gC (gNm 9)<|gC (gNm 10)<|gC (gNm 11) gN)<|Jf (Jk 12<|Jc Jo 'e'<|Jc Jg (eLst<|Jb '0'<|Jb '0'<|Jb (Jc J2 (Jc Jg 'g' '1') '3')<|Jb (Jc J2 (Jc Jg 'g' '1')<|Jc Jo 'i' '1') Jd)<|Jc J2 (Jc Jg 'g' '2') '4')<|Jf (Jk 13<|eCB (on2 maxI)<|Jb (Jc Jg 'd' 'h')<|Jb (Jc Qm 'm'<|Jc JX (Jc J2 (Jc JJ (Jc Jg 'g' '2') '4') '2') 'l') Jd)<|Jf (Jk 14<|Jc Jg (eLst<|Jb '0'<|Jb 'l'<|Jb (eCB (on2 maxI)<|Jb '0'<|Jb (eCB (on2 minI)<|Jb 'l'<|Jb (Jc Qm 'm' 'n') Jd) Jd)<|Jb (Jc J2 (Jc Jg 'g' '3')<|Jc Jo 'l' '1') Jd)<|Jc J2 (Jc Jg 'g' '4') '4')<|Jf (Jk 15<|Jc Jg (eLst<|Jb 'j'<|Jb 'j'<|Jb (Jc Jo '1'<|Jc J2 (Jc Jg 'g' '5') 'j') Jd)<|Jc J2 (Jc JJ (Jc Jg 'g' '4') '4') '3')<|Jf (JC<|Jp (pg k) "append" 1 'c'<|Jb (eTup<|Jb 'h'<|Jb 'n'<|Jb 'o'<|Jb 'p' Jd) Jd)<|Jf (sAsg (Jc Jo 'n' 'i')<|gSb 'd' 'h')<|Jk 4<|eCB (on2 maxI)<|Jb 'e'<|Jb 'n' Jd)<|Jm 'c'
theorem Jnr:Jff (k+1) [x0,x1] h=(Jkq k [Za x0,Za x1,Zd,Zd,Zd,Zd,Zd,Zd,Zd,Zd,Zd,Zd,Zd,Zd,Zd,Zd] h).fin:=02
def Jkp:S1:=Jf (sTry (Jk 2<|Jl (Jbf k) []<|Jb 'a'<|Jb 'b' Jd) [(Jg7,Zd,(Jk 2<|eC<|.bl Zj))])<|Jm 'c'
theorem Jnq:Jfe (k+1) [x0,x1] h=(Jkp k [Za x0,Za x1,Zd] h).fin:=02
def Ji2:E1:=Jl (Jcu k) []<|Jb (Jl (Jao k) []<|Jb 'c'<|Jb (Jc Jo '1' 'a') Jd)<|Jb 'd'<|Jb 'b' Jd
def Joy:S1:=Jf (Jk 12<|Jl (Jfe k) []<|Jb 'l'<|Jb (Jl (Jfd k) []<|Jb 'l'<|Jb 'e'<|Jb (Jc JJ 'b'<|eC<|.int 40) Jd) Jd)<|Jf (Jk 13<|Jl (Jff k) []<|Jb (eSl slI 'a' (Vn<|Jc Jo '1' 'd')<|Vn<|Jc Jo (eC<|.int 15) 'd')<|Jb 'e' Jd)<|Jf (Jk 14<|Jl (Jlq k) []<|Jb (Q5 "ByDue" (XI k) []<|Jb 'l' Jd)<|Jb (eCB (on1 QH)<|Jb 'n' Jd) Jd)<|Jf (sIf (tOrI (JE<|Jh tru<|eIsi Jhb 'm')<|tOrI (JE<|Jh tru<|eIsi QT 'o')<|Jh asB<|Jc cNe (eCB (on1 lenI)<|Jb 'o' Jd)<|eCB (on1 lenI)<|Jb 'n' Jd) (Jm<|eC<|.bl Zj) Jq)<|Jf (sIf (JE<|Jh tru 'm') (Jm<|eC<|.bl Zh) Jq)<|Jf (sFor (iRg Qd<|Jb (eCB (on1 lenI)<|Jb 'n' Jd) Jd) (gNm 6)<|Jf (sAsg (Jc Jg 'n' 'g')<|gTp 4<|gC (gNm 15)<|gC (gNm 16)<|gC (gNm 17)<|gC (gNm 18) gN)<|sIf (tOrI (Jh asB<|Jc cGt (Jc Jg 'o' 'g')<|Jc Jo 'q'<|Jc Jg (Jc Jg 'e' 'p') '2')<|Jh asB<|Jc cLt (Jc Jg 'o' 'g')<|Jc Jo (Jc Jo 'q' 'r') 's') (Jm<|eC<|.bl Zj) Jq)<|Jm<|Jc cEq (Jl (Jg9 k) []<|Jb (Q5 "ByDue" (XI k) []<|Jb 'l' Jd)<|Jb (eCB (on1 QH)<|Jb 'n' Jd) Jd)<|eLst Jd
def Jox:S1:=Jf (Jk 4<|Js (iRg Qd<|Jb 'd' Jd) 1 [3,0,2] (gNm 0) JA<|Ji2 k)<|Jf (Jk 5<|eLst Jd)<|Jf (sFor (iRg Qd<|Jb 'd' Jd) (gNm 6)<|Jf (sAsg (Jc Jg 'e' 'g')<|gTp 4<|gC (gNm 7)<|gC (gNm 8)<|gC (gNm 9)<|gC (gNm 10) gN)<|JC<|Jp (pg k) "append" 1 'f'<|Jb (Q5 "Work" (Jbd k) [.non]<|Jb (Jc Jg (eC<|.str "abcde") 'g')<|Jb 'h'<|Jb 'i'<|Jb 'j'<|Jb 'k' Jd) Jd)<|Jf (Jk 11<|Q5 "Duty" (Jbb k) []<|Jb 'f' Jd)<|Joy k
def Jwv:S1:=Jf (Jk 1<|Jl (Jao k) []<|Jb 'a'<|Jb '0' Jd)<|Jf (Jk 2<|Jc Jo '1'<|Jc J2 (Jc JJ 'b' '4')<|Jc Jg (eLst<|Jb '3'<|Jb (Jc JS (eC<|.int 10)<|eC<|.int 15) Jd)<|Jc J2 'b' '2')<|Jf (Jk 3<|Jc Jo '1'<|Jc J2 (Jc JJ 'b' '8') '5')<|Jox k
theorem J0j:Xb (k+1) [x0] h=(Jwv k [Za x0,Zd,Zd,Zd,Zd,Zd,Zd,Zd,Zd,Zd,Zd,Zd,Zd,Zd,Zd,Zd,Zd,Zd,Zd] h).fin:=02
end
theorem Jep(k:Nat):JV (pg k) "held" 0 "Work"=Za (Jcs k,[]):=02
theorem Jcz(k:Nat):JV (pg k) "next_ready" 0 "Bench"=Za (Jaf k,[]):=02
theorem Jfr(k:Nat):JV (pg k) "let_in" 0 "Bench"=Za (Ja6 k,[]):=02
theorem Jdv(k:Nat):JV (pg k) "turns_for" 1 "Bench"=Za (Jai k,[]):=02
theorem Jhv(k:Nat):JV (pg k) "tell" 2 "Bench"=Za (Jb0 k,[]):=02
theorem Jgh(k:Nat):JV (pg k) "go_on" 0 "Bench"=Za (Jba k,[]):=02
theorem Jeo(k:Nat):JV (pg k) "size" 0 "Duty"=Za (Jcq k,[]):=02
theorem Jca(k:Nat):JV (pg k) "work" 1 "Duty"=Za (Jcr k,[]):=02
theorem Jeu(k:Nat):JV (pg k) "rank_of" 2 "ByDue"=Za (Jat k,[]):=02
theorem Jgi(k:Nat):JV (pg k) "holds" 2 "ByDue"=Za (Jbc k,[]):=02
theorem Jhw(k:Nat):JV (pg k) "pick" 3 "ByDue"=Za (Jav k,[]):=02
theorem Jea(k:Nat):JV (pg k) "standing" 2 "ByDue"=Za (Jan k,[]):=02
end LW
section
open PySem L2 L3 L4
local macro_rules | `(tactic| simp! [$xs,*]) => `(tactic| simp (implicitDefEqProofs := Zj) only [Jm8, Jsk, Jm9, Jvd, Jiu, Jit, Jsi, Yy, XF, Qw, Js2, Jw9, VI, Jr3, Jvb, Jsh, Jlm, Jln, Jfa, Jli, Yx, Jm7, Jip, Jze, Jm5, Jm3, Jm2, Jmz, Jsf, Jiq, Jzl, Jzj, Jzi, Jzh, Jzo, Jr5, Jlo, Jm1, Qx, Vt, VY, XE, Jir, Zdt, ZbA, ZaI, exists_eq_left', IV.bl.injEq, IV.ref.injEq, IX.lst.injEq, ZaQ, Zdg, Zet, true_implies, false_implies, and_true, true_and, ZdI, Zds, Zad, Jrx, Xc, QT, Jm4, Jsa, Jll, Jlj, Jlk, $xs,*])
namespace LW
open PySem L2 L3 L4
section
variable{k:Nat}{h:IH}
theorem JD:1000000<sizeLine:=01
theorem Yr(o o':IX):List.set (h++[o]) h.length o'=h++[o']:=by rw[ZcF _ _<|Zm _,Zec];rfl
theorem Jik(o o':IX)(g:IH):List.set (h++o::g) h.length o'=h++o'::g:=by rw[ZcF _ _<|Zm _,Zec];rfl
end
section
seal L4.run
section
variable{α β:Type}{σ:ISt}{h h1:IH}{N:ISt->IH->Prop}{R P:IV->IH->Prop}
theorem xb{f:α->IH->Res β}(x:WR r λa h=>WR (f a h) Q):WR (r.bind f) Q:=(J0 ..).mpr x
theorem xseq(x:WS (a σ h) (λσ1 h1=>WS (b σ1 h1) N R) R):WS (Jf a b σ h) N R:=(Jm8 ..).mpr x
theorem xfin{r:SRes}(x:WS r (λ_ h=>P .non h) P):WR r.fin P:=(Jm1 ..).mpr x
theorem xset(x:WR (e σ h) λv h1=>N (σ.set i<|Za v) h1):WS (Jk i e σ h) N R:=(Jm9 ..).mpr x
theorem xret(x:WR (e σ h) R):WS (Jm e σ h) N R:=(Jiu ..).mpr x
theorem Qq{e:E1}(x:WR (e σ h) λ_ h1=>N σ h1):WS (JC e σ h) N R:=(Jit ..).mpr x
theorem xif(x:WR (t σ h) λc h1=>(c=Zh->WS (a σ h1) N R)/\(c=Zj->WS (b σ h1) N R)):WS (sIf t a b σ h) N R:=(Jvd ..).mpr x
theorem xeif(x:WR (t σ h) λc h1=>(c=Zh->WR (a σ h1) P)/\(c=Zj->WR (b σ h1) P)):WR (eIf t a b σ h) P:=(Jvb ..).mpr x
theorem Jzw(x:WR (a σ h) λc h1=>(c=Zh->WR (b σ h1) Q)/\(c=Zj->Q Zj h1)):WR (Qv a b σ h) Q:=(Jzp ..).mpr x
theorem xdec[Decidable p](x:p->a)(y:¬p->b):(decide p=Zh->a)/\(decide p=Zj->b):=#[λe=>x<|of_decide_eq_true e,λe=>y<|of_decide_eq_false e]
theorem xnil(x:N σ h):WS (Jq σ h) N R:=x
theorem xok(x:Q a h):WR (.ok a h) Q:=x
theorem xtup(x:WR (a σ h) λxs h1=>xs.length<=sizeLine/\P (.tup xs) h1):WR (eTup a σ h) P:=(Jm7 ..).mpr x
theorem xlst(x:WR (a σ h) λxs h1=>xs.length<=sizeLine/\P (.ref h1.length) (h1++[.lst xs])):WR (eLst a σ h) P:=(J28 ..).mpr x
theorem xixl(g:h[i]?=Za (.lst xs))(e:atI xs n=Za x)(q:P x h):WR (Jg (.ref i) (.int n) h) P:=(Jr9 ..).mpr #[_,g,_,e,q]
theorem xixt(e:atI xs n=Za x)(q:P x h):WR (Jg (.tup xs) (.int n) h) P:=(Jm4 ..).mpr #[_,e,q]
theorem J5n(g:h[i]?=Za (.lst xs))(q:P (.int xs.length) h):WR (lenI (.ref i) h) P:=(Jsc ..).mpr #[_,g,q]
theorem xmod(l:0<j)(q:P (.int<|i%j) h):WR (J2 (.int i) (.int j) h) P:=(J29 ..).mpr #[l,q]
theorem J5l(l:0<j/\j.natAbs.log2<9000)(q:P (.int<|i/j) h):WR (JJ (.int i) (.int j) h) P:=(Jiq ..).mpr #[l,q]
theorem xmul(l:QR i j)(q:P (.int<|i*j) h):WR (JX (.int i) (.int j) h) P:=(J3a ..).mpr #[l,q]
theorem fldE(ho:o σ h=.ok (.ref i) h1)(g:h1[i]?=Za (.ins c fs))(l:fs.lookup f=Za x):Jj f o σ h=.ok x h1:=by refine Jv ?_;rw[Jm2,ho];exact#[x,(JR g).trans l,rfl,rfl]
theorem binE(ea:a σ h=.ok x h1)(eb:b σ h1=.ok y h2):Jc f a b σ h=f x y h2:=by unfold Jc;rw[ea];dsimp only[Res.bind];rw[eb]
theorem arg1(ea:a σ h=.ok x h1):Jb a Jd σ h=.ok [x] h1:=by unfold Jb;rw[ea];rfl
theorem arg2(ea:a σ h=.ok x h1)(eb:b σ h1=.ok y h2):Jb a (Jb b Jd) σ h=.ok [x,y] h2:=by unfold Jb;rw[ea];dsimp only[Res.bind];rw[eb];rfl
theorem cbE(ea:a σ h=.ok xs h1):eCB f a σ h=f xs h1:=by unfold eCB;rw[ea];rfl
theorem J4(ea:a σ h=.ok xs h1)(ef:f (xs++d) h1=.ok v h2):Jl f d a σ h=.ok v h2:=by unfold Jl;rw[ea];exact ef
theorem tofE(ea:a σ h=.ok (.bl c) h1):Jh asB a σ h=.ok c h1:=by unfold Jh;rw[ea];rfl
theorem lenE(ea:a σ h=.ok (.ref i) h1)(g:h1[i]?=Za (.lst xs)):eCB (on1 lenI) (Jb a Jd) σ h=.ok (.int xs.length) h1:=by rw[cbE<|arg1 ea];exact Jv<|J5n g #[rfl,rfl]
theorem ixlE(ea:a σ h=.ok (.ref i) h1)(eb:b σ h1=.ok (.int n) h2)(g:h2[i]?=Za (.lst xs))(e:atI xs n=Za x):Jc Jg a b σ h=.ok x h2:=by rw[binE ea eb];exact Jv<|xixl g e #[rfl,rfl]
theorem ixtE(ea:a σ h=.ok (.tup xs) h1)(eb:b σ h1=.ok (.int n) h2)(e:atI xs n=Za x):Jc Jg a b σ h=.ok x h2:=by rw[binE ea eb];exact Jv<|xixt e #[rfl,rfl]
theorem gtE(ea:a σ h=.ok (.int i) h1)(eb:b σ h1=.ok (.int j) h2):Jh asB (Jc cGt a b) σ h=.ok (decide (j<i)) h2:=tofE<|binE ea eb
theorem leE(ea:a σ h=.ok (.int i) h1)(eb:b σ h1=.ok (.int j) h2):Jh asB (Jc cLe a b) σ h=.ok (decide (i<=j)) h2:=tofE<|binE ea eb
theorem ltE(ea:a σ h=.ok (.int i) h1)(eb:b σ h1=.ok (.int j) h2):Jh asB (Jc cLt a b) σ h=.ok (decide (i<j)) h2:=tofE<|binE ea eb
theorem geE(ea:a σ h=.ok (.int i) h1)(eb:b σ h1=.ok (.int j) h2):Jh asB (Jc cGe a b) σ h=.ok (decide (j<=i)) h2:=tofE<|binE ea eb
theorem eqE(ea:a σ h=.ok (.int i) h1)(eb:b σ h1=.ok (.int j) h2):Jh asB (Jc cEq a b) σ h=.ok (decide (i=j)) h2:=tofE<|binE ea eb
theorem addE(ea:a σ h=.ok (.int i) h1)(eb:b σ h1=.ok (.int j) h2):Jc Jo a b σ h=.ok (.int<|i+j) h2:=binE ea eb
theorem subE(ea:a σ h=.ok (.int i) h1)(eb:b σ h1=.ok (.int j) h2):Jc Qm a b σ h=.ok (.int<|i-j) h2:=binE ea eb
theorem arg3(ea:a σ h=.ok x h1)(eb:b σ h1=.ok y h2)(ec:c σ h2=.ok z h3):Jb a (Jb b<|Jb c Jd) σ h=.ok [x,y,z] h3:=by rw[show Jb a (Jb b<|Jb c Jd) σ h=(a σ h).bind λx h1=>(Jb b (Jb c Jd) σ h1).bind λxs h2=>.ok (x::xs) h2 from rfl,ea];show(Jb b (Jb c Jd) σ h1).bind _=_;rw[arg2 eb ec];rfl
theorem arg4(ea:a σ h=.ok x h1)(eb:b σ h1=.ok y h2)(ec:c σ h2=.ok z h3)(ed:d σ h3=.ok u h4):Jb a (Jb b<|Jb c<|Jb d Jd) σ h=.ok [x,y,z,u] h4:=by rw[show Jb a (Jb b<|Jb c<|Jb d Jd) σ h=(a σ h).bind λx h1=>(Jb b (Jb c<|Jb d Jd) σ h1).bind λxs h2=>.ok (x::xs) h2 from rfl,ea];show(Jb b (Jb c<|Jb d Jd) σ h1).bind _=_;rw[arg3 eb ec ed];rfl
theorem modE(ea:a σ h=.ok (.int i) h1)(eb:b σ h1=.ok (.int j) h2)(l:0<j):Jc J2 a b σ h=.ok (.int<|i%j) h2:=(binE ea eb).trans<|Jv<|xmod l #[rfl,rfl]
theorem Qj(ea:a σ h=.ok (.int i) h1)(eb:b σ h1=.ok (.int j) h2)(l:0<j)(z:j.natAbs.log2<9000):Jc JJ a b σ h=.ok (.int<|i/j) h2:=(binE ea eb).trans<|Jv<|J5l #[l,z] #[rfl,rfl]
theorem mulE(ea:a σ h=.ok (.int i) h1)(eb:b σ h1=.ok (.int j) h2)(l:QR i j):Jc JX a b σ h=.ok (.int<|i*j) h2:=(binE ea eb).trans<|Jv<|xmul l #[rfl,rfl]
theorem lstE(ea:a σ h=.ok xs h1)(l:Nat.ble xs.length 1000=Zh):eLst a σ h=.ok (.ref h1.length) (h1++[.lst xs]):=Jv<|xlst<|Je ea #[ZC (Zfy l)<|ZC 01<|Zaa JD,rfl,rfl]
theorem tupE(ea:a σ h=.ok xs h1)(l:Nat.ble xs.length 1000=Zh):eTup a σ h=.ok (.tup xs) h1:=Jv<|xtup<|Je ea #[ZC (Zfy l)<|ZC 01<|Zaa JD,rfl,rfl]
theorem pkE(ea:a σ h=.ok xs h1)(l:Nat.ble xs.length 1000=Zh)(eb:b σ (h1++[.lst xs])=.ok (.int n) (h1++[.lst xs]))(e:atI xs n=Za x):Jc Jg (eLst a) b σ h=.ok x (h1++[.lst xs]):=ixlE (lstE ea l) eb grown e
theorem maxE(ea:a σ h=.ok (.int i) h1)(eb:b σ h1=.ok (.int j) h2):eCB (on2 maxI) (Jb a<|Jb b Jd) σ h=.ok (.int (if j>i then j else i)) h2:=cbE<|arg2 ea eb
theorem minE(ea:a σ h=.ok (.int i) h1)(eb:b σ h1=.ok (.int j) h2):eCB (on2 minI) (Jb a<|Jb b Jd) σ h=.ok (.int (if j<i then j else i)) h2:=cbE<|arg2 ea eb
theorem dotE{Pg:Pg}{m c:Str}{n i:Nat}{o:E1}{a:A1}{fs:Wl}{f:Tx->IH->Res IV}{d xs:Tx}{h2 h3:IH}{v:IV}(e:o σ h=.ok (.ref i) h1)(hi:h1[i]?=Za (.ins c fs))(hf:fs.lookup m=Zd)(hd:JV Pg m n c=Za (f,d))(ha:a σ h1=.ok xs h2)(hx:f (.ref i::(xs++d)) h2=.ok v h3):Jp Pg m n o a σ h=.ok v h3:=by refine Jv<|(VX e hi hf hd).mpr<|Je ha<|Je hx #[rfl,rfl]
theorem xifd[Decidable p](e:t σ h=.ok (decide p) h1)(x:p->WS (a σ h1) N R)(y:¬p->WS (b σ h1) N R):WS (sIf t a b σ h) N R:=xif<|Je e<|xdec x y
theorem xiff(e:t σ h=.ok Zj h1)(x:WS (b σ h1) N R):WS (sIf t a b σ h) N R:=xif (Je e #[(λz=>by cases z),λ_=>x])
theorem xift(e:t σ h=.ok Zh h1)(x:WS (a σ h1) N R):WS (sIf t a b σ h) N R:=xif (Je e #[λ_=>x,λz=>by cases z])
theorem xnx(e:r=.next σ1 h1)(x:N σ1 h1):WS r N R:=by rw[e];exact x
theorem xfor(x:WR (it σ h) λJ h1=>WS (JY J.chk g b J.xs σ h1) N R):WS (sFor it g b σ h) N R:=(Yy ..).mpr x
theorem okc{α:Type}{r:Res α}{c d:α}(e:r=.ok c h)(q:c=d):r=.ok d h:=q▸e
theorem isiE(ea:a σ h=.ok v h1)(t:(tyI v h1).bind ans=Za b):eIsi ans a σ h=.ok (.bl b) h1:=Jv<|(Jm3 ..).mpr<|Je ea #[b,t,rfl,rfl]
theorem notE(e:a σ h=.ok c h1):JE a σ h=.ok (!c) h1:=by unfold JE;rw[e];rfl
theorem truE(e:a σ h=.ok (.bl c) h1):Jh tru a σ h=.ok c h1:=by unfold Jh;rw[e];rfl
theorem orF(e:a σ h=.ok Zj h1)(eb:b σ h1=r):tOrI a b σ h=r:=by unfold tOrI;rw[e];exact eb
theorem andT(e:a σ h=.ok Zh h1)(eb:b σ h1=r):Qv a b σ h=r:=by unfold Qv;rw[e];exact eb
theorem andF(e:a σ h=.ok Zj h1):Qv a b σ h=.ok Zj h1:=by unfold Qv;rw[e];rfl
theorem J3w(e:a σ h=.ok (.bl Zh) h1)(eb:b σ h1=r):eAnd a b tru σ h=r:=by unfold eAnd;rw[e];exact eb
theorem chT(ea:a σ h=.ok (.int i) h1)(eb:b σ h1=.ok (.int j) h2)(ec:c σ h2=.ok (.int l) h3)(t1:i<=j)(t2:j<l):JW cLe cLt a b c σ h=.ok (.bl Zh) h3:=by unfold JW;rw[ea];dsimp only[Res.bind];rw[eb];show(match IV.bl (decide (i<=j))with|.bl Zh=>_|.bl Zj=>_|_=>_)=_;rw[decide_eq_true t1];show(c σ h2).bind _=_;rw[ec];show Res.ok (IV.bl<|decide (j<l)) h3=_;rw[decide_eq_true t2]
theorem xrng{e:E1}{g:G1}{b:S1}{n:Nat}(ee:e σ h=.ok (.int (n:Int)) h1)(l:n<1000000)(x:WS (JY (λ_=>True) g b (rngI 0 (n:Int)) σ h1) N R):WS (sFor (iRg Qd<|Jb e Jd) g b σ h) N R:=by rw[Yy,Vt];refine Je (arg1 ee) ?_;rw[VY];exact#[05,x]
theorem J4g(ea:a σ h=.ok (.ref i) h1)(g:h1[i]?=Za (.lst xs)):eCB (on1 QH) (Jb a Jd) σ h=.ok (.ref h1.length) (h1++[.lst xs]):=by rw[cbE<|arg1 ea];exact Jv<|(Jvc ..).mpr #[_,g,rfl,rfl]
theorem Vd(ev:e σ h=.ok v h1)(eo:o σ h1=.ok (.ref i) h1)(g:h1[i]?=Za (.ins c fs))(l:fs.length<1000)(q:N σ<|h1.set i<|.ins c<|putI f v fs):WS (JN f o e σ h) N R:=by rw[VZ];exact Je ev<|Je eo #[i,c,fs,rfl,g,l,q]
theorem J5j(eo:o σ h=.ok (.ref i) h1)(g:h1[i]?=Za (.ins c fs))(l:fs.lookup f=Za (.int a))(ee:e σ h1=.ok (.int b) h2)(g2:h2[i]?=Za (.ins c gs))(z:gs.length<1000)(q:N σ<|h2.set i<|.ins c<|putI f (.int<|a+b) gs):WS (X4 .Add f o e σ h) N R:=by unfold X4;rw[eo];simp only[rS,g,l,ee,L4.ipI,g2,z,if_true];exact q
theorem J5k(eo:o σ h=.ok (.ref i) h1)(ek:k σ h1=.ok (.int n) h2)(g:h2[i]?=Za (.lst xs))(ea:atI xs n=Za (.int a))(n0:0<=n)(ee:e σ h2=.ok (.int b) h3)(g3:h3[i]?=Za (.lst ys))(ej:ixN ys.length n=Za j)(q:N σ<|h3.set i<|.lst<|ys.set j<|.int<|a+b):WS (X5 .Add o k e σ h) N R:=by unfold X5;rw[eo];simp only[rS,ek,ixL,g,ea,n0,if_true,ee,L4.ipI,setI,g3,ej];exact q
theorem XH{Pg:Pg}{m c:Str}{n i:Nat}{o:E1}{a:A1}{fs:Wl}{f:Tx->IH->Res IV}{d:Tx}(e:o σ h=.ok (.ref i) h1)(hi:h1[i]?=Za (.ins c fs))(hf:fs.lookup m=Zd)(hd:JV Pg m n c=Za (f,d))(x:WR (a σ h1) λvs h2=>WR (f (.ref i::(vs++d)) h2) P):WR (Jp Pg m n o a σ h) P:=(VX e hi hf hd).mpr x
theorem QQ{Pg:Pg}{m:Str}{n i:Nat}{o:E1}{a:A1}{xs:Tx}{g:IV->Tx->IH->Res IV}(e:o σ h=.ok (.ref i) h1)(hl:h1[i]?=Za (.lst xs))(hg:bmOf "list" m n=Za g)(x:WR (a σ h1) λvs h2=>WR (g (.ref i) vs h2) P):WR (Jp Pg m n o a σ h) P:=(Jzg e hl hg).mpr x
theorem xapp(g:h[i]?=Za (.lst xs))(l:xs.length<sizeLine)(q:P .non<|h.set i<|.lst<|xs++[y]):WR (VL (.ref i) [y] h) P:=(Jr4 ..).mpr #[_,g,l,q]
theorem xpop(g:h[i]?=Za (.lst xs))(l:xs[xs.length-1]?=Za y)(q:P y<|h.set i<|.lst xs.dropLast):WR (Xz (.ref i) [] h) P:=by
 have e:V5 (.ref i) h=Za (i,xs):=by unfold V5;simp only[g]
 unfold Xz;rw[e];dsimp only;rw[l];exact q
theorem xrem{i j:Nat}{k:Int}{ns:Tp}(g:h[i]?=Za (.lst<|ns.map .int))(l:ns.findIdx? (· ==k)=Za j)(q:P .non<|h.set i<|.lst<|(ns.map IV.int).eraseIdx j):WR (X2 (.ref i) [.int k] h) P:=by
 have e:V5 (.ref i) h=Za (i,ns.map .int):=by unfold V5;simp only[g]
 unfold X2;rw[e];dsimp only;rw[QF];dsimp only;rw[l];exact q
theorem Jo3:bmOf "list" "pop" 0=Za Xz:=02
theorem Jo4:bmOf "list" "remove" 1=Za X2:=02
end
end
section
variable{k:Nat}{h:IH}
theorem Jo9(ns:Tp)(n:Int)(hn:0<=n):Jao (k+1) [.rol<|ns.map .int,.int n] h=.ok (.int<|ns.getD n.toNat 0) h:=by
 refine Jv ?_;rw[Jgm];simp![Jb2,Jb3,Zr,decide_eq_true_eq,decide_eq_false_iff_not];refine#[λhl=>#[.int<|ns.getD n.toNat 0,Jou hn ?_,rfl],λhl=>?_]
 ·rw[Zy,Zi,Zb<|show n.toNat<ns.length by lia];rfl
 ·rw[Zi,Za3 05];rfl
end
section
seal L4.run
section
variable{k:Nat}{h:IH}
theorem Jeq(i:Int):Jcb (k+1) [.int i] h=.ok (.bl Zh) h:=by rw[Jky];rfl
theorem Jg6(i j:Int):VJ (k+2) [.int i,.int j] h=.ok (.bl<|decide (j<=i)) h:=by refine Jv ?_;rw[Jew];simp![Ja8,Jeq]
def IsNm(x:Str):Prop:=1<=x.length/\x.length<=8/\∀c∈x.cps.toList,97<=c/\c<=122
theorem J3l:(Zba "a").cps.toList=[97]:=by decide +kernel
theorem J5o:(Zba "z").cps.toList=[122]:=by decide +kernel
theorem Jyw(hc:97<=c/\c<=122):Jbh k [Za<|.str ⟨#[c]⟩] h=.ok (.bl Zh) h:=by
 refine Jv ?_;have h1:¬([c]<[97]):=λq=>by cases q with|rel q=>lia|cons q=>cases q
 have h2:¬([122]<[c]):=λq=>by cases q with|rel q=>lia|cons q=>cases q
 simp only[Jbh,Jfa,Qw,Js2,XF,J27,J3l,J5o,h1,h2,decide_false,exists_eq_left',IV.bl.injEq,IV.ref.injEq,IX.lst.injEq,ZaQ,Zdg,Zet,true_implies,false_implies,and_true,true_and,ZdI,Zds,Zad,Jrx,Xc,QT,Jm4,Jsa,Jll,Jlj,Jlk]
theorem Jnw(hx:IsNm x):WR (Jfc (k+1) [.str x] h) λv h'=>v=.bl Zh/\Ex h h':=by
 obtain⟨h1,h2,h3⟩:=hx;have hb:=JD;have hz:x.length<=sizeLine:=05;have a1:(1:Int)<=x.length:=05;have a2:(x.length:Int)<=8:=05;rw[Jno];simp![Jfk,Jfl,hz,a1,a2,decide_true];refine WR.mono (Vs (xs:=Vo x) (chk:=λ_=>True) (f:=λ_=>.bl Zh) (h:=h) ?_ ?_ (λ_ _=>trivial) ?_) ?_
 ·exact#[rfl,rfl,rfl]
 ·have:(Vo x).length=x.length:=by simp[Vo,Str.length]
  lia
 ·intro v hv h2 _;obtain⟨c,hc,rfl⟩:=Zaj.mp hv;exact Je (Jyw<|h3 c hc) #[rfl,.refl _]
 ·rintro v h' ⟨rfl,g,rfl⟩;refine Je (all_map (f:=λ_=>Zh) JH) #[?_,.cons ..];simp
abbrev Hd:=Str×Int×Int
abbrev _root_.Ua:=List Hd
noncomputable def tupH (a:Hd):IV:=.tup [.str a.1,.int a.2.1,.int a.2.2]
theorem Jic(len:Int):XO (k+1) [.non,.int len] h=.ok (.tup []) h:=by refine Jv ?_;rw[Jjm];simp![Jde,J26,isR,isD,isN,ZbZ,ZA]
theorem Jn4(h1:1<=due)(h2:due<=gap):XN (k+3) [.int due,.int gap] h=.ok (.int due) h:=by refine Jv ?_;rw[Jns];have:¬gap<due:=05;simp![Jfm,Jfn,Jfo,J26,isR,isD,isN,Jg6,decide_eq_true h1,decide_eq_false this]
noncomputable def wfs (name:Str)(gap len due late:Int)(hs:Tx):Wl:=[("name",.str name),("gap",.int gap),("length",.int len),("due",.int due),("late",.int late),("hold_tuples",.tup hs)]
section
variable(a b c d e f:IV)
theorem put0:putI "name" a ([]:Wl)=([("name",a)]:Wl):=02
theorem put1:putI "gap" b ([("name",a)]:Wl)=([("name",a),("gap",b)]:Wl):=02
theorem put2:putI "length" c ([("name",a),("gap",b)]:Wl)=([("name",a),("gap",b),("length",c)]:Wl):=02
theorem put3:putI "due" d ([("name",a),("gap",b),("length",c)]:Wl)=([("name",a),("gap",b),("length",c),("due",d)]:Wl):=02
theorem put4:putI "late" e ([("name",a),("gap",b),("length",c),("due",d)]:Wl)=([("name",a),("gap",b),("length",c),("due",d),("late",e)]:Wl):=02
theorem put5:putI "hold_tuples" f ([("name",a),("gap",b),("length",c),("due",d),("late",e)]:Wl)=([("name",a),("gap",b),("length",c),("due",d),("late",e),("hold_tuples",f)]:Wl):=02
variable{name:Str}{gap len due late:Int}{hs:Tx}
theorem fl0:(wfs name gap len due late hs).lookup ("name":Str)=Za (.str name):=02
theorem fl1:(wfs name gap len due late hs).lookup ("gap":Str)=Za (.int gap):=02
theorem fl2:(wfs name gap len due late hs).lookup ("length":Str)=Za (.int len):=02
theorem fl3:(wfs name gap len due late hs).lookup ("due":Str)=Za (.int due):=02
theorem fl4:(wfs name gap len due late hs).lookup ("late":Str)=Za (.int late):=02
theorem fl5:(wfs name gap len due late hs).lookup ("hold_tuples":Str)=Za (.tup hs):=02
theorem flh:(wfs name gap len due late hs).lookup ("held":Str)=Zd:=02
end
theorem Jr1{gap len due late:Int}{dv hv:IV}{hs:Tx}(hw:h[w]?=Za (.ins "Work" []))(hn:IsNm name)(hg:1<=gap)(hl:1<=len)(ht:0<=late) (hd:∀h1,XN (k+4) [dv,.int gap] h1=.ok (.int due) h1)(hh:∀h1:IH,(∀(j:Nat)(o:IX),j≠w->h[j]?=Za o->h1[j]?=Za o)->WR (XO (k+4) [hv,.int len] h1) λv h2=>v=.tup hs/\Ex h1 h2):WR (Jbd (k+5) [.ref w,.str name,.int gap,.int len,dv,.int late,hv] h) λv h'=>v=.non/\∃g,h'=h.set w (.ins "Work"<|wfs name gap len due late hs)++g:=by
 rw[Jji];refine xfin<|xseq<|xif<|xb<|xb<|xb<|Je (arg1 rfl)<|WR.mono (Jnw hn) ?_;rintro v h1 ⟨rfl,g1,rfl⟩;have lw:=J6 hw;have s1:∀{o:IX},(h++g1).set w o=h.set w o++g1:=by intro o;rw[ZaG (h:=lw)]
 have at1:∀{o:IX},(h.set w o++g1)[w]?=Za o:=by intro o;rw[ZI (by rw[Zbq];exact lw),ZO lw]
 have s2:∀{o o':IX},(h.set w o++g1).set w o'=h.set w o'++g1:=by intro o o';rw[ZaG (h:=by rw[Zbq];exact lw),Zfg]
 have ok:∀{σ:ISt}{e1 e2:E1}{a b:Int}{hh:IH},e1 σ hh=.ok (.int a) hh->e2 σ hh=.ok (.int b) hh->b<=a->JE (Jh tru<|Jl (VJ<|k+4) []<|Jb e1<|Jb e2 Jd) σ hh=.ok Zj hh:=λh1 h2 l=>okc (notE<|truE<|J4 (arg2 h1 h2)<|Jg6 _ _)<|by rw[decide_eq_true l];rfl
 refine Je rfl (Je rfl #[(λz=>by cases z),λ_=>xnil<|xseq<|xiff (ok rfl rfl hg)<|xnil<|xseq<|xiff (ok rfl rfl hl)<|xnil<|xseq<|xiff (ok rfl rfl ht)<|xnil<|xseq<|Vd rfl rfl (grow hw) 01 ?_]);rw[s1,put0];refine xseq (Vd rfl rfl at1 (by show(1:Nat)<1000;decide) ?_);rw[s2,put1];refine xseq (Vd rfl rfl at1 (by show(2:Nat)<1000;decide) ?_);rw[s2,put2];refine xseq (Vd (J4 (arg2 rfl rfl)<|hd _) rfl at1 (by show(3:Nat)<1000;decide) ?_);rw[s2,put3];refine xseq (Vd rfl rfl at1 (by show(4:Nat)<1000;decide) ?_);rw[s2,put4];unfold Jdc;rw[VZ];refine xb<|Je (arg2 rfl rfl)<|WR.mono (hh _ λj o hj e=>?_) ?_
 ·refine grow ?_;rw[ZX<|ZP hj];exact e
 ·rintro v h2 ⟨rfl,g2,rfl⟩;refine Je rfl #[w,_,_,rfl,grow at1,by show(5:Nat)<1000;decide,rfl,g1++g2,?_];rw[ZaG (h:=J6 at1),s2,put5,Zae];rfl
theorem Jx2{gap len due late:Int}{dv hv:IV}{hs:Tx}(hn:IsNm name)(hg:1<=gap)(hl:1<=len)(ht:0<=late) (hd:∀h1,XN (k+4) [dv,.int gap] h1=.ok (.int due) h1)(hh:∀h1:IH,(∀(j:Nat)(o:IX),h[j]?=Za o->h1[j]?=Za o)->WR (XO (k+4) [hv,.int len] h1) λv h2=>v=.tup hs/\Ex h1 h2):WR (Jbd (k+5) [.ref h.length,.str name,.int gap,.int len,dv,.int late,hv]<|h++[.ins "Work" []]) λv h'=>v=.non/\∃g,h'=h++.ins "Work" (wfs name gap len due late hs)::g:=by refine WR.mono (Jr1 grown hn hg hl ht hd λh1 q=>hh h1 λj o e=>q j o (by have:=J6 e;lia)<|grow e) ?_;rintro v h' ⟨rfl,g,rfl⟩;exact#[rfl,g,by rw[Yr];simp]
end
end
section
variable{k:Nat}{h:IH}
theorem Jkh(hw:h[w]?=Za (.ins "Work"<|wfs name gap len due late hs)):Jcs (k+1) [.ref w] h=.ok (.ref h.length) (h++[.lst hs]):=by refine Jv ?_;rw[Jjh];simp![Jdb,JR hw,fl5]
end
structure WD where
 name:Str
 gap:Int
 len:Int
 due:Int
 late:Int
abbrev _root_.Tz:=List WD
def IsW(h:IH)(v:IV)(d:WD):Prop:=∃i hs,v=.ref i/\h[i]?=Za (.ins "Work"<|wfs d.name d.gap d.len d.due d.late hs)
theorem IsW.kp(k:Kp h h')(w:IsW h v d):IsW h' v d:=by obtain⟨i,hs,e,q⟩:=w;exact#[i,hs,e,k _ _ q]
structure AllW(h:IH)(vs:Tx)(ds:Tz):Prop where
 len:vs.length=ds.length
 at_:∀(i:Nat) v d,vs[i]?=Za v->ds[i]?=Za d->IsW h v d
theorem AllW.kp(k:Kp h h')(w:AllW h vs ds):AllW h' vs ds:=#[w.len,λi v d a b=>(w.at_ i v d a b).kp k]
theorem AllW.of(w:AllW h vs ds)(hv:v∈vs):∃d∈ds,IsW h v d:=by
 obtain⟨i,hi,rfl⟩:=Za5.mp hv;have hi':i<ds.length:=by rw[<-w.len];exact hi
 exact#[ds[i],ZF hi',w.at_ i _ _ (Zb hi)<|Zb hi']
def fOf(f:Str)(h:IH)(v:IV):IV:=(V1 f v h).getD .non
theorem AllW.mapF(w:AllW h vs ds){F:IV->IV}{g:WD->IV}(hf:∀(i:Nat) (d:WD) hs,h[i]?=Za (.ins "Work"<|wfs d.name d.gap d.len d.due d.late hs)->F (.ref i)=g d):vs.map F=ds.map g:=by
 refine ZbL λi=>?_
 rw[Zy,Zy];by_cases hi:i<vs.length
 ·have hi':i<ds.length:=by rw[<-w.len];exact hi
  rw[Zb hi,Zb hi'];obtain⟨j,hs,e,q⟩:=w.at_ i _ _ (Zb hi)<|Zb hi';simp only[Zfk,ZaQ];rw[e,hf j _ hs q]
 ·have hi':¬i<ds.length:=by rw[<-w.len];exact hi
  rw[Za3 05,Za3 05];rfl
section
variable{k:Nat}{h:IH}
theorem Jua:Jvf ["Work"] (.ins "Work")=Za Zh:=02
theorem Jjt{vs:Tx}{ds:Tz}{i:Nat}(hi:h[i]?=Za (.lst vs))(w:AllW h vs ds)(nd:(ds.map (·.name)).Nodup)(hl:ds.length<=20):
  WR (Jcw (k+1) [.ref i] h) λv h'=>v=.tup vs/\Ex h h':=by
 have hb:=JD;have wl:=w.len;rw[Jjn];simp![Jdf,Jdg,Jwi hi];refine WR.mono (Vs (h:=h) (xs:=vs) (chk:=λh'=>h'[i]?=Za (.lst vs)) (f:=λ_=>.bl Zh) ?_ 05 (λh2 q=>q _ _ hi) ?_) ?_
 ·simp![Vb,hi]
 ·intro v hv h2 q;obtain⟨d,_,j,hs,rfl,e⟩:=w.of hv;have ty:tyI (.ref j) h2=Za (.ins "Work"):=by simp[tyI,q _ _ e]
  simp![Jb7,ty,Jua];exact .refl _
 ·rintro _ _ ⟨rfl,g,rfl⟩;have x1:Ex h (h++IX.lst (vs.map λ_=>.bl Zh)::g):=.cons _ _ _;rw[all_map (f:=λ_=>Zh) JH];generalize h++IX.lst (vs.map λ_=>.bl Zh)::g=h1 at x1;have at1:(vs.all λ_=>Zh)=Zh:=03;simp![at1,Jdh,Jsd];have w1:=w.kp x1.kp;have nm:=w1.mapF (F:=fOf "name" h1) (g:=λd=>.str d.name) λj d hs e=>by rw[fOf,JR e,fl0];rfl
  refine WR.mono (Vs (h:=h1) (xs:=vs) (chk:=λh'=>h'[i]?=Za (.lst vs)) (f:=fOf "name" h1) ?_ 05 (λh2 q=>q _ _<|x1.get hi) ?_) ?_
  ·simp![Vb,x1.get hi]
  ·intro v hv h2 q;obtain⟨d,_,j,hs,rfl,e⟩:=w1.of hv;simp![Jb8,JR<|q _ _ e,fl0,fOf,JR e,ZeS];exact .refl _
  ·rintro _ _ ⟨rfl,g2,rfl⟩;rw[nm];have em:ds.map (λd=>IV.str d.name)=(ds.map (·.name)).map IV.str:=03;rw[em];have x2:Ex h1 (h1++IX.lst ((ds.map (·.name)).map IV.str)::g2):=.cons _ _ _;refine#[_,rfl,_,JH,ds.map (·.name),Jmp _,by rw[Zr];unfold ZbJ;lia,?_];rw[Ji5 nd _<|Zm _];simp![Jsc,x2.get<|x1.get hi,Zr,wl,decide_true,Jdi,Jzq];exact x1.trans x2
noncomputable def rup (top bottom:Int):Int:=(top+bottom-1)/bottom
def topD(ds:Tz):Int:=if ds.map (·.due)=[]then 0 else JT (λi=>(ds.map (·.due)).getD i 0) (ds.map (·.due)).length
def Jly(ds:Tz):Int:=(ds.map λd=>rup (topD ds+d.late) d.gap).sum
def rOf(T:Int)(h:IH)(v:IV):IV:=match V1 "late" v h,V1 "gap" v h with|some (.int l),Za (.int g)=>.int<|rup (T+l) g|_,_=>.non
theorem Jjv(hb:0<b)(hl:b.natAbs.log2<9000):Jbg (k+1) [.int a,.int b] h=.ok (.int<|rup a b) h:=by refine Jv ?_;rw[Jjo];simp![Jdj,hb,hl,rup]
theorem Jsv(w:AllW h vs ds)(hl:ds.length<=20)(hg:∀d∈ds,0<d.gap/\d.gap.natAbs.log2<9000):
  WR (Jd5 (k+2) [.tup vs] h) λv h'=>v=.int (Jly ds)/\Ex h h':=by
 have hb:=JD;have wl:=w.len;rw[Jkx];simp![Jel,Jse];have dm:=w.mapF (F:=fOf "due" h) (g:=λd=>.int d.due) λj d hs e=>by rw[fOf,JR e,fl3];rfl
 refine WR.mono (Vs (h:=h) (xs:=vs) (chk:=λ_=>True) (f:=fOf "due" h) ?_ 05 (λ_ _=>trivial) ?_) ?_
 ·simp![true_and]
 ·intro v hv h2 q;obtain⟨d,_,j,hs,rfl,e⟩:=w.of hv;simp![Jcn,JR<|q _ _ e,fl3,fOf,JR e,ZeS];exact .refl _
 ·rintro _ _ ⟨rfl,g,rfl⟩;rw[dm];have em:ds.map (λd=>IV.int d.due)=(ds.map (·.due)).map IV.int:=03;rw[em];have x1:Ex h (h++IX.lst ((ds.map (·.due)).map IV.int)::g):=.cons _ _ _;refine#[_,rfl,_,JH,_,QF _,?_];have et:maxD (ds.map (·.due)) (.int 0)=.int (topD ds):=by unfold maxD topD;split<;>rfl
  rw[et];generalize h++IX.lst ((ds.map (·.due)).map IV.int)::g=h1 at x1;have w1:=w.kp x1.kp;simp![Jem];have rm:=w1.mapF (F:=rOf (topD ds) h1) (g:=λd=>.int<|rup (topD ds+d.late) d.gap) λj d hs e=>by rw[rOf,JR e,JR e,fl4,fl1]
  refine WR.mono (Vs (h:=h1) (xs:=vs) (chk:=λ_=>True) (f:=rOf (topD ds) h1) ?_ 05 (λ_ _=>trivial) ?_) ?_
  ·simp![true_and]
  ·intro v hv h2 q;obtain⟨d,hd,j,hs,rfl,e⟩:=w1.of hv;have e2:=q _ _ e;simp only[ZQ,ZcV,Zcs,Zct,Option.join_some];simp![Jco,JR e2,fl4,fl1,Jjv (hg d hd).1 (hg d hd).2];exact#[by rw[rOf,JR e,JR e,fl4,fl1],.refl _]
  ·rintro _ _ ⟨rfl,g2,rfl⟩;rw[rm];have em2:ds.map (λd=>IV.int<|rup (topD ds+d.late) d.gap)=(ds.map λd=>rup (topD ds+d.late) d.gap).map IV.int:=03;rw[em2];simp![Jsg,JH,QF];exact#[rfl,x1.trans<|.cons _ _ _]
abbrev dfs(vs:Tx):Wl:=[("works",.tup vs)]
theorem dp0:putI "works" a ([]:Wl)=([("works",a)]:Wl):=02
theorem dl0:(([("works",a)]:Wl)).lookup ("works":Str)=Za a:=02
theorem dlw:(([("works",a)]:Wl)).lookup ("work":Str)=Zd:=02
theorem Jpn{vs:Tx}{ds:Tz}{i:Nat}(hi:h[i]?=Za (.lst vs))(w:AllW h vs ds)(nd:(ds.map (·.name)).Nodup)(hl:ds.length<=12)(hg:∀d∈ds,0<d.gap/\d.gap.natAbs.log2<9000)(hc:Jly ds<=80):WR (Jbb (k+3) [.ref h.length,.ref i]<|h++[.ins "Duty" []]) λv h'=>v=.non/\∃g,h'=h++.ins "Duty" (dfs vs)::g:=by
 have wl:=w.len;rw[Jje];simp![Jc6,VZ];refine WR.mono (Jjt (grow hi) (w.kp (Ex.one h _).kp) nd 05) ?_;rintro _ _ ⟨rfl,g1,rfl⟩;refine#[_,_,_,rfl,grow grown,01,?_];rw[dp0,Zae,ZaK,Zbr,Jik];simp![Jc7,JR<|JH (h:=h),dl0,wl];refine#[λq=>?_,λ_=>?_]
 ·rw[decide_eq_true_eq]at q;lia
 simp![Jc8,JR<|JH (h:=h),dl0];refine WR.mono (Jsv (w.kp (Ex.cons h _ _).kp) 05 hg) ?_;rintro _ _ ⟨rfl,g2,rfl⟩;simp![true_and];refine#[λq=>?_,λ_=>#[g1++g2,03]];rw[decide_eq_true_eq]at q;lia
theorem Jfs(hD:h[D]?=Za (.ins "Duty"<|dfs vs))(hx:atI vs n=Za x):Jcr (k+1) [.ref D,.int n] h=.ok x h:=by refine Jv ?_;rw[Jjg];simp![Jda,JR hD,dl0,hx]
end
theorem J2d(hb:0<b)(h:a<=m*b):rup a b<=m:=by
 unfold rup;have:(a+b-1)/b<m+1:=by rw[Int.ediv_lt_iff_lt_mul hb,ZfB];lia
 lia
theorem Jv9(m:Int):∀l:Tp,(∀x∈l,x<=m)->l.sum<=l.length*m
 |[],_=>03
 |x::l,q=>by
  have:=Jv9 m l λy hy=>q y<|Zl _ hy
  have:=q x<|Z2 ..;rw[ZbE,ZN,Int.natCast_add,ZfB];simp;lia
theorem Jtx{a b K:Nat}(h:a<=b)(hb:b.log2<K):a.log2<K:=by
 by_cases ha:a=0
 ·subst ha;exact Zah (ZA _) hb
 ·have hb0:b≠0:=05;rw[Nat.log2_lt ha];exact Zah h<|(Nat.log2_lt hb0).mp hb
theorem Jqv{x:Int}(h0:0<=x)(h:x<=10^60):x.natAbs.log2<9000:=by
 refine Jtx (b:=10^60) ?_<|by decide +kernel
 have e:((10^60:Nat):Int)=10^60:=by decide +kernel
 generalize (10^60:Int)=y at *;generalize (10^60:Nat)=z at *;lia
theorem half{a b g:Int}(h:0<g):0<=a%2*(b%g)/\a%2*(b%g)<g:=by
 have b1:=ZaJ b (b:=g) 05;have b2:=Za1 b h;have:a%2=0∨a%2=1:=05;rcases this with e|e<;>rw[e]
 ·lia
 ·lia
theorem at_x{xs:Tp}{n:Nat}(hn:n<xs.length):∃x,atI (xs.map IV.int) (n:Int)=Za (.int x):=#[xs[n],JL<|by rw[Zy,Zb hn];rfl]
abbrev RH:=WD×Ua
abbrev _root_.Ub:=List RH
noncomputable def rd:RH:=#[#[⟨#[]⟩,0,0,0,0],[]]
abbrev wo(r:RH):IX:=.ins "Work"<|wfs r.1.name r.1.gap r.1.len r.1.due r.1.late<|r.2.map tupH
structure AllH(h:IH)(vs:Tx)(rs:Ub):Prop where
 len:vs.length=rs.length
 at_:∀(i:Nat) v r,vs[i]?=Za v->rs[i]?=Za r->∃j,v=.ref j/\h[j]?=Za (wo r)
theorem AllH.kp(k:Kp h h')(w:AllH h vs rs):AllH h' vs rs:=#[w.len,λi v r a b=>let ⟨j,e,g⟩:=w.at_ i v r a b;#[j,e,k _ _ g]]
theorem AllH.w{h:IH}{vs:Tx}{rs:Ub}(w:AllH h vs rs):AllW h vs (rs.map (·.1)):=by refine#[by rw[Zr];exact w.len,λi v d a b=>?_];rw[Zy]at b;cases er:rs[i]? with|none=>rw[er]at b;cases b|some r=>rw[er]at b;cases b;obtain⟨j,e,g⟩:=w.at_ i v r a er;exact#[j,_,e,g]
theorem AllH.get(w:AllH h vs rs){n:Nat}(e:rs[n]?=Za r):∃j,vs[n]?=Za (.ref j)/\h[j]?=Za (wo r):=by
 have hn:n<vs.length:=by rw[w.len];exact(Zs.mp e).1
 obtain⟨j,e1,g⟩:=w.at_ n _ r (Zb hn) e;exact#[j,by rw[Zb hn,e1],g]
structure F8(unit:Int)(r:RH):Prop where
 g1:unit<=r.1.gap
 g2:r.1.gap<=8*unit+4
 l1:1<=r.1.len
 l2:r.1.len<=2*r.1.gap+1
 d1:1<=r.1.due
 d2:r.1.due<=r.1.gap
 t1:0<=r.1.late
 t2:r.1.late<=r.1.gap+r.1.gap/2
 no:r.2=[]
structure Gd(unit:Int)(rs:Ub):Prop where
 u1:1<=unit
 u2:unit<=1000000000000000
 few:rs.length<=5
 f:∀r∈rs,F8 unit r
 nd:(rs.map λr=>r.1.name).Nodup
theorem Gd.six{unit:Int}{rs:Ub}(G:Gd unit rs):∀r∈rs,r.2.length<=6:=λr hr=>by rw[(G.f r hr).no];decide
theorem Jz7{unit:Int}{rs:Ub}(G:Gd unit rs):Jly (rs.map (·.1))<=80:=by
 have hu:=G.u1;have hf:=G.f;have hl:=G.few;have ht:topD (rs.map (·.1))<=8*unit+4:=by
  unfold topD;split
  ·lia
  ·rename_i hne;refine Jwd _ _ _ (by rw[Zr,Zr];cases rs with|nil=>exact absurd rfl hne|cons _ _=>simp) λj hj=>?_
   rw[Zr,Zr]at hj;have e:((rs.map (·.1)).map (·.due)).getD j 0=(rs[j]).1.due:=by rw[Zi,Zy,Zy,Zb hj];rfl
   have f:=hf _<|ZF hj;have f1:=f.d2;have f2:=f.g2;show((rs.map (·.1)).map (·.due)).getD j 0<=_;rw[e];lia
 have:=Jv9 14 ((rs.map (·.1)).map λd=>rup (topD (rs.map (·.1))+d.late) d.gap) λx hx=>by obtain⟨d,hd,rfl⟩:=Zaj.mp hx;obtain⟨r,hr,rfl⟩:=Zaj.mp hd;have f:=hf r hr;have f1:=f.g1;have f2:=f.t2;exact J2d 05 05
 rw[Zr,Zr]at this;unfold Jly;lia
theorem Gd.gl{unit:Int}{rs:Ub}(G:Gd unit rs):∀d∈rs.map (·.1),0<d.gap/\d.gap.natAbs.log2<9000:=λd hd=>by
 obtain⟨r,hr,rfl⟩:=Zaj.mp hd;have f:=G.f r hr;have f1:=f.g1;have f2:=f.g2;have u1:=G.u1;have u2:=G.u2;have t60:(9000000000000000:Int)<=10^60:=by decide +kernel
 exact#[05,Jqv 05 05]
def IsDu(h:IH)(D:Nat)(rs:Ub):Prop:=∃vs,h[D]?=Za (.ins "Duty"<|dfs vs)/\AllH h vs rs
theorem IsDu.kp(k:Kp h h')(w:IsDu h D rs):IsDu h' D rs:=let ⟨vs,a,b⟩:=w;#[vs,k _ _ a,b.kp k]
section
variable{k:Nat}{h:IH}
theorem J3v(hi:h[i]?=Za (.lst vs))(w:AllH h vs rs)(G:Gd unit rs):WR (Jbb (k+3) [.ref h.length,.ref i]<|h++[.ins "Duty" []]) λv h'=>v=.non/\Ex h h'/\IsDu h' h.length rs:=by have hl:=G.few;refine WR.mono (Jpn hi w.w (by have:=G.nd;rwa [Za2]) (by rw[Zr];lia) G.gl<|Jz7 G) ?_;rintro _ _ ⟨rfl,g,rfl⟩;exact#[rfl,.cons _ _ _,vs,JH,w.kp (Ex.cons _ _ _).kp]
end
theorem Yb{h h':IH}(k:Kp h h'):Ex h h':=by
 refine#[h'.drop h.length,ZbL λi=>?_];by_cases hi:i<h.length
 ·rw[ZI hi,Zb hi];exact k i _<|Zb hi
 ·rw[ZE 05,List.getElem?_drop];congr 1;lia
structure Cm where
 at_:Nat
 come:Int
 late:Int
 len:Int
abbrev _root_.Uc:=List Cm
noncomputable abbrev tupC (c:Cm):IV:=.tup [.int c.at_,.int c.come,.int c.late,.int c.len]
structure COk(rs:Ub)(c:Cm):Prop where
 at_:c.at_<rs.length
 come:0<=c.come
 l0:0<=c.late
 l1:c.late<=(rs[c.at_]).1.late
 n1:1<=c.len
 n2:c.len<=(rs[c.at_]).1.len
structure Legal(rs:Ub)(cs:Uc):Prop where
 ok:∀c∈cs,COk rs c
 far:∀(i j:Nat)(a b:Cm),i<j->cs[i]?=Za a->cs[j]?=Za b->a.at_=b.at_->∀r,rs[a.at_]?=Za r->a.come+r.1.gap<=b.come
abbrev tp4(r:RH):IV:=.tup [.int r.1.gap,.int r.1.len,.int r.1.due,.int r.1.late]
section
seal L4.run L4.WS
section
variable{k:Nat}{h:IH}
theorem e45(σ:ISt)(h:IH):Jc JS (eC<|.int 10) (eC<|.int 45) σ h=.ok (.int<|10^45) h:=Jv (by rw[VI,Qw,Qw,Jm6];exact#[01,rfl,rfl])
theorem e30(σ:ISt)(h:IH):Jc JS (eC<|.int 10) (eC<|.int 30) σ h=.ok (.int<|10^30) h:=Jv (by rw[VI,Qw,Qw,Jm6];exact#[01,rfl,rfl])
theorem e18(σ:ISt)(h:IH):Jc Jo (Jc JS (eC<|.int 10)<|eC<|.int 18) '9' σ h=.ok (.int 1000000000000000009) h:=Jv (by rw[VI,VI,Qw,Qw,Jm6];refine#[01,?_];rw[Qw,Jmz];exact#[congrArg IV.int (by decide +kernel),rfl])
theorem Jkc(c:Int)(m:Nat)(hm:m<=40):WR (Jax (k+1) [.int c,.int m] h) λv h'=>∃(i:Nat)(xs:Tp),v=.ref i/\h.length<=i/\h'[i]?=Za (.lst<|xs.map .int)/\xs.length=m/\(∀x∈xs,(0:Int)<=x/\x<10^45)/\Ex h h':=by
 have hb:=JD;have p45:(0:Int)<10^45:=by decide +kernel
 have le:(1000000000000000009:Int)<=10^45:=by decide +kernel
 obtain⟨T,eT⟩:∃T:Int,∀σ h,Jc JS (eC<|.int 10) (eC<|.int 30) σ h=.ok (.int T) h:=#[_,e30];obtain⟨G,eG,gG⟩:∃G:Int,(∀σ h,Jc Jo (Jc JS (eC<|.int 10)<|eC<|.int 18) '9' σ h=.ok (.int G) h)/\G=1000000000000000009:=#[_,e18,rfl];obtain⟨F,eF,F0,Fl,Fe⟩:∃F:Int,(∀σ h,Jc JS (eC<|.int 10) (eC<|.int 45) σ h=.ok (.int F) h)/\0<F/\F.natAbs.log2<9000/\F=10^45:=#[_,e45,p45,by decide +kernel,rfl];rw[<-Fe]at le ⊢;clear Fe p45;rw[Jh5];refine xfin<|xseq<|xset<|Je (lstE rfl rfl)<|xseq<|xifd (geE rfl (eT _ _)) (λ_=>xseq<|xset<|Je (subE rfl (eT _ _))<|xseq<|xrng rfl 05 ?_) λ_=>xnil<|xseq<|xset<|Je (addE (modE rfl (eG _ _) 05) rfl)<|xseq<|xrng (n:=m+2) (okc (addE rfl rfl) rfl) 05 ?_
 ·refine Vc (λn σ h'=>∃xs rest a b,h'=h++[.lst<|xs.map IV.int]/\σ=[Za<|.int c,Za<|.int (m:Int),Za<|.ref h.length,Za<|.int rest,a,b]/\xs.length=n/\∀x∈xs,(0:Int)<=x/\x<F) (λ_ _ _ _=>trivial) ?_ ?_ #[[],_,_,_,rfl,rfl,rfl,03]
  ·rintro n hn _ _ ⟨xs,rest,a,b,rfl,rfl,lx,hx⟩;rw[Qe]at hn;have e1:=ZaJ rest (b:=F) 05;have e2:=Za1 rest F0;refine xnx rfl (xseq<|Qq<|QQ rfl grown VM (Je (arg1<|modE rfl (eF _ _) F0)<|xapp grown (by rw[Zr];lia)<|xset<|Je (Qj rfl (eF _ _) F0 Fl) #[xs++[rest%F],_,_,_,?_,rfl,by simp[lx],λx hxx=>?_]))
   ·rw[Yr];simp
   ·rw[ZK,Z9]at hxx;rcases hxx with hxx|rfl
    ·exact hx x hxx
    ·exact#[e1,e2]
  ·rintro _ _ ⟨xs,rest,a,b,rfl,rfl,lx,hx⟩;rw[Qe]at lx;exact xret<|Je rfl #[_,xs,rfl,Zm _,grown,05,hx,.one _ _]
 ·have s0:=ZaJ c (b:=G) 05;have s1:=Za1 c (b:=G) 05;refine Vc (λn σ h'=>∃xs num a b,h'=h++[.lst<|xs.map IV.int]/\σ=[Za<|.int c,Za<|.int (m:Int),Za<|.ref h.length,a,b,Za<|.int num]/\(0<=num/\num<2000000000000000000)/\xs.length=n/\∀x∈xs,(0:Int)<=x/\x<G) (λ_ _ _ _=>trivial) ?_ ?_ #[[],_,_,_,rfl,rfl,05,rfl,03]
  ·rintro n hn _ _ ⟨xs,num,a,b,rfl,rfl,hnum,lx,hx⟩;rw[V9];rw[Qe]at hn;have e1:=ZaJ (num*num+48271*num+(0+(n:Int))) (b:=G) 05;have e2:=Za1 (num*num+48271*num+(0+(n:Int))) (b:=G) 05;refine xnx rfl (xseq<|xset<|Je (modE (addE (addE (mulE rfl rfl (.inl 05))<|mulE rfl rfl (.inl 01)) rfl) (eG _ _) 05)<|Qq<|QQ rfl grown VM (Je (arg1 rfl)<|xapp grown (by rw[Zr];lia) #[xs++[(num*num+48271*num+(0+(n:Int)))%G],_,_,_,?_,rfl,05,by simp[lx],λx hxx=>?_]))
   ·rw[Yr];simp
   ·rw[ZK,Z9]at hxx;rcases hxx with hxx|rfl
    ·exact hx x hxx
    ·exact#[e1,e2]
  ·rintro _ _ ⟨xs,num,a,b,rfl,rfl,hnum,lx,hx⟩;rw[Qe]at lx;refine xret<|(J3b ..).mpr<|Je rfl (Je rfl (Je rfl ((J3c ..).mpr #[_,grown,?_])));rw[show(Za (2:Int))=Za ((2:Nat):Int)from rfl,Jsw,<-List.map_drop];refine#[_,xs.drop 2,rfl,03,grown,by simp;lia,λx hxx=>?_,(Ex.one _ _).trans<|.one _ _];have:=hx x<|List.mem_of_mem_drop hxx;lia
end
end
section
variable{k:Nat}{h:IH}
theorem Jy4(e:h[i]?=Za (.lst xs)):toD h (n+1) (.ref i)=(xs.mapM<|toD h n).map ZdO:=by show(match h[i]? with|some (.lst xs)=>(xs.mapM<|toD h n).map ZdO|_=>Zd)=_;rw[e]
end
section
seal L4.run L4.WS
section
variable{k:Nat}{h:IH}
theorem J4e{g f m x:Int}(hg:1<=g)(hf:1<=f/\f<=6)(hm:1<=m):0<g*f/(5*m)+1/\1<=1+x%(g*f/(5*m)+1)/\1+x%(g*f/(5*m)+1)<=2*g+1:=by
 have p0:0<=g*f:=ZfC 05 05;have p1:g*f<=g*6:=Zbm hf.2 05;have p3:2*g*5<=2*g*(5*m):=Zbm 05 05;have d0:0<=g*f/(5*m):=Zcb p0 05;have d1:g*f/(5*m)<=2*g:=by have:=ZdJ (a:=g*f) (b:=2*g*(5*m)) (c:=5*m) 05 05;rwa [Int.mul_ediv_cancel _ 05]at this
 have q1:=ZaJ x (b:=g*f/(5*m)+1) 05;have q2:=Za1 x (b:=g*f/(5*m)+1) 05;lia
theorem Juc{c unit:Int}{many:Nat}(hu:1<=unit)(hu2:unit<=1000000000000000)(hm:1<=many)(hm2:many<=5):WR (Jcu (k+2) [.int c,.int unit,.int (many:Int)] h) λv h'=>Ex h h'/\∃r,F8 unit r/\v=tp4 r:=by
 have hb:=JD;rw[Jjk];refine xfin<|xseq<|xset<|xb<|Je (arg2 rfl rfl)<|WR.mono (Jkc (k:=k) (h:=h) c 8 01) ?_;rintro _ h1 ⟨i,xs,rfl,_,hi,lx,hx,x1⟩;clear hx;have at_:∀n:Nat,n<8->∃x,atI (xs.map IV.int) (n:Int)=Za (.int x):=λn hn=>at_x 05
 obtain⟨y0,e0⟩:=at_ 0 01;obtain⟨y1,e1⟩:=at_ 1 01;obtain⟨y2,e2⟩:=at_ 2 01;obtain⟨y3,e3⟩:=at_ 3 01;obtain⟨y4,e4⟩:=at_ 4 01;obtain⟨y5,e5⟩:=at_ 5 01;obtain⟨y6,e6⟩:=at_ 6 01;obtain⟨y7,e7⟩:=at_ 7 01;clear at_;have b1:unit*1<=unit*(1+y0%8):=Zbm 05 05;have b2:unit*(1+y0%8)<=unit*8:=Zbm 05 05;refine xseq<|xset<|Je (addE (mulE rfl (addE rfl (modE (ixlE rfl rfl hi e0) rfl 01)) (.inr<|.inl 05))<|modE (ixlE rfl rfl hi e1) rfl 01) ?_;obtain⟨g,eg,g1,g2⟩:∃g,unit*(1+y0%8)+y1%5=g/\unit<=g/\g<=8*unit+4:=#[_,rfl,05,05];rw[eg];clear eg b1 b2;obtain⟨f,hf,ef⟩:∃f:Int,(1<=f/\f<=6)/\atI [IV.int 6,IV.int 4,IV.int 2] (y7%3)=Za (.int f):=by
  have:y7%3=0∨y7%3=1∨y7%3=2:=05;rcases this with q|q|q<;>rw[q]
  ·exact#[_,01,QU]
  ·exact#[_,01,Vw]
  ·exact#[_,01,Vx]
 have t60:(100:Int)<=10^60:=by decide +kernel
 have lm:(5*(many:Int)).natAbs.log2<9000:=Jqv 05 05;obtain⟨w0,w1,w2⟩:=J4e (g:=g) (f:=f) (m:=(many:Int)) (x:=y2) 05 hf 05;refine xseq<|xset<|Je (addE rfl (modE (ixlE rfl rfl hi e2) (addE (Qj (mulE rfl (pkE (arg3 rfl rfl rfl) rfl (modE (ixlE rfl rfl (grow hi) e7) rfl 01) ef) (.inr<|.inl 05)) (mulE rfl rfl (.inl 01)) 05 lm) rfl) w0)) ?_;generalize 1+y2%(g*f/(5*(many:Int))+1)=len at w1 w2;generalize IX.lst _=o;have xA:Ex h1 (h1++[o]):=.one _ _;generalize h1++[o]=hA at xA ⊢;have hiA:=xA.get hi;have u:=half (a:=y3) (b:=y4) (g:=g/2+1) 05;have t:=half (a:=y5%3/2) (b:=y6) (g:=g/4+1) 05;rw[show y5%3/2%2=y5%3/2 by lia]at t;refine xseq<|xset<|Je (subE rfl (mulE (modE (ixlE rfl rfl hiA e3) rfl 01) (modE (ixlE rfl rfl hiA e4) (addE (Qj rfl rfl 01 01) rfl) 05)<|.inl 05)) ?_;obtain⟨due,ed,u1,u2⟩:∃due,g-y3%2*(y4%(g/2+1))=due/\1<=due/\due<=g:=#[_,rfl,05,05];rw[ed];clear ed u;have fin:∀(late:Int){N:ISt->IH->Prop},0<=late->late<=g+g/2->WS (Jdd (k+1) [Za<|.int c,Za<|.int unit,Za<|.int (many:Int),Za<|.ref i,Za<|.int g,Za<|.int len,Za<|.int due,Za<|.int late] hA) N λv h'=>Ex h h'/\∃r,F8 unit r/\v=tp4 r:=λlate N t1 t2=>
  xret (Je (tupE (arg4 rfl rfl rfl rfl) rfl) #[x1.trans xA,#[#[⟨#[]⟩,g,len,due,late],[]],#[g1,g2,w1,w2,u1,u2,t1,t2,rfl],rfl])
 have t3:=ZaJ y6 (b:=g+g/2+1) 05;have t4:=Za1 y6 (b:=g+g/2+1) 05;exact xseq<|xset<|Je (mulE (Qj (modE (ixlE rfl rfl hiA e5) rfl 01) rfl 01 01) (modE (ixlE rfl rfl hiA e6) (addE (Qj rfl rfl 01 01) rfl) 05)<|.inl 05)<|xseq<|xif<|Je (eqE (modE (Qj (ixlE rfl rfl hiA e5) rfl 01 01) rfl 01) rfl)<|xdec (λ_=>xset<|Je (modE (ixlE rfl rfl hiA e6) (addE (addE rfl (Qj rfl rfl 01 01)) rfl) 05)<|fin _ 05 05) λ_=>xnil<|fin _ 05 05
end
end
section
variable{k:Nat}{h:IH}
theorem Jzf:WR (Xk σ h) Q=Q (.ref h.length) (h++[.dct []]):=rfl
theorem dls:(([("works",a)]:Wl)).lookup ("size":Str)=Zd:=02
theorem Jja(hD:h[D]?=Za (.ins "Duty"<|dfs vs)):Jcq (k+1) [.ref D] h=.ok (.int vs.length) h:=by refine Jv ?_;rw[Jjf];simp![Jc9,JR hD,dl0]
theorem Jmu(kvs:Wm)(k k':Key)(v:IV):valI (putD kvs k v) k'=if k=k' then Za v else valI kvs k':=by
 unfold putD;have any_iff:∀l:Wm,(l.any λkv=>decide (kv.1=k))=(valI l k).isSome:=by
  intro l;induction l with|nil=>rfl|cons p r ih=>
   rw[ZdM,ih];by_cases e:p.1=k
   ·rw[Vr e];simp[e]
   ·rw[QZ e];simp[e]
 split
 ·rename_i ha;have key:∀l:Wm,valI (l.map λkv=>if kv.1=k then(kv.1,v)else kv) k'=if k=k' then(if (valI l k).isSome then Za v else Zd)else valI l k':=by
   intro l;induction l with|nil=>by_cases e:k=k'<;>simp[valI]|cons p r ih=>
    rw[ZQ];by_cases e:p.1=k
    ·rw[if_pos e];by_cases e2:k=k'
     ·rw[Vr (by rw[<-e2];exact e),if_pos e2,Vr e];rfl
     ·rw[QZ (by rw[e];exact e2),ih,if_neg e2,if_neg e2,QZ<|by rw[e];exact e2]
    ·rw[if_neg e];by_cases e2:p.1=k'
     ·have:¬k=k':=λz=>e<|e2.trans z.symm
      rw[Vr e2,if_neg this,Vr e2]
     ·rw[QZ e2,ih,QZ e,QZ e2]
  rw[key,<-any_iff,ha];simp
 ·rename_i ha;have hn:valI kvs k=Zd:=by have:=any_iff kvs;cases q:valI kvs k with|none=>rfl|some z=>rw[q]at this;exact absurd this ha
  have key:∀l:Wm,valI (l++[(k,v)]) k'=match valI l k' with|some w=>Za w|none=>if k=k' then Za v else Zd:=by
   intro l;induction l with
   |nil=>
    by_cases e:k=k'
    ·rw[Zbr,Vr e,if_pos e];rfl
    ·rw[Zbr,QZ e,if_neg e];rfl
   |cons p r ih=>
    by_cases e:p.1=k'
    ·rw[ZaK,Vr e,Vr e]
    ·rw[ZaK,QZ e,QZ e,ih]
  rw[key];by_cases e:k=k'
  ·subst e;rw[hn,if_pos rfl]
  ·rw[if_neg e,if_neg e];cases valI kvs k'<;>rfl
theorem J25(hi:h[i]?=Za (.dct kvs)):WR (cInD (.int x) (.ref i) h) Q=Q (.bl (valI kvs<|.inl x).isSome) h:=by unfold cInD;simp only[hi,keyI];rfl
theorem Jwn(hi:h[i]?=Za (.dct kvs))(e:valI kvs (.inl x)=Za v):WR (VT (.ref i) (.int x) h) Q=Q v h:=by unfold VT;simp only[hi,keyI,e];rfl
theorem Jsj(o i:E1)(v:IV):WS (gSbD o i v σ h) N R=WR (o σ h) λov h1=>WR (i σ h1) λiv h2=>WS (Yq ov iv v σ h2) N R:=by unfold gSbD;rw[QB];congr 1;funext ov h1;rw[QB]
theorem Jna(hi:h[i]?=Za (.dct kvs))(hl:kvs.length<sizeLine):WS (Yq (.ref i) (.int x) v σ h) N R=N σ (h.set i<|.dct<|putD kvs (.inl x) v):=by unfold Yq;simp only[hi,keyI,hl,if_true];rfl
end
theorem Jvh(f:Nat->Int):∀(n j:Nat),j<n->Q2 f n<=f j
 |0,j,h=>05
 |1,j,h=>by have:j=0:=05;subst this;exact ZJ _
 |n+2,j,h=>by
  rw[Jd9 f (by lia:0<n+1)];by_cases e:j=n+1
  ·subst e;split<;>lia
  ·have:=Jvh f (n+1) j 05;split<;>lia
theorem Jo5(f:Nat->Int):∀(n:Nat),0<n->∃j,j<n/\Q2 f n=f j
 |0,h=>05
 |1,_=>#[0,05,rfl]
 |n+2,_=>by
  rw[Jd9 f (by lia:0<n+1)];obtain⟨j,hj,e⟩:=Jo5 f (n+1) 05;split
  ·exact#[n+1,05,rfl]
  ·exact#[j,05,e]
section
variable{h:IH}
theorem Jzn{ns:Tp}(hi:h[i]?=Za (.lst<|ns.map .int))(hn:ns≠[]):WR (Xv (.ref i) h) Q=Q (.int<|Q2 (λi=>ns.getD i 0) ns.length) h:=by unfold Xv;simp only[hi,QF];rw[if_neg hn];rfl
end
section
variable{k:Nat}{h:IH}
abbrev ofs1(D:Nat):Wl:=[("duty",.ref D)]
theorem op0:putI "duty" a ([]:Wl)=([("duty",a)]:Wl):=02
theorem ql0:(ofs1 D).lookup ("duty":Str)=Za (.ref D):=02
theorem qlr:(ofs1 D).lookup ("rank_of":Str)=Zd:=02
theorem qlh:(ofs1 D).lookup ("holds":Str)=Zd:=02
def IsOr(h:IH)(O:Nat)(rs:Ub):Prop:=∃D,IsDu h D rs/\h[O]?=Za (.ins "ByDue"<|ofs1 D)
theorem IsOr.kp(k:Kp h h')(o:IsOr h O rs):IsOr h' O rs:=let ⟨D,d,b⟩:=o;#[D,d.kp k,k _ _ b]
theorem Jn3(hO:h[O]?=Za (.ins c [])):Jb1 (k+1) [.ref O,.ref D] h=.ok .non (h.set O<|.ins c<|ofs1 D):=by refine Jv ?_;rw[Jh2];simp![Jcl,VZ];refine#[_,_,_,rfl,hO,01,?_];rw[op0]
theorem Jzk(hi:h[i]?=Za (.dct kvs)):WR (Xr (.ref i) h) Q=Q (.int kvs.length) h:=by unfold Xr;simp only[hi];rfl
theorem Ji3(d:IsDu h D rs)(hl:rs.length<=12)(no:∀r∈rs,r.2=[]):WR (Jd4 (k+2) [.ref D] h) λv h'=>∃i,v=.ref i/\h'[i]?=Za (.dct [])/\Ex h h':=by
 have hb:=JD;obtain⟨vs,gD,w⟩:=d;have wl:=w.len;rw[Jkw];simp![Jei,Jej,Jzf];rw[VX (i:=D) (h1:=h++[.dct []]) rfl (grow gD) dls (Jeo _)];simp![Jja<|grow gD];refine#[05,?_];refine Vc (λn σ h'=>∃a b,Ex (h++[.dct []]) h'/\σ=[Za<|.ref D,Za<|.ref h.length,a,b]) (λ_ _ _ _=>trivial) ?_ ?_ #[Zd,Zd,.refl _,rfl]
 ·rintro n hn _ h1 ⟨a,b,x1,rfl⟩;rw[V9];rw[Qe]at hn;have hn':n<rs.length:=05;obtain⟨j,ej,gj⟩:=w.get<|Zb hn';rw[show(0:Int)+(n:Int)=(n:Int) by lia];have av:atI vs (n:Int)=Za (.ref j):=JL ej;have gD1:=x1.get<|grow gD;have gj1:=x1.get<|grow gj;have e0:=no _<|ZF hn';generalize hσ:([Za<|.ref D,Za<|.ref h.length,Za<|.int (n:Int),b]:ISt)=σ;have e1:Jp (pg<|k+1) "work" 1 'a' (Jb 'c' Jd) σ h1=.ok (.ref j) h1:=by subst hσ;refine Jv ?_;rw[VX (i:=D) (h1:=h1) rfl gD1 dlw (Jca _)];simp![Jfs gD1 av]
  simp![hσ,Jd0];rw[VX (i:=j) (h1:=h1) e1 gj1 flh<|Jep _];simp![Jkh gj1,e0,ZcV,Vb,grown];rw[<-hσ];simp only[JY];rw[if_pos grown,Jzs];exact#[_,_,x1.trans<|.one _ _,rfl]
 ·rintro _ h1 ⟨a,b,x1,rfl⟩;simp![Jek];exact#[x1.get grown,(Ex.one _ _).trans x1]
theorem Jf5(d:IsDu h D rs)(hl:rs.length<=12)(no:∀r∈rs,r.2=[]):WR (Jak (k+3) [.ref D] h) λv h'=>v=.non/\Ex h h':=by rw[Jfu];simp![Jbx];refine WR.mono (Ji3 (k:=k) d hl no) ?_;rintro _ h1 ⟨i,rfl,gi,x1⟩;rw[Jzk gi];simp![ZbZ];refine#[λq=>?_,λ_=>x1];simp at q
theorem Js0(d:IsDu h D rs)(hl:rs.length<=12)(no:∀r∈rs,r.2=[]):WR (XI (k+4) [.ref h.length,.ref D]<|h++[.ins "ByDue" []]) λv h'=>v=.non/\Ex h h'/\IsOr h' h.length rs:=by
 rw[Jh1];simp![Jcj,Jck];refine WR.mono (Jf5 (k:=k) (d.kp (Ex.one h _).kp) hl no) ?_;rintro _ _ ⟨rfl,g,rfl⟩;have gO:(h++[IX.ins "ByDue" []]++g)[h.length]?=Za (.ins "ByDue" []):=grow grown;rw[Jn3 (k:=k+2) gO];simp![true_and];have e:(h++[IX.ins "ByDue" []]++g).set h.length (.ins "ByDue"<|ofs1 D)=h++.ins "ByDue" (ofs1 D)::g:=by rw[Zae,ZaK,Zbr,Jik]
 rw[e];exact#[.cons _ _ _,D,d.kp (Ex.cons _ _ _).kp,JH]
end
section
seal L4.run L4.WS
section
variable{k:Nat}{h:IH}
theorem argC(ea:a σ h=.ok x h1)(eb:b σ h1=.ok xs h2):Jb a b σ h=.ok (x::xs) h2:=by show(a σ h).bind (λx h1=>(b σ h1).bind λxs h2=>.ok (x::xs) h2)=_;rw[ea];show(b σ h1).bind _=_;rw[eb];rfl
theorem wkE(hD:h[D]?=Za (.ins "Duty"<|dfs vs))(eo:o σ h=.ok (.ref D) h)(ee:e σ h=.ok (.int n) h)(av:atI vs n=Za (.ref j)):Jp (pg<|k+1) "work" 1 o (Jb e Jd) σ h=.ok (.ref j) h:=dotE eo hD dlw (Jca _) (arg1 ee)<|Jfs hD av
theorem dueE{c:Cm}(hd:IsDu h D rs)(ha:c.at_<rs.length):XL (k+2) [.ref D,tupC c] h=.ok (.int<|c.come+(rs[c.at_]).1.due) h:=by obtain⟨vs,gD,w⟩:=hd;obtain⟨j,ej,gj⟩:=w.get<|Zb ha;have av:atI vs (c.at_:Int)=Za (.ref j):=JL ej;generalize rs[c.at_]=r at gj;refine Jv ?_;rw[Jpy];exact xfin<|xret<|Je (addE (ixtE rfl rfl Vw)<|fldE (wkE gD rfl (ixtE rfl rfl QU) av) gj fl3) #[rfl,rfl]
theorem Jst{c:Cm}(hd:IsDu h D rs)(gO:h[O]?=Za (.ins "ByDue"<|ofs1 D))(ha:c.at_<rs.length):Jat (k+3) [.ref O,tupC c,.int d] h=.ok (.int<|c.come+(rs[c.at_]).1.due) h:=Jv (by rw[Jev];exact xfin<|xret<|Je (J4 (arg2 (fldE rfl gO ql0) rfl)<|dueE (k:=k) hd ha) #[rfl,rfl])
theorem Jk5:Jbc (k+1) [.ref O,v,w] h=.ok (.bl Zj) h:=Jv<|by rw[Jgk];exact xfin<|xret<|Je rfl #[rfl,rfl]
def XU(rs:Ub)(c:Cm)(d:Int):Int:=c.come+(rs.getD c.at_ rd).1.due
def XT(rs:Ub)(c:Cm)(d:Int):Bool:=Zj
theorem Jhy{rs:Ub}(hn:n<rs.length):rs.getD n rd=rs[n]:=by rw[Zi,Zb hn];rfl
theorem Jk4(o:IsOr h O rs):∃Du,IsDu h Du rs/\∀(e:E1) (σ:ISt),e σ h=.ok (.ref O) h->Jj "duty" e σ h=.ok (.ref Du) h:=by obtain⟨D,hd,gO⟩:=o;exact#[D,hd,λe σ he=>fldE he gO ql0]
theorem Jne{O:Nat}{d:Int}{oe e1 e2:E1}(o:IsOr h O rs)(ho:oe σ h=.ok (.ref O) h)(h1:e1 σ h=.ok (tupC c) h)(h2:e2 σ h=.ok (.int d) h)(ha:c.at_<rs.length)(l6:∀r∈rs,r.2.length<=6):WR (Jp (pg<|k+3) "rank_of" 2 oe (Jb e1<|Jb e2 Jd) σ h) λv h'=>v=.int (XU rs c d)/\Ex h h':=by obtain⟨D,hd,gO⟩:=o;exact XH ho gO qlr (Jeu _) (Je (arg2 h1 h2)<|Je (Jst hd gO ha) #[by rw[XU,Jhy ha],.refl _])
theorem Jkk(o:IsOr h O rs)(ho:oe σ h=.ok (.ref O) h)(h1:e1 σ h=.ok (tupC c) h)(h2:e2 σ h=.ok (.int d) h)(ha:c.at_<rs.length)(l6:∀r∈rs,r.2.length<=6):WR (Jp (pg<|k+3) "holds" 2 oe (Jb e1<|Jb e2 Jd) σ h) λv h'=>v=.bl (XT rs c d)/\Ex h h':=by obtain⟨D,hd,gO⟩:=o;exact XH ho gO qlh (Jgi _)<|Je (arg2 h1 h2)<|Je Jk5 #[rfl,.refl _]
end
end
def cd:Cm:=#[0,0,0,0]
def keyN(rs:Ub)(cs:Uc)(ds:Tp)(n:Nat):Tp:=[XU rs (cs.getD n cd)<|ds.getD n 0,if XT rs (cs.getD n cd) (ds.getD n 0)=Zh then 0 else 1,(n:Int)]
def keyV(rs:Ub)(cs:Uc)(ds:Tp)(v:IV):Tp:=match v with|.int x=>keyN rs cs ds x.toNat|_=>[0,0,0]
theorem Jvz:∀{a b:Tp},a.length=b.length->ltL a b=Zj->ltL b a=Zj->a=b
 |[],[],_,_,_=>rfl
 |a::as,b::bs,l,h1,h2=>by
  unfold ltL at h1 h2;by_cases e:a=b
  ·subst e;rw[if_pos rfl]at h1 h2;rw[Jvz (by simpa using l) h1 h2]
  ·rw[if_neg e,decide_eq_false_iff_not]at h1;rw[if_neg<|ZP e,decide_eq_false_iff_not]at h2;lia
 |[],_::_,l,_,_=>by simp at l
 |_::_,[],l,_,_=>by simp at l
section
variable{k:Nat}{h:IH}
theorem Jzd(hx:xs≠[])(hy:ys≠[])(hl:xs.length+ys.length<=sizeLine):WR (Jo (.tup xs) (.tup ys) h) Q=Q (.tup<|xs++ys) h:=by unfold Jo;dsimp only;rw[if_pos #[hx,hy,hl]];rfl
theorem qls:(ofs1 D).lookup ("standing":Str)=Zd:=02
theorem qlp:(ofs1 D).lookup ("pick":Str)=Zd:=02
abbrev stv(rs:Ub)(c:Cm)(d:Int):IV:=.tup [.int<|XU rs c d,.int (if XT rs c d=Zh then 0 else 1)]
theorem Jle{c:Cm}{d:Int}(o:IsOr h O rs)(ha:c.at_<rs.length)(l6:∀r∈rs,r.2.length<=6):WR (Jan (k+4) [.ref O,tupC c,.int d] h) λv h'=>v=stv rs c d/\Ex h h':=by have hb:=JD;rw[Jec];simp![Jay];refine WR.mono (Jne (k:=k) (c:=c) (d:=d) o rfl rfl rfl ha l6) ?_;rintro _ h1 ⟨rfl,x1⟩;refine WR.mono (Jkk (k:=k) (c:=c) (d:=d) (o.kp x1.kp) rfl rfl rfl ha l6) ?_;rintro _ h2 ⟨rfl,x2⟩;have x:=x1.trans x2;simp![ZN,ZbZ,stv];cases XT rs c d with|true=>exact#[λ_=>#[05,rfl,x],λz=>by cases z]|false=>exact#[(λz=>by cases z),λ_=>#[05,rfl,x]]
theorem Jgb{O:Nat}{d:Int}{oe e1 e2:E1}(o:IsOr h O rs)(ho:oe σ h=.ok (.ref O) h)(h1:e1 σ h=.ok (tupC c) h)(h2:e2 σ h=.ok (.int d) h)(ha:c.at_<rs.length)(l6:∀r∈rs,r.2.length<=6):WR (Jp (pg<|k+4) "standing" 2 oe (Jb e1<|Jb e2 Jd) σ h) λv h'=>v=stv rs c d/\Ex h h':=by have so:=Jle (k:=k) (d:=d) o ha l6;obtain⟨D,hd,gO⟩:=o;rw[VX (i:=O) (h1:=h) ho gO qls<|Jea _];simp![h1,h2];exact so
theorem Jyh{O R W N:Nat}{ps:Tq}{ds:Tp}(h0:h[0]?=Za (.tab "Order.pick"))(o:IsOr h O rs)(l6:∀r∈rs,r.2.length<=6)(hc:∀c∈cs,c.at_<rs.length)
  (gR:h[R]?=Za (.lst<|cs.map tupC))(gW:h[W]?=Za (.lst (ps.map λp:Nat=>.int p)))(gN:h[N]?=Za (.lst<|ds.map .int))(ld:ds.length=cs.length)(ne:ps≠[])(hp:∀p∈ps,p<cs.length):
  WR (Jav (k+5) [.ref O,.ref R,.ref W,.ref N] h) λv h'=>∃p∈ps,v=.int (p:Int)/\(∀p'∈ps,ltL (keyN rs cs ds p') (keyN rs cs ds p)=Zj)/\Ex h h':=by
 have hb:=JD;rw[Jh3];simp![Jcm];rw[Jzm h0 rfl];refine WR.mono (Jsb (kf:=keyV rs cs ds) (n:=3) gW (by simpa using ne) ?_ ?_) ?_
 ·intro y hy h1 x1;obtain⟨p,hp',rfl⟩:=Zaj.mp hy;have lp:=hp p hp';have ac:atI (cs.map tupC) (p:Int)=Za (tupC cs[p]):=JL<|by rw[Zy,Zb lp];rfl
  have ad:atI (ds.map IV.int) (p:Int)=Za (.int<|ds[p]' 05):=JL<|by rw[Zy,Zb];rfl
  have ek:keyV rs cs ds (.int (p:Int))=[XU rs cs[p]<|ds[p]' 05,if XT rs cs[p] (ds[p]' 05)=Zh then 0 else 1,(p:Int)]:=by show keyN rs cs ds (Zdz (p:Int))=_;rw[ZaO];unfold keyN;rw[Zi,Zi,Zb lp,Zb<|show p<ds.length by lia];rfl
  have hc':=hc _<|ZF lp;rw[ek];generalize cs[p]=c at ac hc';generalize ds[p]' 05=d at ad;simp only[ZQ,ZcV,Zcs,Zct,Option.join_some];generalize hσ:([Za<|.int (p:Int),Za<|.ref N,Za<|.ref R,Za<|.ref O]:ISt)=σ;have e1:Jc Jg 'c' 'a' σ h1=.ok (tupC c) h1:=Jv<|by subst hσ;simp![Jr9,x1.get gR,ac]
  have e2:Jc Jg 'b' 'a' σ h1=.ok (.int d) h1:=Jv<|by subst hσ;simp![Jr9,x1.get gN,ad]
  simp![Jby];refine WR.mono (Jgb (k:=k) (o.kp x1.kp) (by subst hσ;rfl) e1 e2 hc' l6) ?_;rintro _ h2 ⟨rfl,x2⟩;subst hσ;simp![stv,ZN,ZbZ];refine#[05,?_];rw[Jzd 03 03<|by simp;lia];exact#[rfl,x2]
 ·intro y hy;obtain⟨p,hp',rfl⟩:=Zaj.mp hy;rfl
 ·rintro v h1 ⟨hv,le,x1⟩;obtain⟨p,hp',rfl⟩:=Zaj.mp hv;refine#[p,hp',rfl,λp' q=>?_,x1];have:=le _<|Zaj.mpr #[p',q,rfl];simpa only[keyV,ZaO]using this
theorem Jnd{O:Nat}{oe:E1}{a:A1}{v1 v2 v3:IV}(o:IsOr h O rs)(ho:oe σ h=.ok (.ref O) h)(h1:a σ h=.ok [v1,v2,v3] h)(q:WR (Jav k [.ref O,v1,v2,v3] h) P):
  WR (Jp (pg k) "pick" 3 oe a σ h) P:=by
 obtain⟨D,hd,gO⟩:=o;rw[VX (i:=O) (h1:=h) ho gO qlp<|Jhw _,h1];simp![true_and];exact q
end
section
seal L4.run L4.WS
noncomputable def rdC (c:Cm):Int:=c.come+c.late
def duC(rs:Ub)(c:Cm):Int:=c.come+(rs.getD c.at_ rd).1.due
section
variable{k:Nat}{h:IH}
theorem chL(ea:a σ h=.ok (.int i) h1)(eb:b σ h1=.ok (.int j) h2)(ec:c σ h2=.ok (.int l) h3)(t1:i<=j)(t2:j<=l):JW cLe cLe a b c σ h=.ok (.bl Zh) h3:=by unfold JW;rw[ea];dsimp only[Res.bind];rw[eb];show(match IV.bl (decide (i<=j))with|.bl Zh=>_|.bl Zj=>_|_=>_)=_;rw[decide_eq_true t1];show(c σ h2).bind _=_;rw[ec];show Res.ok (IV.bl<|decide (j<=l)) h3=_;rw[decide_eq_true t2]
theorem Jto(hd:IsDu h D rs)(ok:COk rs c):WR (Jct (k+3) [.ref D,tupC c] h) λv h'=>v=.bl Zh/\Ex h h':=by
 have hb:=JD;obtain⟨vs,hD,w⟩:=hd;have wl:=w.len;obtain⟨a,b,c,d⟩:=c;obtain⟨q1,q2,q3,q4,q5,q6⟩:=ok;have q1:a<rs.length:=q1;obtain⟨j,ev,gj⟩:=w.get<|Zb q1;have av:=JL ev;have q4:c<=(rs[a]).1.late:=q4;have q6:d<=(rs[a]).1.len:=q6;generalize rs[a]=r at gj q4 q6;rw[Jjj];refine xfin<|xseq<|xiff rfl (xnil<|xseq ?_);obtain⟨_,_,ec,rfl,g,rfl⟩:=(Vs (it:=Jy 'b') (e:=Jau<|k+2) (js:=[]) (σ:=[Za<|.ref D,Za<|tupC #[a,b,c,d],Zd]) (h0:=h) (h:=h) (xs:=[IV.int (a:Int),IV.int b,IV.int c,IV.int d]) (chk:=λ_=>True) (f:=λ_=>.bl Zh) #[rfl,rfl,rfl] (by simp;lia) (λ_ _=>trivial) (by
  intro v hv h2 q;obtain⟨i,rfl⟩:∃i,v=.int i:=by simp only[ZB,Zai,or_false]at hv;rcases hv with rfl|rfl|rfl|rfl<;>exact#[_,rfl]
  unfold Jau;exact Je (J4 (arg1 rfl)<|Jeq _) #[rfl,.refl _])).eq
 refine xiff (notE (c:=Zh)<|truE<|(cbE<|arg1 ec).trans<|all_map (f:=λ_=>Zh) JH)<|xnil ?_;have x1:Ex h (h++IX.lst ([IV.int (a:Int),IV.int b,IV.int c,IV.int d].map λ_=>.bl Zh)::g):=.cons _ _ _;generalize h++IX.lst ([IV.int (a:Int),IV.int b,IV.int c,IV.int d].map λ_=>.bl Zh)::g=h1 at x1;have D1:=x1.get hD;refine xseq (xiff (orF (notE<|tofE<|chT rfl (ixtE rfl rfl QU) (dotE rfl D1 dls (Jeo _) rfl (Jja D1)) (Int.natCast_nonneg a) (by rw[wl];lia))<|okc (ltE (ixtE rfl rfl Vw) rfl)<|decide_eq_false<|ZcN.mpr q2)<|xnil<|xseq<|xset<|Je (wkE D1 rfl (ixtE rfl rfl QU) av) ?_);exact xret<|Je (J3w (chL rfl (ixtE rfl rfl Vx) (fldE rfl (x1.get gj) fl4) q3 q4)<|chL rfl (ixtE rfl rfl Jws) (fldE rfl (x1.get gj) fl2) q5 q6) #[rfl,x1]
theorem Jxe{cs:Uc}(hd:IsDu h D rs)(gR:h[R]?=Za (.lst<|cs.map tupC))(L:Legal rs cs)(hl:cs.length<=1000):
  WR (Jbe (k+4) [.ref D,.ref R] h) λv h'=>v=.non/\Ex h h':=by
 have hb:=JD;obtain⟨vs,hD,w⟩:=id hd;rw[Jgl];refine xfin<|xseq<|xset<|Je rfl (xseq<|xfor ?_);rw[Vt];refine Je (arg1 rfl)<|(Jr7 _).mpr #[_,grow gR,?_];refine Vc (λn σ h'=>∃kvs g a b c,h'=h++IX.dct kvs::g/\σ=[Za<|.ref D,Za<|.ref R,Za<|.ref h.length,a,b,c]/\kvs.length<=n/\∀(a:Nat) v,valI kvs (.inl (a:Int))=Za v->∃i c,i<n/\cs[i]?=Za c/\c.at_=a/\v=.int c.come) ?_ ?_ ?_ #[[],[],Zd,Zd,Zd,rfl,rfl,Zm _,λa v e=>by cases e]
 ·rintro _ _ _ ⟨kvs,g,a,b,c,rfl,_⟩;exact grow gR
 ·rintro n hn _ _ ⟨kvs,g,a,b,c,rfl,rfl,ln,td⟩;rw[Jxa];have hc:n<cs.length:=by simpa[Xn]using hn
  have x1:Ex h (h++IX.dct kvs::g):=.cons _ _ _;rw[ZaD];have ec:cs[n]?=Za cs[n]:=Zb hc;have ok:=L.ok _<|ZF hc;generalize cs[n]=ci at ec ok;obtain⟨_,_,e2,rfl,g2,rfl⟩:=(Jto (k:=k) (c:=ci) (hd.kp x1.kp) ok).eq;refine xnx rfl (xseq<|xiff (notE<|truE<|J4 (arg2 rfl rfl) e2)<|xnil<|xseq<|xset<|Je (ixtE rfl rfl QU)<|xseq ?_);have eh:h++IX.dct kvs::g++g2=h++IX.dct kvs::(g++g2):=by rw[Zae,ZaK]
  rw[eh];have x2:Ex h (h++IX.dct kvs::(g++g2)):=.cons _ _ _;have hat:=ok.at_;have er:=Zb hat;obtain⟨j,ev,gj⟩:=w.get er;have av:=JL ev;generalize rs[ci.at_]=r at er gj;have fin:∀{σ:ISt}(a b c),σ=[Za<|.ref D,Za<|.ref R,Za<|.ref h.length,a,b,c]->∃kvs_1 g_1 a b c,List.set (h++IX.dct kvs::(g++g2)) h.length (IX.dct<|putD kvs (.inl (ci.at_:Int))<|.int ci.come)=h++IX.dct kvs_1::g_1/\σ=[Za<|.ref D,Za<|.ref R,Za<|.ref h.length,a,b,c]/\kvs_1.length<=n+1/\∀(a:Nat) v,valI kvs_1 (.inl (a:Int))=Za v->∃i c,i<n+1/\cs[i]?=Za c/\c.at_=a/\v=.int c.come:=by
   intro σ a b c hσ;refine#[_,_,_,_,_,Jik _ _ _,hσ,?_,λa v e=>?_]
   ·unfold putD;split
    ·rw[Zr];lia
    ·rw[Z7,Zbn];lia
   ·rw[Jmu]at e;split at e
    ·rename_i z;cases e;exact#[n,ci,05,ec,by have:=Sum.inl.inj z;lia,rfl]
    ·obtain⟨i,c,h1,h2⟩:=td a v e;exact#[i,c,05,h2]
  have key:∀{σ:ISt}(a b:Te),σ=[Za<|.ref D,Za<|.ref R,Za<|.ref h.length,a,Za<|tupC ci,Za<|.int (ci.at_:Int)]->∀P,WS (sAsg (Jc Jg 'e' '1') (gSbD 'c' 'f') σ<|h++IX.dct kvs::(g++g2)) (λσ h'=>∃kvs g a b c,h'=h++IX.dct kvs::g/\σ=[Za<|.ref D,Za<|.ref R,Za<|.ref h.length,a,b,c]/\kvs.length<=n+1/\∀(a:Nat) v,valI kvs (.inl (a:Int))=Za v->∃i c,i<n+1/\cs[i]?=Za c/\c.at_=a/\v=.int c.come) P:=by rintro σ a b rfl P;refine(XG ..).mpr<|Je (ixtE rfl rfl Vw) ?_;rw[Jsj];refine Je rfl (Je rfl ?_);rw[Jna (JH (h:=h))<|show kvs.length<sizeLine by lia];exact fin _ _ _ rfl
  have ei:∀{σ:ISt}(a b:Te),σ=[Za<|.ref D,Za<|.ref R,Za<|.ref h.length,a,Za<|tupC ci,Za<|.int (ci.at_:Int)]->Jh asB (Jc cInD 'f' 'c') σ (h++IX.dct kvs::(g++g2))=.ok (valI kvs<|.inl (ci.at_:Int)).isSome (h++IX.dct kvs::(g++g2)):=by rintro σ a b rfl;exact tofE ((binE rfl rfl).trans<|Jv<|by rw[J25 JH];exact#[rfl,rfl])
  cases el:valI kvs (.inl (ci.at_:Int))with|none=>exact xiff (andF<|(ei _ Zd rfl).trans<|by rw[el];rfl)<|xnil<|key _ Zd rfl _|some l=>
   obtain⟨i,c0,hi,e0,ea,rfl⟩:=td _ _ el;have far:=L.far i n c0 ci hi e0 ec ea r<|by rw[ea];exact er
   exact xiff (andT ((ei _ Zd rfl).trans<|by rw[el];rfl)<|okc (ltE (subE (ixtE rfl rfl Vw)<|(binE rfl rfl).trans<|Jv<|by rw[Jwn JH el];exact#[rfl,rfl])<|fldE (wkE (x2.get hD) rfl rfl av) (x2.get gj) fl1)<|decide_eq_false 05)<|xnil<|key _ Zd rfl _
 ·rintro _ _ ⟨kvs,g,a,b,c,rfl,rfl,_⟩;exact xret<|Je rfl #[rfl,.cons _ _ _]
theorem Jz5{cs:Uc}(hd:IsDu h D rs)(gR:h[R]?=Za (.lst<|cs.map tupC))(L:Legal rs cs)(hl:cs.length<=200):
  WR (Jfb (k+5) [.ref D,.ref R] h) λv h'=>v=.non/\Ex h h':=by
 rw[Jnl];refine xfin (xseq<|xiff (okc (gtE (lenE rfl gR) rfl)<|decide_eq_false<|by rw[Zr];lia)<|xnil<|xseq<|xset<|xb<|Je (arg2 rfl rfl)<|WR.mono (Jxe (k:=k) hd gR L 05) ?_);rintro _ h1 ⟨rfl,x1⟩;exact xiff rfl (xnil #[rfl,x1])
theorem Jmd:Jha (k+1) [tupC c] h=.ok (.int<|rdC c) h:=Jv<|by rw[Jta];exact xfin<|xret<|Je (addE (ixtE rfl rfl Vw)<|ixtE rfl rfl Vx) #[rfl,rfl]
theorem J0b{c:Cm}(hd:IsDu h D rs)(ha:c.at_<rs.length):XL (k+2) [.ref D,tupC c] h=.ok (.int<|duC rs c) h:=by unfold duC;rw[Jhy ha];exact dueE hd ha
end
end
theorem Jiv{t:T1}{b:S1}{σ:ISt}{h:IH}{N:ISt->IH->Prop}{R:IV->IH->Prop}(I:Nat->ISt->IH->Prop) (turn:∀m σ h,I m σ h->WR (t σ h) λc h1=>(c=Zh->∃m',m=m'+1/\WS (b σ h1) (I m') R)/\(c=Zj->N σ h1)){m:Nat}(hm:m<1000000)(start:I m σ h):WS (X6 t b σ h) N R:=by
 have key:∀(n m:Nat)(σ:ISt)(h:IH),m<n->I m σ h->WS (Va t b n σ h) N R:=by
  intro n;induction n with|zero=>intro m σ h hn _;lia|succ n ih=>
   intro m σ h hn hI;obtain⟨c,h1,e,q1,q2⟩:=(turn m σ h hI).eq;unfold Va;rw[e];cases c with|false=>exact q2 rfl|true=>obtain⟨m',rfl,w⟩:=q1 rfl;simp only[if_true];cases eb:b σ h1 with|next σ2 h2=>rw[eb]at w;exact ih m' σ2 h2 05 w|ret v h2=>rw[eb]at w;exact w|_=>rw[eb]at w;exact w.elim
 have et:VE=1000000:=by unfold VE;rfl
 rw[Jjy];exact key _ m σ h (by rw[et];exact hm) start
structure Bs where
 ds:Tp
 lr:Tq
 wa:Tq
 t:Int
 sr:Wb
def rdN(cs:Uc)(p:Nat):Int:=rdC<|cs.getD p cd
def lnN(cs:Uc)(p:Nat):Int:=(cs.getD p cd).len
def hsN(rs:Ub)(cs:Uc)(p:Nat):Ua:=(rs.getD (cs.getD p cd).at_ rd).2
def pops(cs:Uc)(t:Int):Tq->Tq->List Nat×Tq|[],wa=>([],wa)|p::lr,wa=>if rdN cs p<=t then pops cs t lr (wa++[p])else(p::lr,wa)
def tIn(cs:Uc)(s:Bs):Int:=match s.wa,s.lr with|[],p::_=>if rdN cs p>s.t then rdN cs p else s.t|_,_=>s.t
def letM(cs:Uc)(s:Bs):Bs:=#[s.ds,(pops cs (tIn cs s) s.lr s.wa).1,(pops cs (tIn cs s) s.lr s.wa).2,tIn cs s,s.sr]
def Vv(rs:Ub)(cs:Uc)(ds:Tp)(wa:Tq)(p:Nat):Prop:=p∈wa/\∀q∈wa,ltL (keyN rs cs ds q) (keyN rs cs ds p)=Zj
def Xy(rs:Ub)(cs:Uc)(ds:Tp)(wa:Tq):Nat:=(wa.find? λp=>wa.all λq=>!ltL (keyN rs cs ds q) (keyN rs cs ds p)).getD 0
theorem Vv.uniq(a:Vv rs cs ds wa p)(b:Vv rs cs ds wa q):p=q:=by have:=Jvz (a:=keyN rs cs ds p) (b:=keyN rs cs ds q) rfl (b.2 p a.1) (a.2 q b.1);simp only[keyN,Zfo,and_true]at this;lia
theorem Vv.eq(a:Vv rs cs ds wa p):Xy rs cs ds wa=p:=by unfold Xy;cases e:wa.find? λp=>wa.all λq=>!ltL (keyN rs cs ds q) (keyN rs cs ds p)with|none=>have:=List.find?_eq_none.mp e p a.1;simp only[Zcr,Zbl,Bool.not_eq_true]at this;exact absurd a.2 this|some q=>have h1:=List.find?_some e;simp only[Zcr,Zbl]at h1;exact Vv.uniq #[List.mem_of_find?_eq_some e,h1] a
noncomputable def QL (hs:Ua)(d len:Int):Tp:=len::(hs.filter λa=>decide (d<a.2.2)).map (·.2.2)
def QM(hs:Ua)(d len:Int):Int:=Q2 (λi=>(QL hs d len).getD i 0) (QL hs d len).length
def JU(rs:Ub)(cs:Uc)(s:Bs)(p:Nat):Int:=match s.lr with|[]=>QM (hsN rs cs p) (s.ds.getD p 0) (lnN cs p)-s.ds.getD p 0|q::_=>if rdN cs q-s.t<QM (hsN rs cs p) (s.ds.getD p 0) (lnN cs p)-s.ds.getD p 0 then rdN cs q-s.t else QM (hsN rs cs p) (s.ds.getD p 0) (lnN cs p)-s.ds.getD p 0
noncomputable def QY (p:Nat)(t u:Int):Wb->Wb|[]=>[(p,t,u)]|a::r=>if a.1=p then(p,a.2.1,u)::r else(p,t,u)::a::r
def doM(rs:Ub)(cs:Uc)(s:Bs)(p:Nat)(n:Int):Bs:=#[s.ds.set p<|s.ds.getD p 0+n,s.lr,if s.ds.getD p 0+n=lnN cs p then s.wa.erase p else s.wa,s.t+n,QY p s.t (s.t+n) s.sr]
def goM(rs:Ub)(cs:Uc)(s:Bs):Bs:=doM rs cs s (Xy rs cs s.ds s.wa)<|JU rs cs s<|Xy rs cs s.ds s.wa
def Qu(rs:Ub)(cs:Uc)(s:Bs):Bs:=goM rs cs<|letM cs s
def runM(rs:Ub)(cs:Uc):Nat->Bs->Bs|0,s=>s|m+1,s=>if s.lr=[]/\s.wa=[]then s else runM rs cs m (Qu rs cs s)
def lr0(cs:Uc):Tq:=(ordK (cs.map rdC).reverse cs.length).map λi=>cs.length-1-i
def s0(cs:Uc):Bs:=#[cs.map λ_=>0,lr0 cs,[],0,[]]
def finM(rs:Ub)(cs:Uc):Bs:=runM rs cs (8*cs.length)<|s0 cs
theorem Jmn(hs:Ua)(d len:Int):QM hs d len=len∨∃a∈hs,d<a.2.2/\QM hs d len=a.2.2:=by
 obtain⟨j,hj,e⟩:=Jo5 (λi=>(QL hs d len).getD i 0) (QL hs d len).length<|by simp[QL]
 unfold QM;rw[e];cases j with|zero=>exact .inl rfl|succ j=>
  refine .inr ?_;have hj':j<(hs.filter λa=>decide (d<a.2.2)).length:=by simpa[QL]using hj
  have m:=ZF hj';rw[Zfh]at m;refine#[_,m.1,of_decide_eq_true m.2,?_];simp[QL,Zi,Zb hj']
theorem Jlf(hs:Ua)(d len:Int):QM hs d len<=len:=Jvh (λi=>(QL hs d len).getD i 0) _ 0<|by simp[QL]
theorem Jy1(h:d<len):d<QM hs d len:=by rcases Jmn hs d len with e|⟨a,_,l,e⟩<;>lia
structure Wf(cs:Uc)(s:Bs):Prop where
 ld:s.ds.length=cs.length
 mem:∀p∈s.lr++s.wa,p<cs.length
 nd:(s.lr++s.wa).Nodup
 srt:s.lr.Pairwise λp q=>rdN cs p<=rdN cs q
 z:∀p∈s.lr++s.wa,0<=s.ds.getD p 0/\s.ds.getD p 0<lnN cs p
 dn:∀p,p<cs.length->p∉s.lr++s.wa->s.ds.getD p 0=lnN cs p
 z0:∀p∈s.lr,s.ds.getD p 0=0
 rw:∀p∈s.wa,rdN cs p<=s.t
theorem Jf4(cs:Uc)(t:Int):∀(lr wa:Tq),((pops cs t lr wa).1++(pops cs t lr wa).2).Perm (lr++wa)
 |[],wa=>.refl _
 |p::lr,wa=>by
  unfold pops;split
  ·refine(Jf4 cs t lr<|wa++[p]).trans ?_;rw[<-Zae];exact List.perm_append_singleton p<|lr++wa
  ·exact .refl _
theorem X1(cs:Uc)(t:Int):∀(lr wa:Tq),∃a,lr=a++(pops cs t lr wa).1/\(pops cs t lr wa).2=wa++a/\(∀p∈a,rdN cs p<=t)/\∀q r,(pops cs t lr wa).1=q::r->t<rdN cs q
 |[],wa=>#[[],rfl,by simp[pops],03,by simp[pops]]
 |p::lr,wa=>by
  unfold pops;split
  ·rename_i c;obtain⟨a,e1,e2,e3,e4⟩:=X1 cs t lr<|wa++[p];exact#[p::a,congrArg (p:: ·) e1,by rw[e2];simp,λq hq=>by rcases ZB.mp hq with rfl|hq;exact c;exact e3 q hq,e4]
  ·rename_i c;exact#[[],rfl,03,03,λq r e=>by cases e;lia]
theorem Jrv(cs:Uc)(s:Bs):s.t<=tIn cs s:=by
 unfold tIn;split
 ·split<;>lia
 ·lia
theorem Wf.let(w:Wf cs s):Wf cs (letM cs s):=by
 obtain⟨a,e1,e2,e3,e4⟩:=X1 cs (tIn cs s) s.lr s.wa;have pm:=Jf4 cs (tIn cs s) s.lr s.wa;have tg:=Jrv cs s;refine#[w.ld,λp hp=>w.mem p<|pm.mem_iff.mp hp,pm.nodup_iff.mpr w.nd,?_,λp hp=>w.z p<|pm.mem_iff.mp hp,λp l hp=>w.dn p l λz=>hp<|pm.mem_iff.mpr z,λp hp=>w.z0 p ?_,λp hp=>?_]
 ·have:=w.srt;rw[e1]at this;exact(ZaU.mp this).2.1
 ·rw[e1];exact Zq _ hp
 ·have hp:p∈(pops cs (tIn cs s) s.lr s.wa).2:=hp;rw[e2]at hp;rcases ZK.mp hp with hp|hp
  ·have:=w.rw p hp;exact Zan this tg
  ·exact e3 p hp
theorem Jqu{s:Bs}(ne:¬(s.lr=[]/\s.wa=[])):(letM cs s).wa≠[]:=by
 obtain⟨a,e1,e2,e3,e4⟩:=X1 cs (tIn cs s) s.lr s.wa;intro e;have e:(pops cs (tIn cs s) s.lr s.wa).2=[]:=e;rw[e2]at e;obtain⟨ew,ea⟩:=List.append_eq_nil_iff.mp e;cases el:s.lr with|nil=>exact ne #[el,ew]|cons p r=>
  have:=e4 p r<|by rw[<-el];simpa[ea]using e1.symm
  have ht:tIn cs s=if rdN cs p>s.t then rdN cs p else s.t:=by unfold tIn;rw[ew,el]
  rw[ht]at this;split at this<;>lia
theorem Jvw(w:Wf cs s):∀q∈(letM cs s).lr,(letM cs s).t<rdN cs q:=by
 obtain⟨a,e1,e2,e3,e4⟩:=X1 cs (tIn cs s) s.lr s.wa;have ws:=w.let.srt;show ∀q∈(pops cs (tIn cs s) s.lr s.wa).1,tIn cs s<rdN cs q;have ws:((pops cs (tIn cs s) s.lr s.wa).1).Pairwise _:=ws;cases e:(pops cs (tIn cs s) s.lr s.wa).1 with|nil=>simp|cons p r=>
  have:=e4 p r e;rw[e]at ws;intro q hq;rcases ZB.mp hq with rfl|hq
  ·exact this
  ·have:=(ZaV.mp ws).1 q hq;lia
theorem Jga{s:Bs}(gt:∀q∈s.lr,s.t<rdN cs q)(l:s.ds.getD p 0<lnN cs p):0<JU rs cs s p/\s.ds.getD p 0+JU rs cs s p<=QM (hsN rs cs p) (s.ds.getD p 0) (lnN cs p):=by
 have:=Jy1 (hs:=hsN rs cs p) l;unfold JU;split
 ·lia
 ·rename_i q r e;have:=gt q<|by rw[e];simp
  split<;>lia
theorem Ye{α:Type}{l:List α}{i j:Nat}{x z:α}:(l.set i x).getD j z=if i=j/\j<l.length then x else l.getD j z:=by
 simp only[Zi,List.getElem?_set];by_cases e:i=j
 ·subst e;by_cases l':i<l.length
  ·simp[l']
  ·simp[l',Za3<|ZcW l']
 ·simp[e]
theorem Wf.do{rs:Ub}{cs:Uc}{s:Bs}(w:Wf cs s){p:Nat}(hp:p∈s.wa){n:Int}(n0:0<n)(nl:s.ds.getD p 0+n<=lnN cs p):Wf cs (doM rs cs s p n):=by
 have lp:=w.mem p<|Zq _ hp;have sub:(s.lr++(doM rs cs s p n).wa).Sublist (s.lr++s.wa):=by
  refine List.Sublist.append_left ?_ _;show List.Sublist (if _ then _ else _) _;split
  ·exact List.erase_sublist
  ·exact List.Sublist.refl _
 have nl':∀q∈s.lr,q≠p:=λq hq e=>(ZaU.mp w.nd).2.2 q hq p hp e
 have nw:s.wa.Nodup:=(ZaU.mp w.nd).2.1;have g:∀q,(doM rs cs s p n).ds.getD q 0=if p=q then s.ds.getD p 0+n else s.ds.getD q 0:=λq=>by
  show(s.ds.set p _).getD q 0=_;rw[Ye];by_cases e:p=q
  ·subst e;rw[if_pos #[rfl,by rw[w.ld];exact lp],if_pos rfl]
  ·rw[if_neg λz=>e z.1,if_neg e]
 refine#[by show(s.ds.set _ _).length=_;rw[Zbq];exact w.ld,λq hq=>w.mem q<|sub.subset hq,w.nd.sublist sub,w.srt,λq hq=>?_,λq lq hq=>?_,λq hq=>?_,λq hq=>?_]
 ·have:=w.z q<|sub.subset hq;rw[g];split
  ·rename_i e;subst e;refine#[05,?_];rcases ZK.mp hq with hq|hq
   ·exact absurd rfl (nl' p hq)
   ·have hq:p∈if s.ds.getD p 0+n=lnN cs p then s.wa.erase p else s.wa:=hq
    split at hq
    ·exact absurd hq<|List.Nodup.not_mem_erase nw
    ·lia
  ·exact this
 ·rw[g];split
  ·rename_i e;subst e;have hq:p∉s.lr++if s.ds.getD p 0+n=lnN cs p then s.wa.erase p else s.wa:=hq
   split at hq
   ·assumption
   ·exact absurd (Zq _ hp) hq
  ·rename_i ne;refine w.dn q lq λz=>hq ?_
   show q∈s.lr++if s.ds.getD p 0+n=lnN cs p then s.wa.erase p else s.wa
   split
   ·rcases ZK.mp z with z|z
    ·exact ZW _ z
    ·exact Zq _<|(List.mem_erase_of_ne<|ZP ne).mpr z
   ·exact z
 ·rw[g,if_neg<|ZP<|nl' q hq];exact w.z0 q hq
 ·have:=w.rw q (by
   have hq:q∈if s.ds.getD p 0+n=lnN cs p then s.wa.erase p else s.wa:=hq
   split at hq
   ·exact Zfz hq
   ·exact hq)
  show _<=s.t+n;lia
theorem Jk6:∀{wa:Tq},wa≠[]->∃p,Vv rs cs ds wa p
 |[],h=>absurd rfl h
 |[p],_=>#[p,03,λq hq=>by rw[Z9.mp hq];exact Yi _]
 |p::q::r,_=>by
  obtain⟨m,hm,lm⟩:=Jk6 (rs:=rs) (cs:=cs) (ds:=ds) (wa:=q::r) 03;cases c:ltL (keyN rs cs ds p) (keyN rs cs ds m)with
  |true=>
   refine#[p,03,λx hx=>?_];rcases ZB.mp hx with rfl|hx
   ·exact Yi _
   ·cases z:ltL (keyN rs cs ds x) (keyN rs cs ds p)with
    |false=>rfl
    |true=>exact absurd (Jf0 z c)<|by rw[lm x hx];exact Zw
  |false=>
   refine#[m,Zl _ hm,λx hx=>?_];rcases ZB.mp hx with rfl|hx
   ·exact c
   ·exact lm x hx
def V0(rs:Ub)(cs:Uc)(ds:Tp)(p:Nat):Nat:=((hsN rs cs p).filter λa=>decide (ds.getD p 0<a.2.2)).length
def mea(rs:Ub)(cs:Uc)(s:Bs):Nat:=(s.lr++s.wa).length+((ZU cs.length).map<|V0 rs cs s.ds).sum+(s.lr.filter λp=>decide (s.t<rdN cs p)).length
theorem Yc{α:Type}{f g:α->Bool}:∀{l:List α},(∀x∈l,f x=Zh->g x=Zh)->(l.filter f).length<=(l.filter g).length
 |[],_=>03
 |x::l,h=>by
  have ih:=Yc (l:=l) λy hy=>h y<|Zl _ hy
  have:=h x 03;simp only[ZdK];split
  ·rename_i c;rw[if_pos<|this c];simpa using ih
  ·split
   ·simp only[ZN];lia
   ·exact ih
theorem Jkv{α:Type}{f g:α->Bool}{a:α}:∀{l:List α},a∈l->f a=Zj->g a=Zh->(∀x∈l,f x=Zh->g x=Zh)->(l.filter f).length<(l.filter g).length
 |x::l,ha,fa,ga,h=>by
  have le:=Yc (l:=l) λy hy=>h y<|Zl _ hy
  have hx:=h x 03;rcases ZB.mp ha with rfl|ha
  ·simp only[ZdK,fa,ga,if_true,Zad,if_false,ZN];lia
  ·have ih:=Jkv ha fa ga λy hy=>h y<|Zl _ hy
   simp only[ZdK];split
   ·rename_i c;rw[if_pos<|hx c];simpa using ih
   ·split
    ·simp only[ZN];lia
    ·exact ih
theorem Jmk{f g:Nat->Nat}:∀{l:Tq},(∀x∈l,f x<=g x)->(l.map f).sum<=(l.map g).sum
 |[],_=>Zm _
 |x::l,h=>by
  have:=h x 03;have:=Jmk (l:=l) λy hy=>h y<|Zl _ hy
  simp only[ZQ,ZbE];lia
theorem Jv8{f g:Nat->Nat}{a:Nat}:∀{l:Tq},a∈l->f a<g a->(∀x∈l,f x<=g x)->(l.map f).sum<(l.map g).sum
 |x::l,ha,la,h=>by
  have hx:=h x 03;have le:=Jmk (l:=l) λy hy=>h y<|Zl _ hy
  simp only[ZQ,ZbE];rcases ZB.mp ha with rfl|ha
  ·lia
  ·have:=Jv8 ha la λy hy=>h y<|Zl _ hy
   lia
theorem Jx4(rs:Ub)(cs:Uc)(s:Bs):mea rs cs (letM cs s)<=mea rs cs s:=by
 obtain⟨a,e1,e2,e3,e4⟩:=X1 cs (tIn cs s) s.lr s.wa;have pm:=(Jf4 cs (tIn cs s) s.lr s.wa).length_eq;have tg:=Jrv cs s;show((pops cs (tIn cs s) s.lr s.wa).1++(pops cs (tIn cs s) s.lr s.wa).2).length+_+((pops cs (tIn cs s) s.lr s.wa).1.filter λp=>decide (tIn cs s<rdN cs p)).length<=_;rw[pm];unfold mea;have h1:=Yc (f:=λp=>decide (tIn cs s<rdN cs p)) (g:=λp=>decide (s.t<rdN cs p)) (l:=(pops cs (tIn cs s) s.lr s.wa).1) λx _ c=>decide_eq_true<|Int.lt_of_le_of_lt tg<|of_decide_eq_true c
 have h2:(s.lr.filter λp=>decide (s.t<rdN cs p)).length=(a.filter λp=>decide (s.t<rdN cs p)).length+((pops cs (tIn cs s) s.lr s.wa).1.filter λp=>decide (s.t<rdN cs p)).length:=by
  conv=>lhs;rw[e1]
  rw[List.filter_append,Z7]
 have h3:((ZU cs.length).map<|V0 rs cs (letM cs s).ds).sum=((ZU cs.length).map<|V0 rs cs s.ds).sum:=rfl;lia
theorem J1o(w:Wf cs s)(gt:∀q∈s.lr,s.t<rdN cs q){p:Nat}(hp:p∈s.wa):mea rs cs (doM rs cs s p<|JU rs cs s p)<mea rs cs s:=by
 have lp:=w.mem p<|Zq _ hp;obtain⟨n0,nl⟩:=Jga (rs:=rs) gt (w.z p<|Zq _ hp).2;have sl:=Jlf (hsN rs cs p) (s.ds.getD p 0)<|lnN cs p;have hn:∀n,n=JU rs cs s p->0<n/\s.ds.getD p 0+n<=lnN cs p:=λn e=>by rw[e];exact#[n0,05]
 have cases3:(s.ds.getD p 0+JU rs cs s p=lnN cs p)∨(∃a∈hsN rs cs p,s.ds.getD p 0<a.2.2/\s.ds.getD p 0+JU rs cs s p=a.2.2)∨∃q∈s.lr,s.t+JU rs cs s p=rdN cs q:=by
  unfold JU;have:=Jmn (hsN rs cs p) (s.ds.getD p 0)<|lnN cs p;split
  ·rcases this with e|⟨a,ha,l,e⟩
   ·exact .inl 05
   ·exact .inr<|.inl #[a,ha,l,05]
  ·rename_i q r e;split
   ·exact .inr (.inr #[q,by rw[e];simp,05])
   ·rcases this with e|⟨a,ha,l,e⟩
    ·exact .inl 05
    ·exact .inr<|.inl #[a,ha,l,05]
 generalize JU rs cs s p=n at n0 nl cases3;have gd:∀q,(s.ds.set p<|s.ds.getD p 0+n).getD q 0=if p=q then s.ds.getD p 0+n else s.ds.getD q 0:=λq=>by
  rw[Ye];by_cases e:p=q
  ·subst e;rw[if_pos #[rfl,by rw[w.ld];exact lp],if_pos rfl]
  ·rw[if_neg λz=>e z.1,if_neg e]
 have m2:∀q∈ZU cs.length,V0 rs cs (s.ds.set p<|s.ds.getD p 0+n) q<=V0 rs cs s.ds q:=λq _=>Yc λx _ c=>by
  have c:=of_decide_eq_true c;rw[gd]at c;refine decide_eq_true ?_;split at c
  ·rename_i e;subst e;lia
  ·exact c
 have m3:∀x∈s.lr,decide (s.t+n<rdN cs x)=Zh->decide (s.t<rdN cs x)=Zh:=λx _ c=>decide_eq_true (by have:=of_decide_eq_true c;lia)
 have l2:=Jmk m2;have l3:=Yc m3;have lw:(s.lr++if s.ds.getD p 0+n=lnN cs p then s.wa.erase p else s.wa).length<=(s.lr++s.wa).length:=by
  rw[Z7,Z7];split
  ·have:=ZeB hp;lia
  ·lia
 show(s.lr++if s.ds.getD p 0+n=lnN cs p then s.wa.erase p else s.wa).length+((ZU cs.length).map<|V0 rs cs<|s.ds.set p<|s.ds.getD p 0+n).sum+(s.lr.filter λx=>decide (s.t+n<rdN cs x)).length<(s.lr++s.wa).length+((ZU cs.length).map<|V0 rs cs s.ds).sum+(s.lr.filter λx=>decide (s.t<rdN cs x)).length;rcases cases3 with e|⟨a,ha,la,e⟩|⟨q,hq,e⟩
 ·rw[if_pos e,Z7,Z7];have:=ZeB hp;have:=List.length_pos_of_mem hp;lia
 ·have:=Jv8 (Za0.mpr lp) (Jkv (a:=a) (f:=λa=>decide ((s.ds.set p<|s.ds.getD p 0+n).getD p 0<a.2.2)) (g:=λa=>decide (s.ds.getD p 0<a.2.2)) ha (decide_eq_false<|by rw[gd,if_pos rfl];lia) (decide_eq_true la) λx _ c=>by have c:=of_decide_eq_true c;rw[gd,if_pos rfl]at c;exact decide_eq_true 05) m2;lia
 ·have:=Jkv (a:=q) (f:=λx=>decide (s.t+n<rdN cs x)) (g:=λx=>decide (s.t<rdN cs x)) hq (decide_eq_false 05) (decide_eq_true<|gt q hq) m3;lia
section
seal L4.run
abbrev nI(n:Nat):IV:=.int (n:Int)
noncomputable abbrev tupS (a:Nat×Int×Int):IV:=.tup [.int (a.1:Int),.int a.2.1,.int a.2.2]
noncomputable def bfs (O R D L W:Nat)(t:Int)(S:Nat):Wl:=[("order",.ref O),("row",.ref R),("dones",.ref D),("later",.ref L),("waiting",.ref W),("turn",.int t),("stretches",.ref S)]
section
variable{O R D L W S:Nat}{t u:Int}
theorem bf0:(bfs O R D L W t S).lookup ("order":Str)=Za (.ref O):=02
theorem bf1:(bfs O R D L W t S).lookup ("row":Str)=Za (.ref R):=02
theorem bf2:(bfs O R D L W t S).lookup ("dones":Str)=Za (.ref D):=02
theorem bf3:(bfs O R D L W t S).lookup ("later":Str)=Za (.ref L):=02
theorem bf4:(bfs O R D L W t S).lookup ("waiting":Str)=Za (.ref W):=02
theorem bf5:(bfs O R D L W t S).lookup ("turn":Str)=Za (.int t):=02
theorem bf6:(bfs O R D L W t S).lookup ("stretches":Str)=Za (.ref S):=02
theorem bn0:(bfs O R D L W t S).lookup ("next_ready":Str)=Zd:=02
theorem bn1:(bfs O R D L W t S).lookup ("let_in":Str)=Zd:=02
theorem bn2:(bfs O R D L W t S).lookup ("turns_for":Str)=Zd:=02
theorem bn3:(bfs O R D L W t S).lookup ("tell":Str)=Zd:=02
theorem bn4:(bfs O R D L W t S).lookup ("go_on":Str)=Zd:=02
theorem bft:putI "turn" (.int u) (bfs O R D L W t S)=bfs O R D L W u S:=02
end
structure Bg(h0:IH)(rs:Ub)(cs:Uc)(O R:Nat):Prop where
 o:IsOr h0 O rs
 r:h0[R]?=Za (.lst<|cs.map tupC)
 c:∀c∈cs,c.at_<rs.length
 l6:∀r∈rs,r.2.length<=6
 p1:h0[0]?=Za (.tab "Order.pick")
 n:cs.length<=200
structure Bn(h0 h:IH)(B O R D L W S:Nat)(s:Bs):Prop where
 x:Ex h0 h
 ap:h0.length<=B/\B<D/\D<L/\L<W/\W<S
 b:h[B]?=Za (.ins "Bench"<|bfs O R D L W s.t S)
 d:h[D]?=Za (.lst<|s.ds.map .int)
 l:h[L]?=Za (.lst<|s.lr.reverse.map nI)
 w:h[W]?=Za (.lst<|s.wa.map nI)
 s:h[S]?=Za (.lst<|s.sr.reverse.map tupS)
theorem Vh{h0 h:IH}{i:Nat}{o:IX}(x:Ex h0 h)(l:h0.length<=i):Ex h0 (h.set i o):=by obtain⟨g,rfl⟩:=x;exact#[g.set (i-h0.length) o,by rw[ZcF _ _ l]]
theorem Jw{h:IH}{i j:Nat}{o o':IX}(e:h[j]?=Za o)(n:i≠j):(h.set i o')[j]?=Za o:=by rw[ZX n];exact e
theorem Qg{h:IH}{i:Nat}{o o':IX}(e:h[i]?=Za o):(h.set i o')[i]?=Za o':=ZO<|J6 e
section
variable{h0 h h':IH}{B O R D L W S:Nat}{s:Bs}
theorem Bn.ex(b:Bn h0 h B O R D L W S s)(x:Ex h h'):Bn h0 h' B O R D L W S s:=#[b.x.trans x,b.ap,x.get b.b,x.get b.d,x.get b.l,x.get b.w,x.get b.s]
theorem Bn.setT(b:Bn h0 h B O R D L W S s)(u:Int):Bn h0 (h.set B<|.ins "Bench"<|bfs O R D L W u S) B O R D L W S #[s.ds,s.lr,s.wa,u,s.sr]:=
 have ap:=b.ap
 #[Vh b.x 05,ap,Qg b.b,Jw b.d 05,Jw b.l 05,Jw b.w 05,Jw b.s 05]
theorem Bn.setD(b:Bn h0 h B O R D L W S s)(ds:Tp):Bn h0 (h.set D<|.lst<|ds.map .int) B O R D L W S #[ds,s.lr,s.wa,s.t,s.sr]:=
 have ap:=b.ap
 #[Vh b.x 05,ap,Jw b.b 05,Qg b.d,Jw b.l 05,Jw b.w 05,Jw b.s 05]
theorem Bn.setL(b:Bn h0 h B O R D L W S s)(lr:Tq):Bn h0 (h.set L<|.lst<|lr.reverse.map nI) B O R D L W S #[s.ds,lr,s.wa,s.t,s.sr]:=
 have ap:=b.ap
 #[Vh b.x 05,ap,Jw b.b 05,Jw b.d 05,Qg b.l,Jw b.w 05,Jw b.s 05]
theorem Bn.setW(b:Bn h0 h B O R D L W S s)(wa:Tq):Bn h0 (h.set W<|.lst<|wa.map nI) B O R D L W S #[s.ds,s.lr,wa,s.t,s.sr]:=
 have ap:=b.ap
 #[Vh b.x 05,ap,Jw b.b 05,Jw b.d 05,Jw b.l 05,Qg b.w,Jw b.s 05]
theorem Bn.setS(b:Bn h0 h B O R D L W S s)(sr:Wb):Bn h0 (h.set S<|.lst<|sr.reverse.map tupS) B O R D L W S #[s.ds,s.lr,s.wa,s.t,sr]:=
 have ap:=b.ap
 #[Vh b.x 05,ap,Jw b.b 05,Jw b.d 05,Jw b.l 05,Jw b.w 05,Qg b.s]
end
theorem Jhi{α:Type}{f:α->IV}{p:α}{lr:List α}:atI ((p::lr).reverse.map f) (-1)=Za (f p):=by have e:(-1+((lr.length:Int)+1)).toNat=lr.length:=05;have l:(1:Int)<=(lr.length:Int)+1:=05;simp[atI,ixN,e,l]
theorem XW{cs:Uc}{p:Nat}(lp:p<cs.length):atI (cs.map tupC) (p:Int)=Za (tupC<|cs.getD p cd):=JL<|by rw[Zy,Zi,Zb lp];rfl
theorem Jwt{ds:Tp}{p:Nat}(lp:p<ds.length):atI (ds.map IV.int) (p:Int)=Za (.int<|ds.getD p 0):=JL<|by rw[Zy,Zi,Zb lp];rfl
section
variable{k:Nat}{h0 h:IH}{rs:Ub}{cs:Uc}{B O R D L W S:Nat}{s:Bs}{P:IV->IH->Prop}
theorem J4i(g:Bg h0 rs cs O R)(b:Bn h0 h B O R D L W S s){p:Nat}{lr:Tq}(e:s.lr=p::lr)(lp:p<cs.length):Jaf (k+2) [.ref B] h=.ok (.int<|rdN cs p) h:=by have bl:=b.l;rw[e]at bl;refine Jv ?_;rw[Jc0];exact xfin<|xret<|Je (J4 (arg1<|ixlE (fldE rfl b.b bf1) (ixlE (fldE rfl b.b bf3) rfl bl Jhi) (b.x.get g.r)<|XW lp) Jmd) #[rfl,rfl]
theorem nrE{Pn:List (Te)}(g:Bg h0 rs cs O R)(b:Bn h0 h B O R D L W S s){p:Nat}{lr:Tq}(e:s.lr=p::lr)(lp:p<cs.length):Jp (pg<|k+2) "next_ready" 0 'a' Jd (Za (.ref B)::Pn) h=.ok (.int<|rdN cs p) h:=dotE rfl b.b bn0 (Jcz _) rfl (J4i g b e lp)
theorem Jra{cs:Uc}{t:Int}{p:Nat}{lr wa:Tq}:pops cs t (p::lr) wa=if rdN cs p<=t then pops cs t lr (wa++[p])else(p::lr,wa):=rfl
theorem Jvx(g:Bg h0 rs cs O R)(ml:∀p∈s.lr,p<cs.length)(hl:s.lr.length+s.wa.length<=1000)(b:Bn h0 h B O R D L W S s):WS (Jbw (k+2) [Za<|.ref B] h) (λ_ h'=>Bn h0 h' B O R D L W S #[s.ds,(pops cs s.t s.lr s.wa).1,(pops cs s.t s.lr s.wa).2,s.t,s.sr]) P:=by
 have hb:=JD;refine Jiv (λm σ h'=>∃lr wa,σ=[Za<|.ref B]/\Bn h0 h' B O R D L W S #[s.ds,lr,wa,s.t,s.sr]/\lr.length=m/\lr.length+wa.length<=1000/\(∀p∈lr,p<cs.length)/\pops cs s.t lr wa=pops cs s.t s.lr s.wa) ?_ (show s.lr.length<1000000 by lia) #[s.lr,s.wa,rfl,b,rfl,hl,ml,rfl];rintro m _ h1 ⟨lr,wa,rfl,b,lm,l2,ml,ep⟩;refine Jzw<|Je (gtE (lenE (fldE rfl b.b bf3) b.l) rfl)<|xdec (λc=>?_) λc=>?_
 ·cases lr with|nil=>exact absurd c 03|cons p lr=>
   rw[Jra]at ep;refine Je (leE (nrE g b rfl (ml p 03))<|fldE rfl b.b bf5)<|xdec (λc=>?_) λc=>?_
   ·refine#[lr.length,by simpa using lm.symm,?_];refine Qq<|QQ (fldE rfl b.b bf4) b.w VM<|xb<|QQ (fldE rfl b.b bf3) b.l Jo3<|Je rfl (xpop (y:=nI p) b.l 03 ?_);have e:(((p::lr).reverse.map nI).dropLast)=lr.reverse.map nI:=03;rw[e];have b1:=b.setL lr;refine xb (Je rfl (Je rfl (xapp b1.w (by simp at l2 ⊢;lia) #[lr,wa++[p],rfl,?_,rfl,by simp at l2 ⊢;lia,λq hq=>ml q<|Zl _ hq,by rw[<-ep,if_pos c]])));have:=b1.setW<|wa++[p];rw[ZbN]at this;exact this
   ·rw[if_neg c]at ep;rw[<-ep];exact b
 ·cases lr with|nil=>exact#[(λz=>by cases z),λ_=>by rw[<-ep];exact b]|cons p lr=>exact absurd 03 c
theorem J4f(g:Bg h0 rs cs O R)(ml:∀p∈s.lr,p<cs.length)(hl:s.lr.length+s.wa.length<=1000)(ne:¬(s.lr=[]/\s.wa=[]))(b:Bn h0 h B O R D L W S s):
  WR (Ja6 (k+3) [.ref B] h) λv h'=>v=.non/\Bn h0 h' B O R D L W S (letM cs s):=by
 rw[Jft];refine xfin<|xseq<|xifd (eqE (lenE (fldE rfl b.b bf4) b.w) rfl) (λc=>?_) λc=>?_
 ·have ew:s.wa=[]:=Zcy.mp<|by simpa using c
  cases el:s.lr with|nil=>exact absurd #[el,ew] ne|cons p lr=>
   have et:tIn cs s=if rdN cs p>s.t then rdN cs p else s.t:=by unfold tIn;rw[ew,el]
   refine Vd (maxE (fldE rfl b.b bf5)<|nrE g b el<|ml p<|by rw[el];simp) rfl b.b (by show(7:Nat)<1000;decide) ?_;rw[bft];have b1:=b.setT (if rdN cs p>s.t then rdN cs p else s.t);refine WS.mono (Jvx (s:=#[s.ds,s.lr,s.wa,if rdN cs p>s.t then rdN cs p else s.t,s.sr]) g ml hl b1) (λ_ h' q=>#[rfl,?_]) λ_ _ z=>z
   unfold letM;rw[et];exact q
 ·have et:tIn cs s=s.t:=by
   unfold tIn;split
   ·rename_i e _;rw[e]at c;exact absurd rfl c
   ·rfl
  refine xnil<|WS.mono (Jvx g ml hl b) (λ_ h' q=>#[rfl,?_]) λ_ _ z=>z
  unfold letM;rw[et];exact q
end
end
section
seal L4.run
noncomputable def enP (d:Int):IV->Bool|.tup [_,_,.int e]=>decide (d<e)|_=>Zj
noncomputable def enF:IV->IV|.tup [_,_,e]=>e|_=>.non
theorem J0d(hs:Ua)(d:Int):((hs.map tupH).filter<|enP d).map enF=((hs.filter λa=>decide (d<a.2.2)).map (·.2.2)).map .int:=by
 induction hs with|nil=>rfl|cons a hs ih=>
  simp only[ZQ,ZdK];rw[show enP d (tupH a)=decide (d<a.2.2)from rfl];split
  ·simp only[ZQ,ih];rfl
  ·exact ih
section
variable{k:Nat}{h0 h:IH}{rs:Ub}{cs:Uc}{B O R D L W S:Nat}{s:Bs}{P:IV->IH->Prop}
theorem J4j{gap ln due late d len:Int}{hs:Ua}(hw:h[w]?=Za (.ins "Work"<|wfs name gap ln due late<|hs.map tupH))(l6:hs.length<=6):WR (Jcv (k+2) [.ref w,.int d,.int len] h) λv h'=>v=.int (QM hs d len)/\Ex h h':=by
 have hb:=JD;rw[Jjl];have x1:Ex h (h++[.lst [.int len]]):=.one _ _;refine xfin (xret<|xb<|xb<|xb<|xlst<|Je (arg1 rfl) #[by simp;lia,xb ?_]);refine WR.mono (Jr6 (h:=h++[.lst [.int len]]++[.lst<|hs.map tupH]) (xs:=hs.map tupH) (chk:=λh'=>h'[(h++[IX.lst [IV.int len]]).length]?=Za (.lst<|hs.map tupH)) (p:=enP d) (f:=enF) ?_ (by rw[Zr];lia) (λh2 q=>q _ _ grown) ?_ ?_) ?_
 ·rw[Qx];exact Je (dotE rfl (x1.get hw) flh (Jep _) rfl (Jkh<|x1.get hw))<|(Vb _).mpr #[_,grown,rfl,rfl,rfl]
 ·intro v hv h2 q;obtain⟨a,_,rfl⟩:=Zaj.mp hv;exact Je (gtE (ixtE rfl rfl Vx) rfl) #[rfl,.refl _]
 ·intro v hv _ h2 q;obtain⟨a,_,rfl⟩:=Zaj.mp hv;exact Je (ixtE rfl rfl Vx) #[rfl,.refl _]
 ·rintro _ _ ⟨rfl,g,rfl⟩;rw[J0d];have lf:=ZdE (λa:Hd=>decide (d<a.2.2)) hs;have x2:Ex (h++[.lst [.int len]]) (h++[.lst [.int len]]++[.lst<|hs.map tupH]++.lst (((hs.filter λa=>decide (d<a.2.2)).map (·.2.2)).map .int)::g):=(Ex.one _ _).trans<|.cons _ _ _;refine(Jzc ..).mpr #[_,x2.get grown,_,JH,by simp;lia,?_];refine xb<|Je rfl (Je rfl ?_);rw[Jm5,show[IV.int len]++((hs.filter λa=>decide (d<a.2.2)).map (·.2.2)).map .int=(QL hs d len).map .int from rfl,Jzn grown<|by simp[QL]];exact#[rfl,(x1.trans x2).trans<|.one _ _]
theorem J5c(g:Bg h0 rs cs O R)(ml:∀p∈s.lr,p<cs.length)(b:Bn h0 h B O R D L W S s)(lp:p<cs.length)(ld:s.ds.length=cs.length):WR (Jai (k+3) [.ref B,nI p] h) λv h'=>v=.int (JU rs cs s p)/\Ex h h':=by
 obtain⟨Du,⟨vs,gD,w⟩,fd⟩:=Jk4<|g.o.kp b.x.kp;have ca:(cs.getD p cd).at_<rs.length:=g.c _<|by rw[Zi,Zb lp];exact ZF lp
 have l6:=g.l6 _<|ZF ca;obtain⟨j,ej,gj⟩:=w.get<|Zb ca;have av:atI vs ((cs.getD p cd).at_:Int)=Za (.ref j):=JL ej;have hh:hsN rs cs p=(rs[(cs.getD p cd).at_]).2:=by unfold hsN;rw[Jhy ca]
 rw[<-hh]at l6;rw[Jdy];refine xfin<|xseq<|xset<|Je (ixlE (fldE rfl b.b bf1) rfl (b.x.get g.r) (XW lp))<|xseq<|xset<|Je (ixlE (fldE rfl b.b bf2) rfl b.d (Jwt 05)) ?_;refine xseq<|xset<|xb<|xb<|xb<|Je (dotE (fd _ _<|fldE rfl b.b bf0) gD dlw (Jca _) (arg1<|ixtE rfl rfl QU)<|Jfs gD av)<|xb<|Je (arg2 rfl (ixtE rfl rfl Jws))<|Je rfl ?_;have gj:h[j]?=Za (.ins "Work"<|wfs _ _ _ _ _<|(rs[(cs.getD p cd).at_]).2.map tupH):=gj;rw[<-hh]at gj;refine WR.mono (J4j (k:=k) gj l6) ?_;rintro _ h1 ⟨rfl,x1⟩;have b1:=b.ex x1;refine xb<|Je rfl (Je rfl (xseq<|xifd (gtE (lenE (fldE rfl b1.b bf3) b1.l) rfl) (λc=>?_) λc=>?_))
 ·cases el:s.lr with|nil=>rw[el]at c;exact absurd c 03|cons q lr=>refine xset (Je (minE rfl (subE (nrE g b1 el<|ml q<|by rw[el];simp)<|fldE rfl b1.b bf5))<|xret<|Je rfl #[?_,x1]);unfold JU;rw[el];rfl
 ·refine xnil<|xret<|Je rfl #[?_,x1];have el:s.lr=[]:=by cases el:s.lr with|nil=>rfl|cons q lr=>rw[el]at c;exact absurd 03 c
  unfold JU;rw[el];rfl
theorem J5b(b:Bn h0 h B O R D L W S s)(sl:s.sr.length<100000):WR (Jb0 (k+1) [.ref B,nI p,.int u] h) λv h'=>v=.non/\Bn h0 h' B O R D L W S #[s.ds,s.lr,s.wa,s.t,QY p s.t u s.sr]:=by
 have hb:=JD;have fin:∀{h1:IH}{bg:Int}{r:Wb},Bn h0 h1 B O R D L W S #[s.ds,s.lr,s.wa,s.t,r]->r.length<=s.sr.length->QY p s.t u s.sr=(p,bg,u)::r ->WS (Jci k [Za<|.ref B,Za<|nI p,Za<|.int u,Za<|.int bg] h1) (λ_ h'=>IV.non=.non/\Bn h0 h' B O R D L W S #[s.ds,s.lr,s.wa,s.t,QY p s.t u s.sr]) λv h'=>v=.non/\Bn h0 h' B O R D L W S #[s.ds,s.lr,s.wa,s.t,QY p s.t u s.sr]:=by intro h1 bg r b1 lr et;refine Qq (QQ (fldE rfl b1.b bf6) b1.s VM<|xb<|xtup<|xb<|Je rfl (xb<|Je (arg2 rfl rfl)<|Je rfl #[by simp;lia,xb<|Je rfl (Je rfl (xapp b1.s (by simp;lia) #[rfl,?_]))]));have:=b1.setS<|(p,bg,u)::r;rw[Zbj,ZbN]at this;rw[et];exact this
 rw[Jh0];refine xfin<|xseq<|xset<|Je (fldE rfl b.b bf5)<|xseq<|xif<|Jzw<|Je (gtE (lenE (fldE rfl b.b bf6) b.s) rfl)<|xdec (λc=>?_) λc=>?_
 ·cases es:s.sr with|nil=>rw[es]at c;exact absurd c 03|cons a r=>
   have bs:=b.s;rw[es]at bs;refine Je (eqE (ixtE (ixlE (fldE rfl b.b bf6) rfl bs Jhi) rfl QU) rfl)<|xdec (λc=>?_) λc=>?_
   ·refine xset<|xb<|QQ (fldE rfl b.b bf6) bs Jo3<|Je rfl (xpop (y:=tupS a) bs 03<|xb<|Je rfl (xixt Vw ?_));have e:((a::r).reverse.map tupS).dropLast=r.reverse.map tupS:=03;rw[e];rw[<-es];refine fin (r:=r) (b.setS r) (by rw[es];simp) ?_;rw[es];exact if_pos 05
   ·refine xnil ?_;rw[<-es];refine fin (r:=s.sr) b (Zm _) ?_;rw[es];exact if_neg λz=>c<|by rw[z]
 ·refine#[(λz=>by cases z),λ_=>xnil<|fin (r:=s.sr) b (Zm _) ?_];cases es:s.sr with|nil=>rfl|cons a r=>rw[es]at c;exact absurd 03 c
theorem Jqx{α β:Type}{f:α->β}:∀(l:List α)(j:Nat),(l.map f).eraseIdx j=(l.eraseIdx j).map f|[],_=>rfl|_::_,0=>rfl|a::l,j+1=>congrArg (f a:: ·)<|Jqx l j
theorem Jpu{wa:Tq}{p j:Nat}(e:(wa.map λn:Nat=>(n:Int)).findIdx? (· ==(p:Int))=Za j):wa.eraseIdx j=wa.erase p:=by
 rw[List.findIdx?_map]at e;have e:wa.findIdx? (· ==p)=Za j:=by rw[<-e];congr 1;funext x;show(x==p)=((x:Int)==(p:Int));rw[Zdi,beq_iff_eq,beq_iff_eq];lia
 rw[List.erase_eq_eraseIdx,show List.idxOf? p wa=Za j from e]
theorem J31(g:Bg h0 rs cs O R)(w:Wf cs s)(ne:¬(s.lr=[]/\s.wa=[]))(sl:s.sr.length<100000)(b:Bn h0 h B O R D L W S s):WR (Jba (k+6) [.ref B] h) λv h'=>v=.non/\Bn h0 h' B O R D L W S (Qu rs cs s):=by
 have ll:(s.lr++s.wa).length<=cs.length:=by
  have:=w.nd.length_le_of_subset (l₂:=ZU cs.length) λp hp=>Za0.mpr<|w.mem p hp
  rwa [Zcg]at this
 rw[Z7]at ll;have cn:=g.n;have w1:=w.let;have n1:=Jqu (cs:=cs) ne;rw[Jgj];refine xfin<|xseq<|Qq<|XH rfl b.b bn1 (Jfr _) (Je rfl (WR.mono (J4f (k:=k+2) g (λp hp=>w.mem p<|ZW _ hp) 05 ne b) ?_));rintro _ h1 ⟨rfl,b1⟩;have o1:=g.o.kp b1.x.kp;unfold Qu;have hsl:(letM cs s).sr.length<100000:=sl;generalize letM cs s=s1 at *;refine xseq (xset<|Jnd o1 (fldE rfl b1.b bf0) (by rw[show ∀(a b c:E1)(σ:ISt),Jb a (Jb b<|Jb c Jd) σ h1=(a σ h1).bind λx h1=>((Jb b<|Jb c Jd) σ h1).bind λxs h2=>.ok (x::xs) h2 from λ_ _ _ _=>rfl,fldE rfl b1.b bf1];exact congrArg (λr=>Res.bind r _)<|arg2 (fldE rfl b1.b bf4)<|fldE rfl b1.b bf2)<|WR.mono (Jyh (k:=k) (b1.x.get g.p1) o1 g.l6 g.c (b1.x.get g.r) b1.w b1.d w1.ld n1 λp hp=>w1.mem p<|Zq _ hp) ?_);rintro _ h2 ⟨p,hp,rfl,lm,x2⟩;have ep:=Vv.eq #[hp,lm];have lp:=w1.mem p<|Zq _ hp;have ld:=w1.ld;have b2:=b1.ex x2;refine xseq<|xset<|XH rfl b2.b bn2 (Jdv _) (Je (arg1 rfl)<|WR.mono (J5c (k:=k+2) g (λq hq=>w1.mem q<|ZW _ hq) b2 lp ld) ?_);rintro _ h3 ⟨rfl,x3⟩;have b3:=b2.ex x3;unfold goM;rw[ep];generalize JU rs cs s1 p=n;refine xseq<|Qq<|XH rfl b3.b bn3 (Jhv _) (Je (arg2 rfl (addE (fldE rfl b3.b bf5) rfl))<|WR.mono (J5b (k:=k+4) b3 hsl) ?_);rintro _ h4 ⟨rfl,b4⟩;refine xseq (J5j rfl b4.b bf5 rfl b4.b (by show(7:Nat)<1000;decide) ?_);rw[bft];have b5:Bn h0 _ B O R D L W S #[s1.ds,s1.lr,s1.wa,s1.t+n,QY p s1.t (s1.t+n) s1.sr]:=b4.setT<|s1.t+n;refine xseq (J5k (fldE rfl b5.b bf2) rfl b5.d (Jwt (by show p<s1.ds.length;lia)) 05 rfl b5.d (j:=p) (by rw[Zr];simp[ixN];lia) ?_);have b6:Bn h0 _ B O R D L W S #[s1.ds.set p<|s1.ds.getD p 0+n,s1.lr,s1.wa,s1.t+n,QY p s1.t (s1.t+n) s1.sr]:=b5.setD<|s1.ds.set p<|s1.ds.getD p 0+n;rw[<-List.map_set];refine xifd (eqE (ixlE (fldE rfl b6.b bf2) rfl b6.d (Jwt<|by rw[Zbq];lia))<|ixtE (ixlE (fldE rfl b6.b bf1) rfl (b6.x.get g.r) (XW lp)) rfl Jws) (λc=>?_) λc=>?_
 ·rw[Ye,if_pos #[rfl,05]]at c;have eN:s1.wa.map nI=(s1.wa.map λn:Nat=>(n:Int)).map .int:=by rw[Za2];rfl
  have gw:=b6.w;obtain⟨j,hj⟩:∃j,(s1.wa.map λn:Nat=>(n:Int)).findIdx? (· ==(p:Int))=Za j:=by cases z:(s1.wa.map λn:Nat=>(n:Int)).findIdx? (· ==(p:Int))with|none=>have:=Zev.mp z p<|Zaj.mpr #[p,hp,rfl];simp at this|some j=>exact#[j,rfl]
  refine Qq (QQ (fldE rfl b6.b bf4) gw Jo4<|Je (arg1 rfl)<|xrem (ns:=s1.wa.map λn:Nat=>(n:Int)) (by rw[<-eN];exact gw) hj #[rfl,?_]);have b7:=b6.setW<|s1.wa.erase p;unfold doM;rw[if_pos<|show _=lnN cs p from c,<-eN,Jqx,Jpu hj];exact b7
 ·rw[Ye,if_pos #[rfl,05]]at c;refine xnil #[rfl,?_];unfold doM;rw[if_neg<|show ¬_=lnN cs p from c];exact b6
end
end
section
seal L4.run
section
variable{O R D L W S:Nat}
theorem bp0:putI "order" (.ref O) ([]:Wl)=(bfs O 0 0 0 0 0 0).take 1:=02
theorem bp1:putI "row" (.ref R) ((bfs O 0 0 0 0 0 0).take 1)=(bfs O R 0 0 0 0 0).take 2:=02
theorem bp2:putI "dones" (.ref D) ((bfs O R 0 0 0 0 0).take 2)=(bfs O R D 0 0 0 0).take 3:=02
theorem bp3:putI "later" (.ref L) ((bfs O R D 0 0 0 0).take 3)=(bfs O R D L 0 0 0).take 4:=02
theorem bp4:putI "waiting" (.ref W) ((bfs O R D L 0 0 0).take 4)=(bfs O R D L W 0 0).take 5:=02
theorem bp5:putI "turn" (.int 0) ((bfs O R D L W 0 0).take 5)=(bfs O R D L W 0 0).take 6:=02
theorem bp6:putI "stretches" (.ref S) ((bfs O R D L W 0 0).take 6)=bfs O R D L W 0 S:=02
end
theorem Jqo:∀{ys:Tx}{ks:Tp},(∀y∈ys,mk y h=.ok (.int<|kf y) h)->Q7 mk ys ks h=.ok (ks++ys.map kf) h|[],ks,_=>by simp[Q7]|y::ys,ks,q=>by unfold Q7;rw[q y 03];show Q7 mk ys (ks++[kf y]) h=_;rw[Jqo λz hz=>q z<|Zl _ hz];simp
theorem Jvy:∀p∈lr0 cs,p<cs.length:=λp hp=>by obtain⟨i,hi,rfl⟩:=Zaj.mp hp;have:=Ym _ i hi;lia
theorem J1g(cs:Uc):(ordK (cs.map rdC).reverse cs.length).map (λi=>(rngI 0 (cs.length:Int)).reverse.getD i .non)=(lr0 cs).map nI:=by
 unfold lr0;rw[Za2];refine Zcp λi hi=>?_
 have li:=Ym _ i hi;rw[X3];have l2:i<(((ZU cs.length).map λk=>((k:Nat):Int)).map IV.int).reverse.length:=by simpa using li
 show List.getD (((ZU<|Zdz (cs.length:Int)).map λk=>((k:Nat):Int)).map IV.int).reverse i .non=IV.int ((cs.length-1-i:Nat):Int);rw[ZaO,Zi,Zb l2,ZdS];simp
theorem Jl6(cs:Uc):(lr0 cs).Perm (ZU cs.length):=by
 by_cases n0:cs.length=0
 ·unfold lr0;rw[n0,Je7];exact .refl _
 have:=(Jf2 (cs.map rdC).reverse<|ZaW n0).map λi=>cs.length-1-i
 refine this.trans ?_;have e:(ZU cs.length).map (λi=>cs.length-1-i)=(ZU cs.length).reverse:=by
  refine Zcx 03 λi h1 h2=>?_
  simp[ZdS]
 rw[e];exact Zd9 _
theorem Jx0(cs:Uc):(lr0 cs).Pairwise λp q=>rdN cs p<=rdN cs q:=by
 unfold lr0;rw[List.pairwise_map];refine(Jt9 (cs.map rdC).reverse cs.length).imp_of_mem λ{i j} hi hj h=>?_;have li:=Ym _ i hi;have lj:=Ym _ j hj;have e:∀i,i<cs.length->(cs.map rdC).reverse.getD i 0=rdN cs (cs.length-1-i):=λi li=>by
  have l2:i<(cs.map rdC).reverse.length:=by simpa using li
  unfold rdN;rw[Zi,Zb l2,ZdS,Zi,Zb<|show cs.length-1-i<cs.length by lia];simp
 rwa [e i li,e j lj]at h
theorem wf0(l1:∀c∈cs,1<=c.len):Wf cs (s0 cs):=by
 have zr:∀p,((s0 cs).ds.getD p 0:Int)=0:=λp=>by show(cs.map λ_=>(0:Int)).getD p 0=0;rw[Zi,Zy];cases cs[p]?<;>rfl
 have pm:=Jl6 cs;refine#[by simp[s0],λp hp=>?_,?_,Jx0 cs,λp hp=>?_,λp lp hp=>?_,λp hp=>zr p,λp hp=>?_]
 ·rw[show(s0 cs).lr++(s0 cs).wa=lr0 cs from ZaI _]at hp;exact Jvy p hp
 ·rw[show(s0 cs).lr++(s0 cs).wa=lr0 cs from ZaI _];exact pm.nodup_iff.mpr List.nodup_range
 ·rw[show(s0 cs).lr++(s0 cs).wa=lr0 cs from ZaI _]at hp;have lp:=Jvy p hp;rw[zr];have:1<=lnN cs p:=l1 _<|by rw[Zi,Zb lp];exact ZF lp
  lia
 ·rw[show(s0 cs).lr++(s0 cs).wa=lr0 cs from ZaI _]at hp;exact absurd (pm.mem_iff.mpr<|Za0.mpr lp) hp
 ·cases hp
theorem Wf.step(w:Wf cs s)(ne:¬(s.lr=[]/\s.wa=[])):Wf cs (Qu rs cs s)/\mea rs cs (Qu rs cs s)<mea rs cs s:=by have w1:=w.let;have gt:=Jvw w;have le:=Jx4 rs cs s;obtain⟨p,ip⟩:=Jk6 (rs:=rs) (cs:=cs) (ds:=(letM cs s).ds)<|Jqu (cs:=cs) ne;unfold Qu goM;rw[ip.eq];obtain⟨a,b⟩:=Jga (rs:=rs) gt (w1.z p<|Zq _ ip.1).2;have sl:=Jlf (hsN rs cs p) ((letM cs s).ds.getD p 0)<|lnN cs p;exact#[w1.do ip.1 a 05,Z4 (J1o w1 gt ip.1) le]
theorem Jmr(p:Nat)(t u:Int)(sr:Wb):(QY p t u sr).length<=sr.length+1:=by
 unfold QY;split
 ·simp
 ·split<;>simp
theorem Jmf{s:Bs}(h:s.lr=[]/\s.wa=[]):runM rs cs m s=s:=by cases m with|zero=>rfl|succ m=>exact if_pos h
theorem mea0(l6:∀r∈rs,r.2.length<=6)(hc:∀c∈cs,c.at_<rs.length):mea rs cs (s0 cs)<=8*cs.length:=by
 have e1:((ZU cs.length).map<|V0 rs cs (s0 cs).ds).sum<=((ZU cs.length).map λ_=>6).sum:=Jmk λp hp=>by
  have lp:=Za0.mp hp;have ca:(cs.getD p cd).at_<rs.length:=hc _<|by rw[Zi,Zb lp];exact ZF lp
  have:=l6 _<|ZF ca;refine ZC (ZdE _ _) ?_;unfold hsN;rw[Jhy ca];exact this
 have e2:=ZdE (λp=>decide ((s0 cs).t<rdN cs p)) (s0 cs).lr;have e3:(s0 cs).lr.length=cs.length:=by have:=(Jl6 cs).length_eq;rwa [Zcg]at this
 have e4:((s0 cs).lr++(s0 cs).wa).length=cs.length:=by rw[show(s0 cs).lr++(s0 cs).wa=(s0 cs).lr from ZaI _];exact e3
 rw[List.map_const',List.sum_replicate_nat,Zcg]at e1;unfold mea;lia
theorem Jxd:(finM rs cs).sr.length<=8*cs.length:=by
 have:∀(m:Nat)(s:Bs),(runM rs cs m s).sr.length<=s.sr.length+m:=by
  intro m;induction m with|zero=>intro s;exact Zm _|succ m ih=>
   intro s;unfold runM;split
   ·lia
   ·have h1:=ih<|Qu rs cs s;have h2:(Qu rs cs s).sr.length<=s.sr.length+1:=Jmr _ _ _ _;lia
 have:=this (8*cs.length)<|s0 cs;have e:(s0 cs).sr.length=0:=rfl;unfold finM;lia
theorem ds0(cs:Uc)(p:Nat):(s0 cs).ds.getD p 0=0:=by show(cs.map λ_=>(0:Int)).getD p 0=0;rw[Zi,Zy];cases cs[p]?<;>rfl
section
variable{k:Nat}{h:IH}{rs:Ub}{cs:Uc}{O R:Nat}
theorem Jxr(g:Bg h rs cs O R)(t0:h[1]?=Za (.tab "Bench.__init__"))(n64:cs.length<64):WR (Jbz (k+2) [.ref h.length,.ref O,.ref R]<|h++[.ins "Bench" []]) λv h'=>v=.non/\∃D L W S,Bn h h' h.length O R D L W S (s0 cs):=by
 have hb:=JD;rw[Jhz];refine xfin<|xseq<|Vd rfl rfl grown 01 ?_;rw[bp0,Yr];refine xseq (Vd rfl rfl grown (by show(1:Nat)<1000;decide) ?_);rw[bp1,Yr];have x1:Ex h (h++[.ins "Bench"<|(bfs O R 0 0 0 0 0).take 2]):=.one _ _;have g1:(h++[IX.ins "Bench"<|(bfs O R 0 0 0 0 0).take 2])[h.length]?=Za (.ins "Bench"<|(bfs O R 0 0 0 0 0).take 2):=grown;generalize h++[IX.ins "Bench"<|(bfs O R 0 0 0 0 0).take 2]=h1 at x1 g1;refine xseq ?_;rw[VZ];refine WR.mono (Vs (h:=h1) (xs:=cs.map tupC) (chk:=λh'=>h'[R]?=Za (.lst<|cs.map tupC)) (f:=λ_=>.int 0) ?_ (by rw[Zr];lia) (λh2 q=>q _ _<|x1.get g.r) λv hv h2 q=>Je rfl #[rfl,.refl _]) ?_
 ·rw[Qx];exact Je rfl ((Vb _).mpr #[_,x1.get g.r,rfl,rfl,rfl])
 rintro _ _ ⟨rfl,gg,rfl⟩;have lt1:=J6 g1;refine Je rfl #[_,_,_,rfl,grow g1,by show(2:Nat)<1000;decide,?_];rw[bp2];have x2:=Vh (i:=h.length) (o:=.ins "Bench"<|(bfs O R h1.length 0 0 0 0).take 3) (x1.trans<|Ex.cons h1 (.lst<|(cs.map tupC).map λ_=>.int 0) gg)<|Zm _;have g2:=Qg (o':=.ins "Bench"<|(bfs O R h1.length 0 0 0 0).take 3)<|grow g1 (g:=.lst ((cs.map tupC).map λ_=>.int 0)::gg);have d2:=Jw (i:=h.length) (o':=.ins "Bench"<|(bfs O R h1.length 0 0 0 0).take 3) (JH (h:=h1) (o:=.lst<|(cs.map tupC).map λ_=>.int 0) (g:=gg)) 05;generalize h1.length=D at *;generalize (h1++IX.lst ((cs.map tupC).map λ_=>.int 0)::gg).set h.length (.ins "Bench"<|(bfs O R D 0 0 0 0).take 3)=h2 at x2 g2 d2;have ks:Q7 (λv h'=>Xd (k+1) [Za v,Za<|.ref R] h') (rngI 0 (cs.length:Int)) [] h2=.ok (cs.map rdC) h2:=by
  have:=Jqo (mk:=λv h'=>Xd (k+1) [Za v,Za<|.ref R] h') (kf:=λv=>match v with|.int p=>rdN cs p.toNat|_=>0) (h:=h2) (ys:=rngI 0 (cs.length:Int)) (ks:=[]) λy hy=>by rw[X3,ZaO,Za2]at hy;obtain⟨p,hp,rfl⟩:=Zaj.mp hy;have lp:=Za0.mp hp;show Xd (k+1) [Za<|nI p,Za<|.ref R] h2=.ok (.int<|rdN cs<|Zdz (p:Int)) h2;rw[ZaO];exact J4 (arg1<|ixlE rfl rfl (x2.get g.r) (XW lp)) Jmd
  rw[this,Zbr,X3,ZaO,Za2,Za2];congr 1;refine Zcx 03 λi h1 h2=>?_
  have li:i<cs.length:=by simpa using h2
  simp only[ZaD,Zeu,Function.comp,ZaO,rdN];rw[Zi,Zb li];rfl
 have es:XZ "Bench.__init__" 1 [2] (Jb (eCB (on1 lenI)<|Jb 'c' Jd) Jd) (Xd<|k+1) [Za<|.ref h.length,Za<|.ref O,Za<|.ref R] h2=.ok (.ref h2.length) (h2++[.lst<|(lr0 cs).reverse.map nI]):=by unfold XZ;rw[arg1<|lenE rfl (x2.get g.r),Zr];show(match [IV.int (cs.length:Int)],h2[1]? with|[.int n],Za (.tab q')=>_|_,_=>_)=_;rw[x2.get t0];show(if _ then _ else _)=_;rw[if_pos #[rfl,05,05]];show(Q7 (λv h'=>Xd (k+1) [Za v,Za<|.ref R] h') (rngI 0 (cs.length:Int)) [] h2).bind _=_;rw[ks];show Yt Zh (rngI 0 (cs.length:Int)).reverse (cs.map rdC).reverse h2=_;unfold Yt;rw[show(rngI 0 (cs.length:Int)).reverse.length=cs.length by rw[Zcn,X3];simp,J1g,List.map_reverse];rfl
 refine xseq (Vd es rfl (grow g2) (by show(3:Nat)<1000;decide) ?_);rw[bp3];have lt2:=J6 d2;have x3:=Vh (i:=h.length) (o:=.ins "Bench"<|(bfs O R D h2.length 0 0 0).take 4) (x2.trans<|Ex.one h2<|.lst<|(lr0 cs).reverse.map nI)<|Zm _;have g3:=Qg (o':=.ins "Bench"<|(bfs O R D h2.length 0 0 0).take 4)<|grow g2 (g:=[.lst<|(lr0 cs).reverse.map nI]);have d3:=Jw (i:=h.length) (o':=.ins "Bench"<|(bfs O R D h2.length 0 0 0).take 4) (grow d2 (g:=[.lst<|(lr0 cs).reverse.map nI])) 05;have l3:=Jw (i:=h.length) (o':=.ins "Bench"<|(bfs O R D h2.length 0 0 0).take 4) (grown (h:=h2) (o:=.lst<|(lr0 cs).reverse.map nI)) 05;generalize h2.length=L at *;generalize (h2++[IX.lst<|(lr0 cs).reverse.map nI]).set h.length (.ins "Bench"<|(bfs O R D L 0 0 0).take 4)=h3 at x3 g3 d3 l3;have lt3:=J6 l3;refine xseq ?_;rw[VZ];refine xlst (Je rfl #[ZA _,Je rfl #[_,_,_,rfl,grow g3,by show(4:Nat)<1000;decide,?_]]);rw[bp4];refine xseq (Vd rfl rfl (Qg<|grow g3) (by show(5:Nat)<1000;decide) ?_);rw[bp5,Zfg];unfold Jch;rw[VZ];refine xlst (Je rfl #[ZA _,Je rfl #[_,_,_,rfl,grow<|Qg<|grow g3,by show(6:Nat)<1000;decide,rfl,?_]]);rw[bp6];have sw:=grown (h:=h3) (o:=.lst []);have lw:=J6 sw;rw[Z7,Zbn]at lw;have ln:(List.set (h3++[IX.lst []]) h.length<|.ins "Bench"<|(bfs O R D L h3.length 0 0).take 6).length=h3.length+1:=by rw[Zbq,Z7,Zbn]
 refine#[D,L,h3.length,_,Vh ((Vh (x3.trans<|.one _ _)<|Zm _).trans<|.one _ _)<|Zm _,#[Zm _,05,05,05,05],Qg<|grow<|Qg<|grow g3,Jw (grow<|Jw (grow ?_) 05) 05,Jw (grow<|Jw (grow l3) 05) 05,Jw (grow<|Jw sw 05) 05,Jw grown 05];rw[d3];simp[s0]
theorem J2c(g:Bg h rs cs O R)(t0:h[1]?=Za (.tab "Bench.__init__"))(L:Legal rs cs)(n64:cs.length<64):
  WR (Jwp (k+7) [.ref O,.ref R] h) λv h'=>∃j,v=.ref j/\h.length<=j/\h'[j]?=Za (.lst<|(finM rs cs).sr.reverse.map tupS)/\Ex h h':=by
 obtain⟨Du,du,fd⟩:=Jk4 g.o;have w0:Wf cs (s0 cs):=wf0 λc hc=>(L.ok c hc).n1
 rw[J0k];refine xfin<|xseq<|Qq<|xb<|Je (arg2 (fd _ _ rfl) rfl)<|WR.mono (Jz5 (k:=k+1) du g.r L g.n) ?_;rintro _ h1 ⟨rfl,x1⟩;have g1:Bg h1 rs cs O R:=#[g.o.kp x1.kp,x1.get g.r,g.c,g.l6,x1.get g.p1,g.n];refine xseq<|xset ?_;rw[Jis];refine Je (arg2 rfl rfl)<|WR.mono (Jxr (k:=k+4) g1 (x1.get t0) n64) ?_;rintro _ h2 ⟨rfl,D,La,W,S,b0⟩;refine#[rfl,xseq ?_];have m0:=mea0 g.l6 g.c;have cn:=g.n;refine Jiv (λm σ h'=>∃s,σ=[Za<|.ref O,Za<|.ref R,Za<|.ref h1.length]/\Bn h1 h' h1.length O R D La W S s/\Wf cs s/\mea rs cs s<=m/\s.sr.length+m<=8*cs.length/\runM rs cs m s=finM rs cs) ?_ (show 8*cs.length<1000000 by lia) #[s0 cs,rfl,b0,w0,m0,by simp[s0],rfl];rintro m _ h3 ⟨s,rfl,b,w,lm,ls,er⟩;refine Je (gtE (addE (lenE (fldE rfl b.b bf3) b.l)<|lenE (fldE rfl b.b bf4) b.w) rfl)<|xdec (λc=>?_) λc=>?_
 ·have ne:¬(s.lr=[]/\s.wa=[]):=λ⟨a,z⟩=>by rw[a,z]at c;exact absurd c 03
  obtain⟨w1,lt⟩:=w.step (rs:=rs) ne;cases m with|zero=>lia|succ m=>
   refine#[m,rfl,Qq<|XH rfl b.b bn4 (Jgh _) (Je rfl (WR.mono (J31 (k:=k) g1 w ne 05 b) ?_))];rintro _ h4 ⟨rfl,b4⟩;refine#[_,rfl,b4,w1,05,?_,?_]
   ·have:=Jmr (Xy rs cs (letM cs s).ds (letM cs s).wa) (letM cs s).t ((letM cs s).t+JU rs cs (letM cs s) (Xy rs cs (letM cs s).ds (letM cs s).wa)) s.sr;have:(Qu rs cs s).sr.length<=s.sr.length+1:=this;lia
   ·rw[<-er];exact(if_neg ne).symm
 ·have ne:s.lr=[]/\s.wa=[]:=by simp only[Zr,Zcn]at c;exact#[Zcy.mp 05,Zcy.mp 05]
  rw[Jmf ne]at er;refine xret<|Je (fldE rfl b.b bf6) #[S,rfl,?_,?_,x1.trans b.x]
  ·have:=b.ap;have:=J6 b0.b;obtain⟨gg,rfl⟩:=x1;rw[Z7]at *;lia
  ·rw[<-er];exact b.s
end
end
section
seal L4.run L4.WS L4.WR
theorem Legal.snoc(L:Legal rs cs)(ok:COk rs c)(far:∀a∈cs,a.at_=c.at_->a.come+(rs[c.at_]'ok.at_).1.gap<=c.come):Legal rs (cs++[c]):=by
 refine#[λx hx=>?_,λi j a b lt ea eb e r er=>?_]
 ·rcases ZK.mp hx with h|h
  ·exact L.ok x h
  ·rw[Z9.mp h];exact ok
 ·have hj:=(Zs.mp eb).1;rw[Z7,Zbn]at hj;have hi:i<cs.length:=05;rw[ZI hi]at ea;by_cases hj':j<cs.length
  ·rw[ZI hj']at eb;exact L.far i j a b lt ea eb e r er
  ·have:j=cs.length:=05;subst this;rw[ZE<|Zm _,Zec]at eb;cases eb;have:=far a (ZcJ ea) e;rw[e,Zb ok.at_]at er;cases er;exact this
theorem Legal.nil:Legal rs []:=#[(λc hc=>by cases hc),λi j a b _ e=>by cases e]
theorem pk(xs:Tp)(hn:(xs.length:Int)=n)(h0:0<n):∃x∈xs,atI (xs.map IV.int) (y%n)=Za (.int x):=by have a:=ZaJ y (b:=n) 05;have b:=Za1 y h0;have l:(y%n).toNat<xs.length:=05;exact#[xs[(y%n).toNat],ZF l,Jou a<|by rw[Zy,Zb l];rfl]
theorem Jlx{h h0:IH}{it:I1}{e:E1}{js:Tq}{σ:ISt}{xs:Tx}{chk:IH->Prop}{f:IV->IV}(hit:WR (it σ h0) λJ h1=>J.xs=xs/\J.chk=chk/\h1=h)(hl:xs.length<sizeLine) (hc:∀h2:IH,(∀(j:Nat)(ob:IX),h[j]?=Za ob->h2[j]?=Za ob)->chk h2) (he:∀x∈xs,∀h2:IH,(∀(j:Nat)(ob:IX),h[j]?=Za ob->h2[j]?=Za ob)->WR (e (Za x::js.map λj=>(σ[j]?).join) h2) λv h3=>v=f x/\Ex h2 h3):∃g,Js it 1 js (gNm 0) JA e σ h0=.ok (.ref h.length) (h++.lst (xs.map f)::g):=by obtain⟨v,h3,e,rfl,g,rfl⟩:=(Vs hit hl hc he).eq;exact#[g,e]
section
variable{k:Nat}{h:IH}{S C:Nat}{rs:Ub}{unit:Int}
structure Nx(rs:Ub)(cs:Uc)(nx:Tp):Prop where
 len:nx.length=rs.length
 nn:∀x∈nx,0<=x
 far:∀a∈cs,∀r,rs[a.at_]?=Za r->a.come+r.1.gap<=nx.getD a.at_ 0
inductive RwI(h:IH)(C S:Nat)(rs:Ub)(n:Nat):ISt->IH->Prop|mk {cs:Uc}{nx:Tp}{ba:Int}{a5 a6 a7 a8 a9 b0 b1 b2 b3 b4 b5:Te}{h':IH}(g1:h'[h.length]?=Za (.lst (cs.map tupC))) (g2:h'[h.length+1]?=Za (.lst (nx.map .int))) (k1:Kp h h') (lc:cs.length=n) (L:Legal rs cs) (N:Nx rs cs nx):RwI h C S rs n [Za<|.ref C,Za<|.ref S,Za<|.ref h.length,Za<|.ref<|h.length+1,Za<|.int ba,a5,a6,a7,a8,a9,b0,b1,b2,b3,b4,b5] h'
theorem J2a(G:Gd unit rs)(pos:0<rs.length)(hS:h[S]?=Za (.lst<|rs.map tp4)){cells:Tp}(hC:h[C]?=Za (.lst<|cells.map .int))(hc:cells.length<=14):
  WR (Jff (k+2) [.ref C,.ref S] h) λv h'=>∃cs,v=.ref h.length/\h'[h.length]?=Za (.lst<|cs.map tupC)/\Legal rs cs/\cs.length<=14/\Ex h h':=by
 have hb:=JD;have few:=G.few;rw[Jnr];have rl:(rs.map tp4).length=rs.length:=Zr ..;have Y:=@Jlx (h++[IX.lst []]) (h++[IX.lst []]) (Jy 'b') (Jdl<|k+1) [] [Za<|.ref C,Za<|.ref S,Za<|.ref h.length,Zd,Zd,Zd,Zd,Zd,Zd,Zd,Zd,Zd,Zd,Zd,Zd,Zd] (rs.map tp4) (λh'=>h'[S]?=Za (.lst<|rs.map tp4)) (λ_=>.int 0)
  (by rw[Qx];exact Je rfl ((Vb _).mpr #[_,grow hS,rfl,rfl,rfl])) 05 (λh2 z=>z _ _<|grow hS) λx hx h2 z=>Je rfl #[rfl,.refl _]
 refine xfin<|xseq<|xset<|Je (lstE rfl rfl)<|xseq<|xset ?_;generalize hcc:Js _ _ _ _ _ _ _ _=rc at Y;obtain⟨g,rfl⟩:=Y;refine Je hcc ?_;clear hcc;rw[show(rs.map tp4).map (λ_=>IV.int 0)=(rs.map λ_=>(0:Int)).map IV.int by rw[Za2,Za2];rfl];have l1:(h++[IX.lst []]).length=h.length+1:=03;have gM:(h++[IX.lst []]++IX.lst ((rs.map λ_=>(0:Int)).map IV.int)::g)[h.length]?=Za (.lst []):=(Ex.cons _ _ _).get grown;have gN:(h++[IX.lst []]++IX.lst ((rs.map λ_=>(0:Int)).map IV.int)::g)[h.length+1]?=Za (.lst<|(rs.map λ_=>(0:Int)).map IV.int):=by rw[<-l1];exact JH
 have x0:Ex h (h++[IX.lst []]++IX.lst ((rs.map λ_=>(0:Int)).map IV.int)::g):=(Ex.one _ _).trans<|.cons _ _ _;rw[l1];generalize h++[IX.lst []]++IX.lst ((rs.map λ_=>(0:Int)).map IV.int)::g=h0 at gM gN x0 ⊢;refine xseq<|xset<|Je rfl (xseq<|xfor ?_);rw[Qx];refine Je rfl ((Vb _).mpr #[_,x0.get hC,?_]);refine Vc (RwI h C S rs) (λn σ h' z=>by obtain⟨_,_,kp,_⟩:=z;exact kp _ _ hC) ?_ ?_ (.mk (cs:=[]) gM gN x0.kp rfl .nil #[03,(λx hx=>by obtain⟨_,_,rfl⟩:=Zaj.mp hx;exact ZJ _),λa ha=>by cases ha])
 ·rintro n hn _ h1 (@⟨cs,nx,ba,a5,a6,a7,a8,a9,b0,b1,b2,b3,b4,b5,_,g1,g2,k1,lc,Lg,N⟩);rw[Zr]at hn;rw[ZaD];refine xnx rfl (xseq<|xset<|xb<|Je (arg2 rfl rfl)<|WR.mono (Jkc (k:=k) (h:=h1) cells[n] 6 01) ?_);rintro _ h2 ⟨i,xs,rfl,li,hi,lx,hx,x2⟩;have li:h.length+1<i:=Z4 (J6 g2) li;clear hx;have at_:∀n:Nat,n<6->∃x,atI (xs.map IV.int) (n:Int)=Za (.int x):=λn hn=>at_x 05
  obtain⟨y0,e0⟩:=at_ 0 01;obtain⟨y1,e1⟩:=at_ 1 01;obtain⟨y2,e2⟩:=at_ 2 01;obtain⟨y3,e3⟩:=at_ 3 01;obtain⟨y4,e4⟩:=at_ 4 01;obtain⟨y5,e5⟩:=at_ 5 01;clear at_;have g1:=x2.get g1;have g2:=x2.get g2;have k2:=k1.trans x2.kp;clear x2 k1;have r0:=ZaJ y0 (b:=rs.length) 05;have r1:=Za1 y0 (b:=rs.length) 05;obtain⟨j,ej,lj⟩:∃j:Nat,y0%(rs.length:Int)=(j:Int)/\j<rs.length:=#[(y0%(rs.length:Int)).toNat,05,05];have f:=G.f _<|ZF lj;have f1:=f.g1;have f2:=f.l1;have f3:=f.t1;have u1:=G.u1;have er:=Zb lj;have ea:atI (rs.map tp4) (j:Int)=Za (tp4 rs[j]):=JL<|by rw[Zy,er];rfl
  have nl:=N.len;have en:atI (nx.map IV.int) (j:Int)=Za (.int<|nx.getD j 0):=JL<|by rw[Zy,Zi,Zb 05];rfl
  have n0:0<=nx.getD j 0:=by rw[Zi,Zb<|show j<nx.length by lia];exact N.nn _<|ZF _
  have ok0:∀(c l e:Int),0<=c->0<=l->l<=(rs[j]).1.late->1<=e->e<=(rs[j]).1.len->COk rs #[j,c,l,e]:=λc l e a b d e f=>#[lj,a,b,d,e,f]
  have fr:∀a∈cs,a.at_=j->a.come+(rs[j]).1.gap<=nx.getD j 0:=λa ha e=>by
   have:=N.far a ha _<|by rw[e];exact er
   rwa [e]at this
  generalize hr:rs[j]=r at ea f f1 f2 f3 er ok0 fr;refine xseq (xset<|Je (okc (modE (ixlE rfl rfl hi e0) ((lenE rfl (k2 _ _ hS)).trans<|by rw[rl]) 05)<|congrArg IV.int ej)<|xseq<|(XG ..).mpr<|Je (ixlE rfl rfl (k2 _ _ hS) ea)<|xnx rfl ?_);obtain⟨d,_,ed⟩:=pk (n:=4) (y:=y2) [0,0,y1%3,y1%(r.1.gap+1)] rfl 01;refine xseq<|xset<|Je (addE rfl (pkE (arg4 rfl rfl (modE (ixlE rfl rfl hi e1) rfl 01) (modE (ixlE rfl rfl hi e1) (addE rfl rfl) 05)) rfl (modE (ixlE rfl rfl (grow hi) e2) rfl 01) ed)) ?_;generalize IX.lst _=o1;generalize ba+d=tu;have hi1:(h2++[o1])[i]?=_:=grow hi;have g21:(h2++[o1])[h.length+1]?=_:=grow g2;have mx:∀{a b:Int},a<=(if b>a then b else a):=λ{a b}=>by split<;>lia
  refine xseq<|xset<|Je (maxE (ixlE rfl rfl g21 en)<|subE rfl (mulE (modE (Qj (ixlE rfl rfl hi1 e2) rfl 01 01) rfl 01) rfl (.inl 05))) ?_;have c1:=mx (a:=nx.getD j 0) (b:=tu-y2/4%2*r.1.late);generalize (if tu-_>nx.getD j 0 then _ else _)=come at c1 ⊢;obtain⟨be,hbe,ebe⟩:=pk (n:=4) (y:=y4) [0,r.1.late,if (if tu-come<r.1.late then tu-come else r.1.late)>0 then(if tu-come<r.1.late then tu-come else r.1.late)else 0,y3%(r.1.late+1)] rfl 01;have q1:=ZaJ y3 (b:=r.1.late+1) 05;have q2:=Za1 y3 (b:=r.1.late+1) 05;have hbe:0<=be/\be<=r.1.late:=by
   simp only[ZB,Zai,or_false]at hbe;rcases hbe with e|e|e|e
   ·lia
   ·lia
   ·rw[e];split
    ·split<;>lia
    ·lia
   ·lia
  refine xseq<|xset<|Je (pkE (arg4 rfl rfl (maxE rfl (minE rfl (subE rfl rfl))) (modE (ixlE rfl rfl hi1 e3) (addE rfl rfl) 05)) rfl (modE (ixlE rfl rfl (grow hi1) e4) rfl 01) ebe) ?_;generalize IX.lst _=o2;have hi2:(h2++[o1]++[o2])[i]?=_:=grow hi1;obtain⟨le,hle,ele⟩:=pk (n:=3) (y:=y4/4) [r.1.len,r.1.len,1+y5%r.1.len] rfl 01;have q3:=ZaJ y5 (b:=r.1.len) 05;have q4:=Za1 y5 (b:=r.1.len) 05;have hle:1<=le/\le<=r.1.len:=by simp only[ZB,Zai,or_false]at hle;lia
  refine xseq<|xset<|Je (pkE (arg3 rfl rfl (addE rfl (modE (ixlE rfl rfl hi2 e5) rfl 05))) rfl (modE (Qj (ixlE rfl rfl (grow hi2) e4) rfl 01 01) rfl 01) ele) ?_;generalize IX.lst _=o3;have x3:Ex h2 (h2++[o1]++[o2]++[o3]):=((Ex.one _ _).trans<|.one _ _).trans<|.one _ _;have g13:=x3.get g1;have g23:=x3.get g2;have k3:=k2.trans x3.kp;generalize h2++[o1]++[o2]++[o3]=h3 at x3 g13 g23 k3 ⊢;refine xseq (Qq<|QQ rfl g13 VM (Je (arg1<|tupE (arg4 rfl rfl rfl rfl) rfl)<|xapp g13 (by rw[Zr];lia) ?_));have g14:(h3.set h.length<|.lst<|cs.map tupC++[tupC #[j,come,be,le]])[h.length]?=Za (.lst<|(cs++[(#[j,come,be,le]:Cm)]).map tupC):=by rw[Qg g13,ZbN];rfl
  have g24:(h3.set h.length<|.lst<|cs.map tupC++[tupC #[j,come,be,le]])[h.length+1]?=Za (.lst<|nx.map .int):=Jw g23 05;have k4:Kp h (h3.set h.length<|.lst<|cs.map tupC++[tupC #[j,come,be,le]]):=λa o e=>Jw (k3 _ _ e) (by have:=J6 e;lia)
  generalize h3.set h.length (.lst<|cs.map tupC++[tupC #[j,come,be,le]])=h4 at g14 g24 k4 ⊢;have ok:=ok0 come be le 05 hbe.1 hbe.2 hle.1 hle.2;have Lg':Legal rs (cs++[#[j,come,be,le]]):=Lg.snoc ok λa ha e=>by have:=fr a ha e;show a.come+(rs[j]).1.gap<=come;rw[hr];lia
  have N':Nx rs (cs++[#[j,come,be,le]]) (nx.set j<|come+r.1.gap):=by
   refine#[by rw[Zbq];exact nl,λx hx=>?_,λa ha r' er'=>?_]
   ·rcases List.mem_or_eq_of_mem_set hx with z|z
    ·exact N.nn x z
    ·lia
   ·rw[Zi];by_cases z:j=a.at_
    ·rw[z,ZO 05];rw[<-z,er]at er';cases er';rcases ZK.mp ha with m|m
     ·have:=fr a m z.symm;show _<=come+_;lia
     ·rw[Z9.mp m];exact ZJ _
    ·rw[ZX z,<-Zi];rcases ZK.mp ha with m|m
     ·exact N.far a m r' er'
     ·rw[Z9.mp m]at z;exact absurd rfl z
  have ix:ixN (nx.map IV.int).length (j:Int)=Za j:=by unfold ixN;rw[Zr];simp;lia
  refine xseq<|(XG ..).mpr<|Je (addE rfl rfl)<|(J3e ..).mpr<|Je rfl (Je rfl ((Jzt ..).mpr #[_,g24,j,ix,?_]));have g25:(h4.set (h.length+1)<|.lst<|(nx.map IV.int).set j<|.int<|come+r.1.gap)[h.length+1]?=Za (.lst<|(nx.set j<|come+r.1.gap).map .int):=by rw[Qg g24,List.map_set]
  exact xset (Je (maxE rfl rfl)<|.mk (Jw g14<|show h.length+1≠h.length by lia) g25 (λa o e=>Jw (k4 _ _ e) (by have:=J6 e;lia)) (by rw[Z7,lc];rfl) Lg' N')
 ·rintro _ h1 (@⟨cs,nx,ba,a5,a6,a7,a8,a9,b0,b1,b2,b3,b4,b5,_,g1,g2,k1,lc,Lg,N⟩);rw[Zr]at lc;exact xret<|Je rfl #[cs,rfl,g1,Lg,05,Yb k1]
end
end
abbrev St3:=Nat×Int×Int
abbrev _root_.Tu:=List St3
def sumP(p:Nat)(l:Tu):Int:=(l.map λa=>if a.1=p then a.2.2-a.2.1 else 0).sum
theorem VC:sumP p (a::l)=(if a.1=p then a.2.2-a.2.1 else 0)+sumP p l:=by simp[sumP]
theorem Ju8{s:Bs}(w:s.lr.Pairwise λp q=>rdN cs p<=rdN cs q)(hq:q∈s.lr):JU rs cs s p<=rdN cs q-s.t:=by
 unfold JU;cases e:s.lr with|nil=>rw[e]at hq;cases hq|cons a r=>
  rw[e]at hq w;have:rdN cs a<=rdN cs q:=by
   rcases ZB.mp hq with rfl|hq
   ·exact ZJ _
   ·exact(ZaV.mp w).1 q hq
  dsimp only;split<;>lia
def duN(rs:Ub)(cs:Uc)(p:Nat):Int:=duC rs<|cs.getD p cd
def dnS(rs:Ub)(cs:Uc)(b d:Int)(f:Nat->Int):Int:=((ZU cs.length).map λq=>if b<=rdN cs q/\duN rs cs q<=d then f q else 0).sum
theorem Jio{f g:Nat->Int}:∀(l:Tq),(∀q∈l,f q<=g q)->(l.map f).sum<=(l.map g).sum
 |[],_=>ZJ _
 |a::l,h=>by
  have:=Jio l λq hq=>h q<|Zl _ hq
  have:=h a Z2;simp only[ZQ,ZbE];lia
theorem Jru{f g:Nat->Int}{p:Nat}{n:Int}:∀(l:Tq),l.Nodup->p∈l->(∀q∈l,q≠p->g q=f q)->g p=f p+n->(l.map g).sum=(l.map f).sum+n
 |[],_,h,_,_=>by cases h
 |a::l,nd,h,e1,e2=>by
  obtain⟨na,nl⟩:=Zc7.mp nd;simp only[ZQ,ZbE];by_cases z:p=a
  ·subst z;rw[e2,Zcp λq hq=>e1 q (Zl _ hq) λe=>na<|e▸hq];lia
  ·rcases ZB.mp h with h|h
   ·exact absurd h z
   ·rw[Jru l nl h (λq hq=>e1 q<|Zl _ hq) e2,e1 a Z2<|ZP z];lia
def Bz(rs:Ub)(cs:Uc)(s:Bs)(d:Int):Prop:=∃b,(∃c,c<cs.length/\rdN cs c=b)/\s.t-b<=dnS rs cs b d (λq=>s.ds.getD q 0)/\∀q∈s.wa,duN rs cs q<=d->b<=rdN cs q
structure Sv(rs:Ub)(cs:Uc)(s:Bs):Prop where
 tl:∀a r,s.sr=a::r->a.2.2=s.t
 ea:∀a∈s.sr,a.1<cs.length/\rdN cs a.1<=a.2.1/\a.2.1<a.2.2/\0<s.ds.getD a.1 0
 pw:s.sr.Pairwise λa b=>b.2.2<=a.2.1
 sm:∀p,p<cs.length->sumP p s.sr=s.ds.getD p 0
 lt:∀p∈s.lr,s.t<=rdN cs p
 bz:∀d,(∃q∈s.wa,duN rs cs q<=d)->Bz rs cs s d
 -- where nothing is too full,nobody is late
 ot:(∀b d,(∃c,c<cs.length/\rdN cs c=b)->dnS rs cs b d (lnN cs)<=d-b∨∀q,q<cs.length->b<=rdN cs q->d<duN rs cs q)->∀a∈s.sr,a.2.2<=duN rs cs a.1
theorem Sv.step{cs:Uc}(l1:∀q,q<cs.length->1<=lnN cs q)(w:Wf cs s)(ne:¬(s.lr=[]/\s.wa=[]))(v:Sv rs cs s):Sv rs cs (Qu rs cs s):=by
 have w1:=w.let;have gt:=Jvw w;have tg:=Jrv cs s;obtain⟨p,ip⟩:=Jk6 (rs:=rs) (cs:=cs) (ds:=(letM cs s).ds)<|Jqu (cs:=cs) ne;have hp:=ip.1;unfold Qu goM;rw[ip.eq];have zp:=w1.z p<|Zq _ hp;have lp:=w1.mem p<|Zq _ hp;have rp:rdN cs p<=tIn cs s:=w1.rw p hp;obtain⟨n0,n1⟩:=Jga (rs:=rs) gt zp.2;have n2:=λq hq=>Ju8 (rs:=rs) (p:=p) w1.srt (q:=q) hq
 have sl:=Jlf (hsN rs cs p) (s.ds.getD p 0)<|lnN cs p;generalize JU rs cs (letM cs s) p=n at n0 n1 n2;have n1:s.ds.getD p 0+n<=QM (hsN rs cs p) (s.ds.getD p 0) (lnN cs p):=n1;have n2:∀q∈(letM cs s).lr,n<=rdN cs q-tIn cs s:=n2;have zp:0<=s.ds.getD p 0/\_:=zp;have ld:=w.ld;have gd:∀q,(doM rs cs (letM cs s) p n).ds.getD q 0=if p=q then s.ds.getD p 0+n else s.ds.getD q 0:=λq=>by
  show(s.ds.set p _).getD q 0=_;rw[Ye];by_cases e:p=q
  ·subst e;rw[if_pos #[rfl,05],if_pos rfl];rfl
  ·rw[if_neg λz=>e z.1,if_neg e]
 obtain⟨cc,e1,e2,e3,_⟩:=X1 cs (tIn cs s) s.lr s.wa;have e2:(letM cs s).wa=s.wa++cc:=e2
 -- who has just come in is ready just now
 have new:∀q∈s.lr,rdN cs q<=tIn cs s->rdN cs q=tIn cs s:=λq hq l=>by
  have h1:=v.lt q hq;unfold tIn at l ⊢;split
  ·rename_i x xs ew el;simp only[ew,el]at l;have srt:=w.srt;rw[el]at srt hq;have:rdN cs x<=rdN cs q:=by
    rcases ZB.mp hq with rfl|hq
    ·exact ZJ _
    ·exact(ZaV.mp srt).1 q hq
   split at l
   ·rw[if_pos<|by assumption];lia
   ·rw[if_neg<|by assumption];lia
  ·rename_i h;split at l
   ·rename_i x xs ew el;exact absurd el<|h _ _ ew
   ·lia
 have sub:∀q∈(doM rs cs (letM cs s) p n).wa,q∈(letM cs s).wa:=λq hq=>by
  have hq:q∈if s.ds.getD p 0+n=lnN cs p then(letM cs s).wa.erase p else(letM cs s).wa:=hq
  split at hq
  ·exact Zfz hq
  ·exact hq
 -- nobody who waits is due ahead of p
 have due:∀q∈(letM cs s).wa,duN rs cs p<=duN rs cs q:=λq hq=>by
  have h:=ip.2 q hq;change ltL [duN rs cs q,1,(q:Int)] [duN rs cs p,1,(p:Int)]=Zj at h;unfold ltL at h;by_cases e:duN rs cs q=duN rs cs p
  ·lia
  ·rw[if_neg e,decide_eq_false_iff_not]at h;lia
 have nn:∀q,q<cs.length->0<=s.ds.getD q 0/\s.ds.getD q 0<=lnN cs q:=λq lq=>by
  by_cases m:q∈s.lr++s.wa
  ·have:=w.z q m;lia
  ·have h:=w.dn q lq m;have z:=l1 q lq;lia
 -- the step keeps those due by d,or ends their time
 have key:∀d,duN rs cs p<=d->∃b,(∃c,c<cs.length/\rdN cs c=b)/\b<=rdN cs p/\tIn cs s+n-b<=dnS rs cs b d (λq=>(doM rs cs (letM cs s) p n).ds.getD q 0)/\∀q∈(letM cs s).wa,duN rs cs q<=d->b<=rdN cs q:=λd dp=>by
  have add:∀b,b<=rdN cs p->dnS rs cs b d (λq=>(doM rs cs (letM cs s) p n).ds.getD q 0)=dnS rs cs b d (λq=>s.ds.getD q 0)+n:=λb hb=>by
   refine Jru _ List.nodup_range (Za0.mpr lp) (λq _ nq=>?_) ?_
   ·dsimp only;rw[gd,if_neg<|ZP nq]
   ·dsimp only;rw[gd,if_pos rfl,if_pos #[hb,dp],if_pos #[hb,dp]]
  by_cases h:∃q∈s.wa,duN rs cs q<=d
  ·have t0:tIn cs s=s.t:=by
    unfold tIn;split
    ·rename_i ew _;obtain⟨q,hq,_⟩:=h;rw[ew]at hq;cases hq
    ·rfl
   obtain⟨b,⟨c,lc,ec⟩,le,al⟩:=v.bz d h;have al':∀q∈(letM cs s).wa,duN rs cs q<=d->b<=rdN cs q:=λq hq dq=>by
    rw[e2]at hq;rcases ZK.mp hq with hq|hq
    ·exact al q hq dq
    ·have:=new q (by rw[e1];exact ZW _ hq)<|e3 q hq;have:b<=s.t:=by obtain⟨x,hx,dx⟩:=h;have:=al x hx dx;have:=w.rw x hx;lia
     lia
   have bp:=al' p hp dp;refine#[b,#[c,lc,ec],bp,?_,al'];rw[add b bp,t0];lia
  ·have nw:∀q∈(letM cs s).wa,duN rs cs q<=d->rdN cs q=tIn cs s:=λq hq dq=>by
    rw[e2]at hq;rcases ZK.mp hq with hq|hq
    ·exact absurd #[q,hq,dq] h
    ·exact new q (by rw[e1];exact ZW _ hq)<|e3 q hq
   have ep:=nw p hp dp;refine#[tIn cs s,#[p,lp,ep],05,?_,λq hq dq=>by rw[nw q hq dq];exact ZJ _];rw[add _ 05];have:0<=dnS rs cs (tIn cs s) d (λq=>s.ds.getD q 0):=by
    have z:=Jio (f:=λ_=>0) (g:=λq=>if tIn cs s<=rdN cs q/\duN rs cs q<=d then s.ds.getD q 0 else 0) (ZU cs.length) λq hq=>by have:=nn q<|Za0.mp hq;split<;>lia
    have e0:∀l:Tq,(l.map λ_=>(0:Int)).sum=0:=λl=>by induction l with|nil=>rfl|cons a l ih=>rw[ZQ,ZbE,ih];rfl
    rw[e0]at z;exact z
   lia
 have same:∀a r,s.sr=a::r->a.1=p->a.2.2=tIn cs s:=λa r e z=>by
  have h1:=v.tl a r e;have h2:=(v.ea a<|by rw[e];simp).2.2.2;rw[z]at h2;rw[h1];unfold tIn;split
  ·rename_i ew el;have hp:p∈(letM cs s).wa:=hp;rw[e2,ew,Zbr]at hp;have:=w.z0 p<|by rw[e1];exact ZW _ hp
   lia
  ·rfl
 have pr:=v.pw;have tl:=v.tl;have ea:=v.ea;have sm:=v.sm;obtain⟨b,r,es,sb,b1,b2,p1,p2,s1,s2⟩:∃b r,QY p (tIn cs s) (tIn cs s+n) s.sr=(p,b,tIn cs s+n)::r/\(∀c∈r,c∈s.sr)/\b<=tIn cs s/\rdN cs p<=b/\r.Pairwise (λa b=>b.2.2<=a.2.1)/\(∀c∈r,c.2.2<=b)/\sumP p r+(tIn cs s-b)=sumP p s.sr/\∀q,p≠q->sumP q r=sumP q s.sr:=by
  cases e:s.sr with|nil=>exact#[_,[],rfl,λ_ h=>h,ZJ _,rp,.nil,(λ_ h=>by cases h),05,λ_ _=>rfl]|cons a r=>
   rw[e]at pr;obtain⟨q1,q2⟩:=ZaV.mp pr;have t1:=tl a r e;have ha:=ea a<|by rw[e];simp
   by_cases z:a.1=p
   ·have sa:=same a r e z;exact#[a.2.1,r,if_pos z,λ_ h=>Zl _ h,05,by rw[<-z];exact ha.2.1,q2,q1,by rw[VC,if_pos z];lia,λq nq=>by rw[VC,if_neg<|by rw[z];exact nq];lia]
   ·refine#[_,a::r,if_neg z,λ_ h=>h,ZJ _,rp,pr,λc hc=>?_,05,λ_ _=>rfl];rcases ZB.mp hc with rfl|hc
    ·lia
    ·have:=q1 c hc;lia
 have es:(doM rs cs (letM cs s) p n).sr=(p,b,tIn cs s+n)::r:=es;refine#[λa r' z=>?_,λa ha=>?_,by rw[es];exact ZaV.mpr #[p2,p1],λq lq=>?_,λq hq=>?_,λd ⟨q,hq,dq⟩=>?_,λno a ha=>?_]
 ·rw[es]at z;cases z;rfl
 ·rw[es]at ha;rw[gd];rcases ZB.mp ha with rfl|ha
  ·exact#[lp,b2,by show b<tIn cs s+n;lia,by rw[if_pos rfl];lia]
  ·have:=ea a<|sb a ha;refine#[this.1,this.2.1,this.2.2.1,?_];split<;>lia
 ·rw[es,gd,VC];by_cases z:p=q
  ·subst z;rw[if_pos rfl,if_pos rfl,<-sm p lq];show tIn cs s+n-b+_=_;lia
  ·rw[if_neg z,if_neg z,s2 q z,sm q lq];lia
 ·have:=n2 q hq;show tIn cs s+n<=_;lia
 ·have hq:=sub q hq;obtain⟨b,hc,_,le,al⟩:=key d<|Zan (due q hq) dq;exact#[b,hc,le,λx hx dx=>al x (sub x hx) dx]
 ·rw[es]at ha;rcases ZB.mp ha with rfl|ha
  ·obtain⟨b,hc,bp,le,_⟩:=key (duN rs cs p)<|ZJ _;have up:dnS rs cs b (duN rs cs p) (λq=>(doM rs cs (letM cs s) p n).ds.getD q 0)<=dnS rs cs b (duN rs cs p) (lnN cs):=Jio _ λq hq=>by
    have:=nn q<|Za0.mp hq;dsimp only;rw[gd];split
    ·split
     ·rename_i e;subst e;lia
     ·lia
    ·lia
   show tIn cs s+n<=duN rs cs p;rcases no b (duN rs cs p) hc with z|z
   ·lia
   ·have:=z p lp bp;lia
  ·exact v.ot no a<|sb a ha
theorem Jrg(I:Bs->Prop)(step:∀s,Wf cs s->¬(s.lr=[]/\s.wa=[])->I s->I (Qu rs cs s)):∀(m:Nat)(s:Bs),Wf cs s->mea rs cs s<=m->I s->Wf cs (runM rs cs m s)/\(runM rs cs m s).lr=[]/\(runM rs cs m s).wa=[]/\I (runM rs cs m s)
 |m,s,w,lm,i=>by
  by_cases ne:s.lr=[]/\s.wa=[]
  ·rw[Jmf ne];exact#[w,ne.1,ne.2,i]
  ·obtain⟨w1,lt⟩:=w.step (rs:=rs) ne;cases m with
   |zero=>lia
   |succ m=>rw[show runM rs cs (m+1) s=runM rs cs m (Qu rs cs s)from if_neg ne];exact Jrg I step m _ w1 05<|step s w ne i
theorem Jvp(L:Legal rs cs)(six:∀r∈rs,r.2.length<=6):Sv rs cs (finM rs cs)/\∀p,p<cs.length->sumP p (finM rs cs).sr=lnN cs p:=by
 have cm:∀p,p<cs.length->COk rs (cs.getD p cd):=λp lp=>L.ok _<|by rw[Zi,Zb lp];exact ZF lp
 have w0:=wf0 (cs:=cs) λc hc=>(L.ok c hc).n1
 have ri:=Jrg (rs:=rs) (cs:=cs) (Sv rs cs) (λs w ne v=>v.step (λq lq=>(cm q lq).n1) w ne) (8*cs.length) (s0 cs) w0 (mea0 six λc hc=>(L.ok c hc).at_) #[(λa r e=>by cases e),(λa ha=>by cases ha),.nil,(λp lp=>(ds0 cs p).symm),(λp hp=>by have:=cm p<|w0.mem p<|ZW _ hp;have h1:=this.come;have h2:=this.l0;show(0:Int)<=(cs.getD p cd).come+(cs.getD p cd).late;lia),(λd ⟨q,hq,_⟩=>by cases hq),λ_ a ha=>by cases ha];obtain⟨wf,el,ew,sv⟩:=ri;refine#[sv,λp lp=>?_];rw[show sumP p (finM rs cs).sr=_ from sv.sm p lp];exact wf.dn p lp<|by rw[el,ew];simp
section
seal L4.run L4.WS
def endP(p:Nat):Tu->Wx|[]=>Zd|a::l=>match endP p l with|some e=>Za e|none=>if a.1=p then Za a.2.2 else Zd
theorem Jdw:∀{l:Tu},endP p (l++[a])=if a.1=p then Za a.2.2 else endP p l
 |[]=>by simp[endP]
 |b::l=>by
  rw[ZaK,endP,Jdw,endP];by_cases e:a.1=p
  ·rw[if_pos e,if_pos e]
  ·rw[if_neg e,if_neg e]
theorem Jpo{l:Tu}{n p:Nat}(e:l[n]?=Za a):endP p (l.take<|n+1)=if a.1=p then Za a.2.2 else endP p (l.take n):=by have hn:=(Zs.mp e).1;rw[Za7 hn,Jdw,(Zs.mp e).2]
theorem Ju7:sumP p (l++m)=sumP p l+sumP p m:=by simp[sumP]
theorem Jmq:∀{l:Tu},sumP p l.reverse=sumP p l|[]=>rfl|a::l=>by rw[Zbj,Ju7,Jmq,VC,VC];show _+(_+0)=_;lia
theorem Jjb:∀{l:Tu},endP p l=Zd->sumP p l=0
 |[],_=>rfl
 |a::l,e=>by
  rw[endP]at e;cases q:endP p l with
  |some z=>rw[q]at e;cases e
  |none=>
   rw[q]at e;by_cases ea:a.1=p
   ·simp[ea]at e
   ·rw[VC,Jjb q,if_neg ea];rfl
def Qk(rs:Ub)(cs:Uc):Tp:=(ZU cs.length).map λp=>(endP p (finM rs cs).sr.reverse).getD 0
theorem Jv5(L:Legal rs cs)(six:∀r∈rs,r.2.length<=6):(∀a∈(finM rs cs).sr.reverse,a.1<cs.length)/\(∀p,p<cs.length->(endP p (finM rs cs).sr.reverse).isSome=Zh)/\(finM rs cs).sr.reverse.length<=8*cs.length:=by obtain⟨sv,sm⟩:=Jvp L six;have ls:=Jxd (rs:=rs) (cs:=cs);refine#[λa ha=>(sv.ea a<|Zbw.mp ha).1,λp lp=>?_,by rw[Zcn];exact ls];cases q:endP p (finM rs cs).sr.reverse with|some z=>rfl|none=>have z:=Jjb q;rw[Jmq,sm p lp]at z;have n1:=(L.ok (cs.getD p cd)<|by rw[Zi,Zb lp];exact ZF lp).n1;unfold lnN at z;lia
theorem Jud(kvs:Wm)(k:Key)(v:IV):(putD kvs k v).length<=kvs.length+1:=by unfold putD;split<;>simp
def endF(ss:Tu)(v:IV):IV:=match v with|.int x=>.int<|(endP x.toNat ss).getD 0|_=>.non
theorem Js3(ss:Tu)(n:Nat):(rngI 0 (n:Int)).map (endF ss)=((ZU n).map λp=>(endP p ss).getD 0).map .int:=by
 rw[Za2];refine Zcx (by rw[Zr,Qe,Zr,Zcg];lia) λi h1 h2=>?_
 rw[ZaD,V9,ZaD,Zeu];simp[endF]
section
variable{k:Nat}{h:IH}{rs:Ub}{cs:Uc}{O R:Nat}
theorem Jpq(g:Bg h rs cs O R)(t0:h[1]?=Za (.tab "Bench.__init__"))(L:Legal rs cs)(n64:cs.length<64):
  WR (Jlq (k+8) [.ref O,.ref R] h) λv h'=>∃j,v=.ref j/\h.length<=j/\h'[j]?=Za (.lst<|(Qk rs cs).map .int)/\Ex h h':=by
 have hb:=JD;obtain⟨_,sp,ls⟩:=Jv5 L g.l6;rw[Jxh];refine xfin<|xseq<|xset<|Je rfl (xseq<|xfor ?_);rw[Qx];have x1:Ex h (h++[IX.dct []]):=.one _ _;have g1:(h++[IX.dct []])[h.length]?=Za (.dct []):=grown;have l1:(h++[IX.dct []]).length=h.length+1:=03;generalize h++[IX.dct []]=hA at x1 g1 l1;refine xb<|Je (arg2 rfl rfl)<|WR.mono (J2c (k:=k) #[g.o.kp x1.kp,x1.get g.r,g.c,g.l6,x1.get g.p1,g.n] (x1.get t0) L n64) ?_;rintro _ h2 ⟨F,rfl,lF,gF,x2⟩;unfold Qk;generalize (finM rs cs).sr.reverse=ss at sp ls gF ⊢;refine(Vb _).mpr #[_,gF,?_];have gR2:=x2.get<|x1.get g.r;have lR:=J6 g.r;refine Vc (λn σ h'=>∃a kvs,σ=[Za<|.ref O,Za<|.ref R,Za<|.ref h.length,a]/\h'[h.length]?=Za (.dct kvs)/\kvs.length<=n/\KpB h.length h2 h'/\∀p:Nat,valI kvs (.inl (p:Int))=(endP p<|ss.take n).map .int) (λn σ h' ⟨_,_,_,_,_,kb,_⟩=>kb _ _ 05 gF) ?_ ?_ #[_,[],rfl,x2.get g1,Zm _,λ_ _ _ e=>e,λp=>rfl]
 ·rintro n hn _ h3 ⟨a,kvs,rfl,gd,ld,kb,ev⟩;have hn:n<ss.length:=by simpa using hn
  have en:ss[n]?=Za ss[n]:=Zb hn;have st:∀p,endP p (ss.take<|n+1)=_:=λp=>Jpo en
  rw[ZaD];generalize ss[n]=b at en st;refine xnx rfl ((XG ..).mpr<|Je (ixtE rfl rfl Vx) ?_);rw[Jsj];refine Je rfl (Je (ixtE rfl rfl QU) ?_);rw[Jna gd 05];refine#[_,_,rfl,Qg gd,ZC (Jud ..) 05,λj o nj e=>Jw (kb j o nj e)<|ZP nj,λp=>?_];rw[Jmu,st,ev];by_cases e:b.1=p
  ·rw[if_pos e,if_pos<|by rw[e]];rfl
  ·rw[if_neg e,if_neg λz=>e (by cases z;rfl)]
 ·rintro _ h4 ⟨a,kvs,rfl,gd,ld,kb,ev⟩;rw[Zr,ZeT]at ev;have gR4:=kb _ _ (show R≠h.length by lia) gR2;have x4:Ex h h4:=Yb λj o e=>kb j o (by have:=J6 e;lia)<|x2.get<|x1.get e
  refine xret (WR.mono (Vs (h:=h4) (xs:=rngI 0 (cs.length:Int)) (chk:=λ_=>True) (f:=endF ss) ?_ (by rw[Qe];lia) (λ_ _=>trivial) ?_) ?_)
  ·rw[Vt];refine Je (arg1<|lenE rfl gR4) ?_;rw[VY,Zr];exact#[05,rfl,rfl,rfl]
  ·intro x hx h5 q;obtain⟨n,hn,rfl⟩:=Za5.mp hx;rw[V9,show(0+(n:Int))=(n:Int) by lia];rw[Qe]at hn;have sn:=sp n 05;cases eq:endP n ss with|none=>rw[eq]at sn;cases sn|some e=>have ev:=ev n;rw[eq]at ev;unfold Jgv;refine Je ((binE rfl rfl).trans<|Jv<|by rw[Jwn (q _ _ gd) ev];exact#[rfl,rfl]) #[?_,.refl _];show _=IV.int ((endP (Zdz n) ss).getD 0);rw[show Zdz (n:Int)=n by lia,eq];rfl
  ·rintro _ _ ⟨rfl,gg,rfl⟩;exact#[_,rfl,x4.len,by rw[JH,Js3],x4.trans<|.cons _ _ _]
def Jt4(rs:Ub)(cs:Uc):Tp:=((ZU cs.length).filter λp=>decide (duC rs (cs.getD p cd)<(Qk rs cs).getD p 0)).map λ(n:Nat)=>(n:Int)
def cmE(cs:Uc)(n:Nat):IV:=.tup [.int (n:Int),tupC<|cs.getD n cd]
theorem Je6(cs:Uc):Qi 0 (cs.map tupC)=(ZU cs.length).map (cmE cs):=by
 refine ZbL λi=>?_
 rw[Jdx,Zy,Zy];by_cases li:i<cs.length
 ·rw[Zb li,Zda li];simp[cmE,li]
 ·rw[Za3 05,Za3<|by simpa using li];rfl
noncomputable def stE (v:IV):ISt:=match v with|.tup [i,c]=>[Za i,Za c]|_=>[]
def fsE(v:IV):IV:=match v with|.tup [i,_]=>i|_=>.non
def J4d(rs:Ub)(cs:Uc)(v:IV):Bool:=match v with|.tup [.int i,_]=>decide (duC rs (cs.getD i.toNat cd)<(Qk rs cs).getD i.toNat 0)|_=>Zj
theorem Jpp(hn:n<cs.length):atI ((Qk rs cs).map IV.int) (n:Int)=Za (.int<|(Qk rs cs).getD n 0):=by
 have l:n<(Qk rs cs).length:=by simpa[Qk]using hn
 exact JL<|by rw[Zy,Zb l,Zi,Zb l];rfl
theorem Jqz(g:Bg h rs cs O R)(t0:h[1]?=Za (.tab "Bench.__init__"))(L:Legal rs cs)(n64:cs.length<64):
  WR (Jg9 (k+9) [.ref O,.ref R] h) λv h'=>∃j,v=.ref j/\h.length<=j/\h'[j]?=Za (.lst<|(Jt4 rs cs).map .int)/\Ex h h':=by
 have hb:=JD;rw[Jpz];refine xfin<|xseq<|xset<|xb<|Je (arg2 rfl rfl)<|WR.mono (Jpq (k:=k) g t0 L n64) ?_;rintro _ h2 ⟨E,rfl,lE,gE,x2⟩;have gR2:=x2.get g.r;refine xret (WR.mono (Jva (h:=h2) (xs:=Qi 0<|cs.map tupC) (chk:=λh'=>h'[R]?=Za (.lst<|cs.map tupC)) (n:=2) (st:=stE) (p:=J4d rs cs) (f:=fsE) ?_ (by rw[Xn,Zr];lia) (λh3 q=>q _ _ gR2) ?_ ?_ ?_) ?_)
 ·rw[Vt];exact Je (arg1 rfl)<|(Jr7 _).mpr #[_,gR2,rfl,rfl,rfl]
 ·intro x hx ls h3 l2;rw[Je6]at hx;obtain⟨n,_,rfl⟩:=Zaj.mp hx;match ls,l2 with|[a,b],_=>exact#[rfl,rfl]
 ·intro x hx h3 q;rw[Je6]at hx;obtain⟨n,hn,rfl⟩:=Zaj.mp hx;have hn:=Za0.mp hn;obtain⟨Du,du,fd⟩:=Jk4<|(g.o.kp x2.kp).kp q;have ec:cs.getD n cd∈cs:=by rw[Zi,Zb hn];exact ZF hn
  unfold Jen;refine Je (gtE (ixlE rfl rfl (q _ _ gE) (Jpp hn))<|J4 (arg2 (fd _ _ rfl) rfl)<|J0b (k:=k+6) du<|g.c _ ec) #[?_,.refl _];show _=decide (duC rs (cs.getD (Zdz n) cd)<(Qk rs cs).getD (Zdz n) 0);rw[show Zdz (n:Int)=n by lia]
 ·intro x hx _ h3 q;rw[Je6]at hx;obtain⟨n,_,rfl⟩:=Zaj.mp hx;exact Je rfl #[rfl,.refl _]
 ·rintro _ _ ⟨rfl,gg,rfl⟩;refine#[_,rfl,x2.len,?_,x2.trans<|.cons _ _ _];rw[JH,Je6,List.filter_map,Za2,Jt4,Za2];rfl
end
end
def cm(s:Int)(d:WD):Int:=if 1<=s then rup (s+d.late) d.gap else 0
def dm(s:Int)(d:WD):Int:=if 0<=s+d.late-d.due then(s+d.late-d.due)/d.gap+1 else 0
def dem(ds:Tz)(s:Int):Int:=(ds.map λd=>dm s d*d.len).sum
def ask(ds:Tz)(s:Int):Int:=(ds.map λd=>cm s d*d.len).sum
def crd(ds:Tz)(s:Int):Int:=(ds.map λd=>cm s d).sum
def cP(P:Cm->Bool)(l:Uc):Int:=(l.map λc=>if P c=Zh then 1 else 0).sum
def wP(P:Cm->Bool)(l:Uc):Int:=(l.map λc=>if P c=Zh then c.len else 0).sum
section
variable{P Q R:Cm->Bool}{c:Cm}{l:Uc}
theorem Jo6:cP P (c::l)=(if P c=Zh then 1 else 0)+cP P l:=by simp[cP]
theorem VG:wP P (c::l)=(if P c=Zh then c.len else 0)+wP P l:=by simp[wP]
theorem Jwx(hg:0<g):∀{l:Uc}{lo:Int},l.Pairwise (λx y=>P x=Zh->P y=Zh->x.come+g<=y.come)->(∀c∈l,P c=Zh->lo<=c.come/\c.come<=hi)->cP P l=0∨cP P l*g<=hi-lo+g
 |[],_,_,_=>.inl rfl
 |c::l,lo,pw,h=>by
  obtain⟨p1,p2⟩:=ZaV.mp pw;rw[Jo6];by_cases e:P c=Zh
  ·rw[if_pos e];obtain⟨h1,h2⟩:=h c Z2 e;refine .inr ?_;rcases Jwx hg (lo:=c.come+g) p2 λd hd ed=>#[p1 d hd e ed,(h d (Zl _ hd) ed).2]with z|z
   ·rw[z];lia
   ·rw[ZfB];lia
  ·rw[if_neg e,Zgj];exact Jwx hg p2 λd hd ed=>h d (Zl _ hd) ed
theorem J24:∀{l:Uc},(∀c∈l,P c=Zh->c.len<=m)->wP P l<=cP P l*m
 |[],_=>by simp[wP,cP]
 |c::l,h=>by
  have:=J24 (l:=l) λd hd=>h d<|Zl _ hd
  rw[VG,Jo6,ZfB];by_cases e:P c=Zh
  ·have:=h c Z2 e;rw[if_pos e,if_pos e];lia
  ·rw[if_neg e,if_neg e];lia
theorem Jy8:∀{l:Uc},(∀c∈l,1<=c.len/\(P c=Zh->Q c=Zh∨R c=Zh))->wP P l<=wP Q l+wP R l
 |[],_=>by simp[wP]
 |c::l,h=>by
  have ih:=Jy8 (l:=l) λd hd=>h d<|Zl _ hd
  obtain⟨n,z⟩:=h c Z2;rw[VG,VG,VG];cases e1:P c
  ·have nn:∀b:Bool,0<=(if b=Zh then c.len else 0):=λb=>by cases b<;>simp<;>lia
   have:=nn<|Q c;have:=nn<|R c;simp only[Zad,if_false];lia
  ·cases e2:Q c
   ·rw[e1,e2]at z;rw[(z rfl).resolve_left Zw];simp;lia
   ·cases R c<;>simp<;>lia
theorem Jwk:∀{l:Uc},(∀c∈l,1<=c.len)->0<=wP P l/\((∃c∈l,P c=Zh)->1<=wP P l)
 |[],_=>#[ZJ _,λ⟨_,h,_⟩=>by cases h]
 |c::l,h=>by
  obtain⟨i1,i2⟩:=Jwk (l:=l) λd hd=>h d<|Zl _ hd
  have n:=h c Z2;rw[VG];by_cases e:P c=Zh
  ·rw[if_pos e];exact#[05,λ_=>05]
  ·rw[if_neg e,Zgj];refine#[i1,λ⟨x,hx,ex⟩=>i2 ?_];rcases ZB.mp hx with rfl|hx
   ·exact absurd ex e
   ·exact#[x,hx,ex]
end
section
variable{rs:Ub}{cs:Uc}
theorem Jve(L:Legal rs cs){P:Cm->Bool}{f:WD->Int}(h:∀r∈rs,0<r.1.gap/\1<=r.1.len/\0<=f r.1/\∃lo hi,(∀c∈cs,P c=Zh->rs[c.at_]?=Za r->lo<=c.come/\c.come<=hi)/\∀n:Int,n*r.1.gap<=hi-lo+r.1.gap->n<=f r.1):wP P cs<=((rs.map (·.1)).map λd=>f d*d.len).sum:=by
 have key:∀n,n<=rs.length->wP (λc=>P c&&decide (c.at_<n)) cs<=(((rs.take n).map (·.1)).map λd=>f d*d.len).sum:=λn=>by
  induction n with
  |zero=>
   intro _;have:∀l:Uc,wP (λc=>P c&&decide (c.at_<0)) l=0:=λl=>by induction l with|nil=>rfl|cons c l ih=>rw[VG,ih];simp
   rw[this];exact ZJ _
  |succ n ih=>
   intro hn;have hn':n<rs.length:=hn;have ih:=ih<|Zaa hn';obtain⟨g,l1,f0,lo,hi,hc,hf⟩:=h _<|ZF hn';have a:=Jy8 (P:=λc=>P c&&decide (c.at_<n+1)) (Q:=λc=>P c&&decide (c.at_<n)) (R:=λc=>P c&&decide (c.at_=n)) (l:=cs) λc hc=>#[(L.ok c hc).n1,λe=>by
    simp only[Zp,decide_eq_true_eq]at e ⊢;by_cases z:c.at_=n
    ·exact .inr #[e.1,z]
    ·exact .inl #[e.1,05]]
   have pw:cs.Pairwise λx y=>(P x&&decide (x.at_=n))=Zh->(P y&&decide (y.at_=n))=Zh->x.come+(rs[n]).1.gap<=y.come:=by rw[Zbe];intro i j hi hj lt e1 e2;simp only[Zp,decide_eq_true_eq]at e1 e2;exact L.far i j _ _ lt (Zb hi) (Zb hj) (e1.2.trans e2.2.symm) _<|by rw[e1.2];exact Zb hn'
   have b:=Jwx (P:=λc=>P c&&decide (c.at_=n)) (hi:=hi) (lo:=lo) g pw λc hm e=>by simp only[Zp,decide_eq_true_eq]at e;exact hc c hm e.1<|by rw[e.2];exact Zb hn'
   have b:cP (λc=>P c&&decide (c.at_=n)) cs<=f (rs[n]).1:=by
    rcases b with z|z
    ·rw[z];exact f0
    ·exact hf _ z
   have c:=J24 (P:=λc=>P c&&decide (c.at_=n)) (m:=(rs[n]).1.len) (l:=cs) λc hm e=>by simp only[Zp,decide_eq_true_eq]at e;have:=(L.ok c hm).n2;simp only[e.2]at this;exact this
   have m:=Int.mul_le_mul_of_nonneg_right b (show 0<=(rs[n]).1.len by lia);rw[Za7 hn',ZbN,ZbN,List.sum_append];simp only[ZQ,ZcV,ZbE,List.sum_nil];lia
 have:=key _<|Zm _;rw[ZeT]at this;refine Zan ?_ this;have e:∀l:Uc,(∀c∈l,c.at_<rs.length)->wP P l<=wP (λc=>P c&&decide (c.at_<rs.length)) l:=λl=>by
  induction l with|nil=>intro _;exact ZJ _|cons c l ih=>
   intro h;have:=ih λd hd=>h d<|Zl _ hd
   rw[VG,VG,decide_eq_true<|h c Z2,Bool.and_true];lia
 exact e cs λc hc=>(L.ok c hc).at_
abbrev inS(rs:Ub)(b d:Int)(c:Cm):Bool:=decide (b<=rdC c)&&decide (duC rs c<=d)
structure Nm(r:RH)(M:Int):Prop where
 g:0<r.1.gap
 l:1<=r.1.len
 d:1<=r.1.due
 t:0<=r.1.late
 m:r.1.late<=M
theorem Juf{c:Cm}(e:rs[c.at_]?=Za r):rs.getD c.at_ rd=r:=by rw[Zi,e];rfl
theorem Jl7(L:Legal rs cs)(hc:c∈cs)(e:rs[c.at_]?=Za r):0<=c.late/\c.late<=r.1.late:=by have o:=L.ok c hc;have:=o.l1;rw[Zb o.at_]at e;cases e;exact#[o.l0,this]
theorem Jvl(L:Legal rs cs){M:Int}(N:∀r∈rs,Nm r M)(b d:Int):wP (inS rs b d) cs<=dem (rs.map (·.1)) (d-b):=by
 refine Jve L (f:=dm<|d-b) λr hr=>?_
 have n:=N r hr;have g:=n.g;have q:0<=dm (d-b) r.1:=by
  unfold dm;split
  ·rename_i z;have:=Zcb z<|Zbb g;lia
  ·lia
 refine#[g,n.l,q,b-r.1.late,d-r.1.due,λc hc e er=>?_,λm hm=>?_]
 ·obtain⟨a1,a2⟩:=Jl7 L hc er;simp only[Zp,decide_eq_true_eq]at e;simp only[duC,Juf er,rdC]at e;lia
 ·unfold dm;split
  ·have:m-1<=(d-b+r.1.late-r.1.due)/r.1.gap:=by rw[ZbS g,Int.sub_mul];lia
   lia
  ·have:m*r.1.gap<1*r.1.gap:=05;have:=Int.lt_of_mul_lt_mul_right this<|Zbb g;lia
theorem Jzy(L:Legal rs cs){M:Int}(N:∀r∈rs,Nm r M){F:Int}(F1:1<=F)(b:Int):wP (λc=>decide (b<=rdC c)&&decide (rdC c<b+F)) cs<=ask (rs.map (·.1)) F:=by
 refine Jve L (f:=cm F) λr hr=>?_
 have n:=N r hr;have g:=n.g;have t:=n.t;refine#[g,n.l,?_,b-r.1.late,b+F-1,λc hc e er=>?_,λm hm=>?_]
 ·unfold cm rup;rw[if_pos F1];exact Zcb 05 05
 ·obtain⟨a1,a2⟩:=Jl7 L hc er;simp only[Zp,decide_eq_true_eq]at e;simp only[rdC]at e;lia
 ·unfold cm rup;rw[if_pos F1,ZbS g];lia
theorem Jw5{d:WD}(g:0<d.gap)(no:¬ ∃t:Nat,s=(t:Int)*d.gap+d.due-d.late):dm (s-1) d=dm s d:=by
 have e:=Int.mul_ediv_add_emod (s+d.late-d.due) d.gap;have m0:=ZaJ (s+d.late-d.due) (b:=d.gap) 05;have m1:=Za1 (s+d.late-d.due) g;rw[Int.mul_comm]at e;unfold dm;by_cases z:0<=s+d.late-d.due
 ·have q:=Zcb z<|Zbb g;have ne:(s+d.late-d.due)%d.gap≠0:=λz=>no #[((s+d.late-d.due)/d.gap).toNat,by rw[Int.toNat_of_nonneg q];lia]
  have z1:1<=s+d.late-d.due:=by have:=ZfC q<|Zbb g;lia
  rw[if_pos z,if_pos 05];have:(s-1+d.late-d.due)/d.gap=(s+d.late-d.due)/d.gap:=ZdU (ZdJ g 05)<|by rw[ZbS g];lia
  rw[this]
 ·rw[if_neg z,if_neg 05]
theorem Jo1{M F:Int}(N:∀r∈rs,Nm r M)(hz:∀r∈rs,∀t:Nat,(t:Int)*r.1.gap+r.1.due-r.1.late<=F->dem (rs.map (·.1)) ((t:Int)*r.1.gap+r.1.due-r.1.late)<=(t:Int)*r.1.gap+r.1.due-r.1.late):
  ∀(n:Nat)(s:Int),s+M<=n->s<=F->(dem (rs.map (·.1)) s=0∨dem (rs.map (·.1)) s<=s):=λn=>by
 induction n with
 |zero=>
  intro s hn _;refine .inl ?_;unfold dem;rw[Za2];have:∀l:Ub,(∀r∈l,Nm r M)->(l.map<|(λd=>dm s d*d.len)∘λx=>x.1).sum=0:=λl=>by induction l with|nil=>intro _;rfl|cons r l ih=>intro h;have n:=h r Z2;have a:=n.d;have b:=n.m;rw[ZQ,ZbE,ih λd hd=>h d<|Zl _ hd];show dm s r.1*_+0=0;unfold dm;rw[if_neg 05,Int.zero_mul];rfl
  exact this rs N
 |succ n ih=>
  intro s hn hs;by_cases h:∃r∈rs,∃t:Nat,s=(t:Int)*r.1.gap+r.1.due-r.1.late
  ·obtain⟨r,hr,t,rfl⟩:=h;exact .inr<|hz r hr t hs
  ·have e:dem (rs.map (·.1)) (s-1)=dem (rs.map (·.1)) s:=by
    unfold dem;congr 1;refine Zcp λd hd=>?_
    obtain⟨r,hr,rfl⟩:=Zaj.mp hd;rw[Jw5 (N r hr).g λ⟨t,e⟩=>h #[r,hr,t,e]]
   have:=ih (s-1) 05 05;rw[e]at this;lia
theorem J0g(L:Legal rs cs){M F:Int}(N:∀r∈rs,Nm r M)(F1:1<=F)(ha:ask (rs.map (·.1)) F<=F)(hz:∀r∈rs,∀t:Nat,(t:Int)*r.1.gap+r.1.due-r.1.late<=F->dem (rs.map (·.1)) ((t:Int)*r.1.gap+r.1.due-r.1.late)<=(t:Int)*r.1.gap+r.1.due-r.1.late):
  ∀(n:Nat)(b d:Int),d-b<=n->wP (inS rs b d) cs<=d-b∨wP (inS rs b d) cs<=0:=λn=>by
 induction n with|zero=>intro b d h;have a:=Jvl L N b d;have:=Jo1 N hz (d-b+M).toNat (d-b) 05 05;lia|succ n ih=>
  intro b d h;by_cases q:d-b<=F
  ·have a:=Jvl L N b d;have:=Jo1 N hz (d-b+M).toNat (d-b) 05 q;lia
  ·have i:=ih (b+F) d 05;have a:=Jzy L N F1 b;have o:=Jy8 (P:=inS rs b d) (Q:=λc=>decide (b<=rdC c)&&decide (rdC c<b+F)) (R:=inS rs (b+F) d) (l:=cs) λc hc=>#[(L.ok c hc).n1,λe=>by simp only[Zp,decide_eq_true_eq]at e ⊢;lia]
   lia
end
theorem Jl2:∀{l:Tu}{e:Int},endP p l.reverse=Za e->∃c∈l,c.1=p/\c.2.2=e
 |a::l,e,h=>by
  rw[Zbj,Jdw]at h;by_cases z:a.1=p
  ·rw[if_pos z]at h;exact#[a,Z2,z,Zam h]
  ·rw[if_neg z]at h;obtain⟨c,hc,q⟩:=Jl2 h;exact#[c,Zl _ hc,q]
theorem Jk8:∀{l:Tu}{U:Int},B<=U->l.Pairwise (λa b=>b.2.2<=a.2.1)->(∀a∈l,a.2.1<a.2.2/\(a.1=p->B<=a.2.1))->(∀a∈l,a.2.2<=U)->sumP p l<=U-B
 |[],U,h,_,_,_=>by show(0:Int)<=_;lia
 |a::l,U,h,pw,q,qu=>by
  obtain⟨p1,p2⟩:=ZaV.mp pw;obtain⟨a1,a2⟩:=q a Z2;have au:=qu a Z2;rw[VC];split
  ·rename_i qa;have:=a2 qa;have:=Jk8 (U:=a.2.1) this p2 (λb hb=>q b<|Zl _ hb) p1;lia
  ·have:=Jk8 h p2 (λb hb=>q b<|Zl _ hb) λb hb=>qu b<|Zl _ hb
   lia
theorem Jvn:∀{l:Tu},l.Pairwise (λa b=>b.2.2<=a.2.1)->(∀a∈l,a.2.1<a.2.2/\(a.1=p->B<=a.2.1))->endP p l.reverse=Za e->B+sumP p l<=e
 |a::l,pw,q,h=>by
  obtain⟨p1,p2⟩:=ZaV.mp pw;obtain⟨a1,a2⟩:=q a Z2;rw[Zbj,Jdw]at h;rw[VC];by_cases z:a.1=p
  ·rw[if_pos z]at h;cases h;have:=Jk8 (U:=a.2.1) (a2 z) p2 (λb hb=>q b<|Zl _ hb) p1;rw[if_pos z];lia
  ·rw[if_neg z]at h ⊢;have:=Jvn p2 (λb hb=>q b<|Zl _ hb) h;lia
section
variable{rs:Ub}{cs:Uc}
theorem Jvq(h:n<cs.length):cs.getD n cd∈cs:=by rw[Zi,Zb h];exact ZF h
theorem J3u(b d:Int):dnS rs cs b d (lnN cs)=wP (inS rs b d) cs:=by
 unfold dnS wP;congr 1;refine Zcx 03 λi h1 h2=>?_
 have li:i<cs.length:=by simpa using h1
 simp only[ZaD,Zeu,rdN,duN,lnN,Zp,decide_eq_true_eq];rw[show cs.getD i cd=cs[i] by rw[Zi,Zb li];rfl]
theorem Jxw(h:n<cs.length):(Qk rs cs).getD n 0=(endP n (finM rs cs).sr.reverse).getD 0:=by unfold Qk;rw[Zi,Zy,Zda h];rfl
theorem Jqb(L:Legal rs cs)(six:∀r∈rs,r.2.length<=6)(H:∀(n:Nat)(b d:Int),d-b<=n->wP (inS rs b d) cs<=d-b∨wP (inS rs b d) cs<=0)(hn:n<cs.length):rdC (cs.getD n cd)+(cs.getD n cd).len<=(Qk rs cs).getD n 0/\(Qk rs cs).getD n 0<=duC rs (cs.getD n cd):=by
 obtain⟨sv,sm⟩:=Jvp L six;obtain⟨_,sp,_⟩:=Jv5 L six;have ot:=sv.ot λb d _=>by
  rw[J3u];refine(H (d-b).toNat b d 05).imp id λz q lq bq=>?_
  have:=(Jwk (P:=inS rs b d) λc hc=>(L.ok c hc).n1).2;have:¬duN rs cs q<=d:=λy=>by have:=this #[_,Jvq lq,by rw[Zp];exact#[decide_eq_true bq,decide_eq_true y]];lia
  lia
 rw[Jxw hn];have sp:=sp n hn;cases q:endP n (finM rs cs).sr.reverse with|none=>rw[q]at sp;cases sp|some e=>have a:=Jvn (B:=rdN cs n) sv.pw (λa ha=>#[(sv.ea a ha).2.2.1,λ(z:a.1=n)=>z▸(sv.ea a ha).2.1]) q;rw[sm n hn]at a;obtain⟨c,hc,rfl,rfl⟩:=Jl2 q;exact#[a,ot c hc]
theorem Jq3(L:Legal rs cs)(six:∀r∈rs,r.2.length<=6)(H:∀(n:Nat)(b d:Int),d-b<=n->wP (inS rs b d) cs<=d-b∨wP (inS rs b d) cs<=0):Jt4 rs cs=[]:=by unfold Jt4;rw[List.map_eq_nil_iff,List.filter_eq_nil_iff];intro p hp;have:=(Jqb L six H<|Za0.mp hp).2;rw[decide_eq_true_eq];lia
end
section
seal L4.run L4.WS L4.WR
def bL(s:Int)(d:WD):Tp:=(ZU (dm s d).toNat).map λ(t:Nat)=>(t:Int)*d.gap+d.due-d.late
def fL(ds:Tz)(s:Int):Tp:=ds.flatMap<|bL s
structure Gw(d:WD):Prop where
 g:0<d.gap
 l:d.gap.natAbs.log2<9000
 m:d.gap.natAbs<2^64
 n:d.len.natAbs<2^64
 n0:1<=d.len
 u:1<=d.due
 t:0<=d.late
theorem J0a(g:Gw d):0<=dm s d:=by
 unfold dm;split
 ·rename_i q;have:=Zcb q<|Zbb g.g;lia
 ·lia
theorem J3t(g:Gw d)(s1:1<=s):dm s d<=cm s d:=by
 have a:=g.g;have b:=g.u;have c:=g.t;unfold dm cm rup;rw[if_pos s1];split
 ·have e:(s+d.late-d.due)/d.gap+1=(s+d.late-d.due+d.gap)/d.gap:=by rw[Int.add_ediv_of_dvd_right<|Int.dvd_refl _,Int.ediv_self 05]
  rw[e];exact ZdJ a 05
 ·exact Zcb 05 05
theorem J0f(s1:1<=s)(G:∀d∈ds,Gw d):((fL ds s).length:Int)<=crd ds s:=by
 induction ds with|nil=>simp[fL,crd]|cons d ds ih=>
  have h1:=J3t (G d Z2) s1;have h0:=J0a (s:=s)<|G d Z2;have h2:=ih λe he=>G e<|Zl _ he
  have e:(fL (d::ds) s).length=(dm s d).toNat+(fL ds s).length:=by simp[fL,bL]
  have e2:crd (d::ds) s=cm s d+crd ds s:=by simp[crd]
  lia
theorem Jpw{ds:Tz}(hn:n<ds.length):fL (ds.take<|n+1) s=fL (ds.take n) s++bL s ds[n]:=by unfold fL;rw[Za7 hn,List.flatMap_append];simp
theorem J3x{ds:Tz}(n:Nat):(fL (ds.take n) s).length<=(fL ds s).length:=by
 have:fL ds s=fL (ds.take n) s++fL (ds.drop n) s:=by unfold fL;rw[<-List.flatMap_append,List.take_append_drop]
 rw[this,Z7];lia
section
variable{k:Nat}{h:IH}{D:Nat}{vs:Tx}{ds:Tz}{s:Int}
theorem Jgw{d:WD}{hs:Tx}{w:Nat}(hw:h[w]?=Za (.ins "Work"<|wfs d.name d.gap d.len d.due d.late hs))(g:Gw d):Jaw (k+2) [.ref w,.int s] h=.ok (.int<|cm s d) h:=by refine Jv ?_;rw[Jh4];unfold cm;exact xfin (xret<|xeif<|Je (geE rfl rfl)<|xdec (λq=>Je (J4 (arg2 (addE rfl (fldE rfl hw fl4))<|fldE rfl hw fl1)<|Jjv g.g g.l) #[by rw[if_pos q],rfl]) λq=>Je rfl #[by rw[if_neg q],rfl])
theorem Jpm{d:WD}(hw:h[w]?=Za (.ins "Work"<|wfs d.name d.gap d.len d.due d.late hs))(g:Gw d):XM (k+2) [.ref w,.int s] h=.ok (.int<|dm s d) h:=by refine Jv ?_;rw[Jnn];unfold dm;exact xfin (xseq<|xset<|Je (subE (addE rfl (fldE rfl hw fl4))<|fldE rfl hw fl3)<|xret<|xeif<|Je (geE rfl rfl)<|xdec (λq=>Je (addE (Qj rfl (fldE rfl hw fl1) g.g g.l) rfl) #[by rw[if_pos q],rfl]) λq=>Je rfl #[by rw[if_neg q],rfl])
theorem sumW(hD:h[D]?=Za (.ins "Duty"<|dfs vs))(w:AllW h vs ds)(hl:ds.length<=20)(he:∀(j:Nat) (d:WD) (hs:Tx) (h2:IH),d∈ds->h2[j]?=Za (.ins "Work"<|wfs d.name d.gap d.len d.due d.late hs)->e [Za<|.ref j,Za<|.int s] h2=.ok (.int<|f d) h2):WR (eCB (on1 sumI) (Jb (Js (Jy<|Jj "works" 'a') 1 [1] (gNm 0) JA e) Jd) [Za<|.ref D,Za<|.int s] h) λv h'=>v=.int (ds.map f).sum/\Ex h h':=by
 have hb:=JD;have wl:=w.len;obtain⟨_,h3,ev,rfl,ys,gy,ly,k3,dy⟩:=(Jm0 (h:=h) (h0:=h) (it:=Jy<|Jj "works" 'a') (e:=e) (js:=[1]) (σ:=[Za<|.ref D,Za<|.int s]) (xs:=vs) (chk:=λ_=>True) (λx y _=>∀d∈ds,IsW h x d->y=.int (f d)) (by rw[Qx];exact Je (fldE rfl hD dl0)<|(XE _).mpr #[rfl,rfl,rfl]) 05 (λ_ _ _ _ _ z=>z) (λ_ _=>trivial) (by intro x hx h2 k2 _;obtain⟨d,hd,j,hs,rfl,g⟩:=w.of hx;refine Je (he j d hs h2 hd<|k2 _ _ g) #[.refl _,λd' hd' ⟨j',hs',e',g'⟩=>?_];cases e';exact(Res.ok.inj<|(he j d hs h2 hd<|k2 _ _ g).symm.trans<|he j d' hs' h2 hd'<|k2 _ _ g').1)).eq;have ey:ys=(ds.map f).map IV.int:=by
  refine Zcx (by rw[Zr,Zr];lia) λi h1 h2=>?_
  have i1:i<vs.length:=05;have i2:i<ds.length:=05;rw[ZaD,ZaD];exact dy i _ _ (Zb i1) (Zb h1) _ (ZF i2)<|w.at_ i _ _ (Zb i1)<|Zb i2
 rw[ey]at gy;exact Je ((cbE<|arg1 ev).trans<|Jv<|Jsg.mpr #[_,gy,_,QF _,rfl,rfl]) #[rfl,Yb k3]
variable(hD:h[D]?=Za (.ins "Duty"<|dfs vs))(w:AllW h vs ds)(hl:ds.length<=20)(G:∀d∈ds,Gw d)
include hD w hl G
theorem Jhe:WR (XJ (k+3) [.ref D,.int s] h) λv h'=>v=.int (ask ds s)/\Ex h h':=by rw[Js7];exact xfin<|xret<|sumW hD w hl λj d hs h2 hd g=>mulE (J4 (arg2 rfl rfl)<|Jgw g<|G d hd) (fldE rfl g fl2)<|.inr<|.inl (G d hd).n
theorem Jph:WR (Jg8 (k+3) [.ref D,.int s] h) λv h'=>v=.int (dem ds s)/\Ex h h':=by rw[Jpx];exact xfin<|xret<|sumW hD w hl λj d hs h2 hd g=>mulE (J4 (arg2 rfl rfl)<|Jpm g<|G d hd) (fldE rfl g fl2)<|.inr<|.inl (G d hd).n
theorem Jgx:WR (Jc3 (k+3) [.ref D,.int s] h) λv h'=>v=.int (crd ds s)/\Ex h h':=by rw[Jnm];exact xfin<|xret<|sumW hD w hl λj d hs h2 hd g=>J4 (arg2 rfl rfl)<|Jgw g<|G d hd
theorem Jju:WE (Jad (k+4) [.ref D,.int s] h) (λ_ h'=>crd ds s<=200/\Ex h h') λn h'=>200<crd ds s/\h'[n]?=Za (.exc "TooMany" [])/\Ex h h':=by
 have hb:=JD;rw[Jed];refine Jwl ?_;rw[Jaz,Jwo];obtain⟨_,h1,e1,rfl,x1⟩:=(Jgx (k:=k) (s:=s) hD w hl G).eq;refine WE.of<|Je (gtE (J4 (arg2 rfl rfl) e1) rfl)<|xdec (λq=>?_) λq=>?_
 ·rw[Jsm];exact WE.of (Je (arg1 rfl) #[by show 1<=sizeLine;lia,#[_,_,grown],q,grown,x1.trans<|.one _ _])
 ·rw[Jsl];exact#[05,x1]
omit hD w hl G
def bOf(d:WD):IV->IV|.int x=>.int<|x*d.gap+d.due-d.late|_=>.non
theorem Jzz(s:Int)(d:WD):(rngI 0<|dm s d).map (bOf d)=(bL s d).map IV.int:=by
 unfold rngI bL;rw[Za2,Za2,Int.sub_zero];refine Zcp λt _=>?_
 show IV.int _=IV.int _;rw[Zgj]
theorem Jok{ns:Tp}(he:e σ h=.ok (.ref i) h)(gi:h[i]?=Za (.lst<|ns.map .int))(l64:ns.length<4000):Ya (Jb e Jd) σ h=.ok (.ref h.length) (h++[.lst<|(Vp<|ddN (Q6 ns) ns.length).map .int]):=by unfold Ya Jb Jd;rw[he];show(match h[i]? with|some (.lst ys)=>_|_=>_)=_;rw[gi];dsimp only;rw[QF];dsimp only;rw[if_pos l64]
theorem Jk1(hx:x∈ns):x∈Vp (ddN (Q6 ns) ns.length):=by unfold Vp;rw[(List.mergeSort_perm _ _).mem_iff,Jpd];obtain⟨j,hj,e⟩:=Za5.mp hx;exact#[j,hj,by rw[<-e];simp[Q6,hj]]
include hD w hl G
theorem Jsr(c:crd ds s<=200)(s1:1<=s):
  WR (Jki (k+5) [.ref D,.int s] h) λv h'=>∃(i:Nat)(zs:Tp),v=.ref i/\h'[i]?=Za (.lst<|zs.map .int)/\(∀x∈fL ds s,x∈zs)/\Ex h h':=by
 have hb:=JD;have wl:=w.len;have lf:=J0f s1 G;obtain⟨_,h1,e1,_,x1⟩:=(WE.wr (WE.mono (Jju (k:=k) (s:=s) hD w hl G) (λ_ _ z=>z) λ_ _ z=>by have:=z.1;lia)).eq;have hD1:=x1.get hD;have w1:=w.kp x1.kp;rw[Js8];refine xfin<|xseq<|Qq<|Je (J4 (arg2 rfl rfl) e1)<|xseq<|xset<|Je (lstE rfl rfl)<|xseq<|xfor ?_;rw[Qx];refine Je (fldE rfl (grow hD1) dl0)<|(XE _).mpr ?_;refine Vc (λn σ h'=>∃g a,h'=h1++IX.lst ((fL (ds.take n) s).map .int)::g/\σ=[Za<|.ref D,Za<|.int s,Za<|.ref h1.length,a]) (λ_ _ _ _=>trivial) ?_ ?_ #[[],Zd,rfl,rfl]
 ·rintro n hn _ _ ⟨g,a,rfl,rfl⟩;have hn:n<vs.length:=hn;have hn':n<ds.length:=05;obtain⟨j,hs,ev,e⟩:=w1.at_ n _ _ (Zb hn)<|Zb hn';rw[ev,Jpw hn'];have gd:=G _<|ZF hn';have ln:=J3x (ds:=ds) (s:=s)<|n+1;rw[Jpw hn',Z7]at ln;generalize ds[n]=d at e gd ln;generalize fL (ds.take n) s=fs at ln;have lb:(rngI 0<|dm s d).length=(bL s d).length:=by rw[Qe];simp[bL]
  have nn:=J0a (s:=s) gd;have lr:=lb;rw[Qe]at lr;have gF:(h1++IX.lst (fs.map .int)::g)[h1.length]?=Za (.lst<|fs.map .int):=JH;have gJ:(h1++IX.lst (fs.map .int)::g)[j]?=Za (.ins "Work"<|wfs d.name d.gap d.len d.due d.late hs):=grow e;have Y:=@Jlx (h1++IX.lst (fs.map .int)::g) (h1++IX.lst (fs.map .int)::g) (iRg Qd<|Jb (Jl (XM<|k+4) []<|Jb 'd'<|Jb 'b' Jd) Jd) (Jfp<|k+4) [3] [Za<|.ref D,Za<|.int s,Za<|.ref h1.length,Za<|.ref j] (rngI 0<|dm s d) (λ_=>True) (bOf d)
   (by
    rw[Vt];refine Je (arg1<|J4 (arg2 rfl rfl)<|Jpm gJ gd) ?_;rw[VY];exact#[05,rfl,rfl,rfl]) 05 (λ_ _=>trivial) (by
    intro v hv h2 z;obtain⟨m,hm,rfl⟩:=Za5.mp hv;rw[V9];have g2:=z _ _ gJ;exact Je (subE (addE (mulE rfl (fldE rfl g2 fl1) (.inr<|.inl gd.m))<|fldE rfl g2 fl3)<|fldE rfl g2 fl4) #[rfl,.refl _])
  refine xnx rfl (Qq<|QQ rfl gF Jo2 ?_);generalize hcc:Js _ _ _ _ _ _ _ _=rc at Y;obtain⟨g2,rfl⟩:=Y;refine Je (arg1 hcc) ?_;rw[Jzz,Jr8 (xs:=fs.map .int) (ys:=(bL s d).map .int) (grow gF) JH<|by rw[Zr,Zr];lia];refine#[g++IX.lst ((bL s d).map .int)::g2,_,?_,rfl];rw[Zae,ZaK,Jik,<-ZbN]
 ·rintro _ _ ⟨g,a,rfl,rfl⟩;rw[show(ds.take (ItI.xs #[vs,λ_=>True]).length)=ds from Zb0 (by show _<=vs.length;lia)];exact xret<|Je (Jok rfl JH 05) #[_,_,rfl,grown,λx hx=>Jk1 hx,(x1.trans<|.cons _ _ _).trans<|.one _ _]
theorem Jyf(c:crd ds s<=200)(s1:1<=s):
  WR (Jaj (k+6) [.ref D,.int s] h) λv h'=>Ex h h'/\((v=.non/\∀x∈fL ds s,dem ds x<=x)∨∃x,v=.int x):=by
 obtain⟨_,h1,e1,i,zs,rfl,gi,al,x1⟩:=(Jsr (k:=k) hD w hl G c s1).eq;rw[Jdz];refine xfin<|xseq<|xfor ?_;rw[Qx];refine Je (J4 (arg2 rfl rfl) e1)<|(Vb _).mpr #[_,gi,?_];refine Vc (λn σ h'=>Ex h1 h'/\(∃a,σ=[Za<|.ref D,Za<|.int s,a])/\∀x∈zs.take n,dem ds x<=x) (λ_ _ _ z=>z.1.get gi) ?_ ?_ #[.refl _,#[_,rfl],03]
 ·rintro n hn _ h2 ⟨x2,⟨a,rfl⟩,no⟩;have hn':n<zs.length:=by simpa using hn
  rw[ZaD,Za7 hn'];generalize zs[n]=x;obtain⟨_,h3,e3,rfl,x3⟩:=(Jph (k:=k+2) (s:=x) (x2.get<|x1.get hD) (w.kp (x1.trans x2).kp) hl G).eq;refine xnx rfl (xif<|Je (gtE (J4 (arg2 rfl rfl) e3) rfl)<|xdec (λq=>xret<|Je rfl #[(x1.trans x2).trans x3,.inr #[_,rfl]]) λq=>xnil #[x2.trans x3,#[_,rfl],λy hy=>?_]);rcases ZK.mp hy with hy|hy
  ·exact no y hy
  ·rw[Z9.mp hy];lia
 ·rintro _ h2 ⟨x2,⟨a,rfl⟩,no⟩;rw[Zr,Zb0<|Zm _]at no;exact xret<|Je rfl #[x1.trans x2,.inl #[rfl,λx hx=>no x<|al x hx]]
end
def Let(ds:Tz)(s:Int):Prop:=1<=s/\ask ds s<=s/\∀x∈fL ds s,dem ds x<=x
section
variable{k:Nat}{h:IH}{D:Nat}{rs:Ub}{s:Int}(d:IsDu h D rs)(hl:rs.length<=12)(no:∀r∈rs,r.2=[])(G:∀d∈rs.map (·.1),Gw d)
include d hl no G
theorem Jxz:WE (Jbf (k+7) [.ref D,.int s] h) (λv h'=>Ex h h'/\∃b,v=.bl b/\(b=Zh->Let (rs.map (·.1)) s)) λn h'=>Ex h h'/\h'[n]?=Za (.exc "TooMany" []):=by
 have l20:(rs.map (·.1)).length<=20:=by rw[Zr];lia
 obtain⟨_,h1,e1,rfl,x1⟩:=(Jf5 (k:=k+3) d hl no).eq;obtain⟨vs,hD,w⟩:=d.kp x1.kp;rw[Jgn];refine Jwl ?_;rw[Jb4,Jlp,Jnb];refine WE.of<|Je (J4 (arg1 rfl) e1) ?_;rw[Jb5,Jlp,Jwo];refine WE.of (Je (ltE rfl rfl)<|xdec (λq=>WSE.of<|xret<|Je rfl #[x1,_,rfl,λz=>by cases z]) λq=>?_);rw[Jsl,Jb6,Jlp,Jnb,Jr0];refine WE.of<|Je (arg2 rfl rfl)<|WE.mono (Jju (k:=k+2) (s:=s) hD w.w l20 G) ?_ ?_
 ·rintro _ h2 ⟨c,x2⟩;obtain⟨_,h3,e3,rfl,x3⟩:=(Jhe (k:=k+3) (s:=s) (x2.get hD) (w.w.kp x2.kp) l20 G).eq;have x13:=(x1.trans x2).trans x3;refine WSE.of<|xret ?_;show WR (eAnd _ _ _ _ _) _;unfold eAnd;refine xb<|Je ((binE (J4 (arg2 rfl rfl) e3) rfl).trans rfl) ?_;by_cases q2:ask (rs.map (·.1)) s<=s
  ·refine xb (Je (show tru (.bl (decide (ask (rs.map (·.1)) s<=s))) h3=.ok Zh h3 by rw[decide_eq_true q2];rfl) ?_);rw[if_pos rfl];obtain⟨v,h4,e4,x4,z⟩:=(Jyf (k:=k) (s:=s) ((x2.trans x3).get hD) (w.w.kp (x2.trans x3).kp) l20 G c 05).eq;rcases z with⟨rfl,z⟩|⟨x,rfl⟩
   ·exact Je ((binE (J4 (arg2 rfl rfl) e4) rfl).trans rfl) #[x13.trans x4,_,rfl,λ_=>#[05,q2,z]]
   ·exact Je ((binE (J4 (arg2 rfl rfl) e4) rfl).trans rfl) #[x13.trans x4,_,rfl,λz=>by cases z]
  ·refine xb (Je (show tru (.bl (decide (ask (rs.map (·.1)) s<=s))) h3=.ok Zj h3 by rw[decide_eq_false q2];rfl) ?_);rw[if_neg Zw];exact xok #[x13,_,rfl,λz=>absurd (of_decide_eq_true z) q2]
 ·rintro n h2 ⟨_,e,x2⟩;exact#[#[_,_,e],x1.trans x2,e]
theorem J1f:WR (Jfe (k+8) [.ref D,.int s] h) λv h'=>Ex h h'/\∃b,v=.bl b/\(b=Zh->Let (rs.map (·.1)) s):=by
 rw[Jnq];refine xfin<|xseq<|J3f _ _ ?_;rw[Jzu,Jr0];refine WE.of<|Je (arg2 rfl rfl)<|WE.mono (Jxz (k:=k) d hl no G) ?_ ?_
 ·rintro _ h1 ⟨x1,b,rfl,z⟩;exact xret<|Je rfl #[x1,b,rfl,z]
 ·rintro n h1 ⟨x1,e⟩;refine#["TooMany",_,e,?_];rw[J5g<|show Jg7 "TooMany"=Za Zh by kernel_rfl];exact xset (Je rfl (xret<|Je rfl #[x1,_,rfl,λz=>by cases z]))
end
end
section
seal L4.run L4.WS L4.WR
theorem rise(s1:1<=s)(h:s<=s'):∀ds:Tz,(∀d∈ds,Gw d)->(0<=crd ds s/\crd ds s<=crd ds s')/\(crd ds s=crd ds s'->ask ds s=ask ds s')
 |[],_=>#[#[ZJ _,ZJ _],λ_=>rfl]
 |d::ds,q=>by
  obtain⟨⟨i0,i1⟩,i2⟩:=rise s1 h ds λx hx=>q x<|Zl _ hx
  have g:=q d Z2;have gg:=g.g;have gt:=g.t;have n:0<=cm s d:=by unfold cm rup;rw[if_pos s1];exact Zcb 05 05
  have m:cm s d<=cm s' d:=by unfold cm rup;rw[if_pos s1,if_pos 05];exact ZdJ gg 05
  have e1:∀z,crd (d::ds) z=cm z d+crd ds z:=λz=>by unfold crd;rw[ZQ,ZbE]
  have e2:∀z,ask (d::ds) z=cm z d*d.len+ask ds z:=λz=>by unfold ask;rw[ZQ,ZbE]
  rw[e1,e1,e2,e2];refine#[#[05,05],λe=>?_];have a:cm s d=cm s' d:=05;rw[a,i2 05]
theorem Jx3(ns:Tp)(q:∀x∈ns,1<=x):∃y,maxD ns (.int 1)=.int y/\1<=y:=by
 unfold maxD;split
 ·exact#[1,rfl,ZJ _]
 ·rename_i ne;have pos:0<ns.length:=List.length_pos_iff.mpr ne;have:1<=ns.getD 0 0:=by rw[Zi,Zb pos];exact q _<|ZF pos
  exact#[_,rfl,Zan this<|Jwc (λi=>ns.getD i 0) _ 0 pos]
section
variable{k:Nat}{h:IH}{D:Nat}{vs:Tx}{ds:Tz}
inductive SpI(ds:Tz)(D I:Nat)(h:IH)(m:Nat):ISt->IH->Prop|mk {ts:Tp}{t:Int}{h':IH}(t1:1<=t) (g:h'[I]?=Za (.lst ((t::ts).reverse.map .int))) (l:m+ts.length<=300) (k:Kp h h') (z:ask ds t<=t∨201<=(m:Int)+crd ds t):SpI ds D I h m [Za (.ref D),Za (.ref I),Za (.int (ask ds t))] h'
theorem J1d(eo:o σ h=.ok (.ref I) h)(g:h[I]?=Za (.lst<|(t::ts).reverse.map .int)):Jc Jg o (eUn V8 '1') σ h=.ok (.int t) h:=ixlE eo rfl g Jhi
theorem Ju5(hD:h[D]?=Za (.ins "Duty"<|dfs vs))(w:AllW h vs ds)(hl:ds.length<=20)(G:∀d∈ds,Gw d):WR (Jkj (k+4) [.ref D] h) λv h'=>∃(i:Nat)(t:Int)(ts:Tp),v=.ref i/\h'[i]?=Za (.lst<|(t::ts).reverse.map .int)/\Ex h h':=by
 have hb:=JD;have wl:=w.len;rw[Jtb];have Y:=@Jlx h h (Jy<|Jj "works" 'a') (Jfq<|k+3) [] [Za<|.ref D,Zd,Zd] vs (λ_=>True) (fOf "due" h) (by rw[Qx];exact Je (fldE rfl hD dl0)<|(XE _).mpr #[rfl,rfl,rfl]) 05 (λ_ _=>trivial) (by intro v hv h2 q;obtain⟨d,_,j,hs,rfl,e⟩:=w.of hv;exact Je (fldE rfl (q _ _ e) fl3) #[by rw[fOf,JR e,fl3];rfl,.refl _]);rw[w.mapF (F:=fOf "due" h) (g:=λd=>.int d.due) λj d hs e=>by rw[fOf,JR e,fl3];rfl]at Y;refine xfin<|xseq<|xset<|xlst<|(Yx ..).mpr<|(Jse ..).mpr ?_;generalize hcc:Js _ _ _ _ _ _ _ _=rc at Y;obtain⟨g0,rfl⟩:=Y;obtain⟨top,et,t1⟩:=Jx3 (ds.map (·.due)) λx hx=>by obtain⟨d,hd,rfl⟩:=Zaj.mp hx;exact(G d hd).u
 refine Je (arg1 hcc) (Je rfl #[_,rfl,_,JH,ds.map (·.due),by rw[show ds.map (λd=>IV.int d.due)=(ds.map (·.due)).map IV.int by rw[Za2];rfl];exact QF _,?_]);rw[et];have x1:Ex h (h++IX.lst (ds.map λd=>IV.int d.due)::g0):=.cons _ _ _;generalize h++IX.lst (ds.map λd=>IV.int d.due)::g0=h1 at x1;refine Je rfl #[by show 1<=sizeLine;lia,?_];have x2:Ex h1 (h1++[IX.lst [IV.int top]]):=.one _ _;have x12:=x1.trans x2;have g2:(h1++[IX.lst [IV.int top]])[h1.length]?=Za (.lst<|([top]:Tp).reverse.map .int):=grown;generalize hI:h1.length=I at g2;generalize h1++[IX.lst [IV.int top]]=h2 at x12 g2;obtain⟨_,h3,e3,rfl,x3⟩:=(Jhe (k:=k) (s:=top) (x12.get hD) (w.kp x12.kp) hl G).eq;have lI:h.length<=I:=hI▸x1.len;refine xseq<|xset<|Je (J4 (arg2 rfl (J1d rfl g2)) e3)<|xseq ?_;refine Jiv (SpI ds D I h) ?_ (m:=201) 01 (.mk t1 (x3.get g2) (by show 201+0<=300;decide) (x12.trans x3).kp<|.inr (by have:=(rise t1 (ZJ _) ds G).1.1;lia));rintro m _ h4 (@⟨ts,t,_,t1,g,l,k4,z⟩);refine Jzw (Je (gtE rfl (J1d rfl g))<|xdec (λq=>?_) λq=>#[(λz=>by cases z),λ_=>xret<|Je rfl #[_,_,_,rfl,g,Yb k4]]);obtain⟨_,h5,e5,rfl,x5⟩:=(Jgx (k:=k) (s:=ask ds t) (k4 _ _ hD) (w.kp k4) hl G).eq;refine Je (leE (J4 (arg2 rfl rfl) e5) rfl)<|xdec (λq2=>?_) λq2=>xret<|Je rfl #[_,_,_,rfl,x5.get g,Yb<|k4.trans x5.kp]
 obtain⟨⟨r0,r1⟩,r2⟩:=rise t1 (Zbb q) ds G;obtain⟨m',rfl⟩:∃m',m=m'+1:=#[m-1,05];have g5:=x5.get g;refine#[m',rfl,xseq<|Qq<|QQ rfl g5 VM (Je (arg1 rfl)<|xapp g5 (by rw[Zr,Zcn,ZN];lia) ?_)];have g6:(h5.set I<|.lst<|(t::ts).reverse.map IV.int++[.int<|ask ds t])[I]?=Za (.lst<|(ask ds t::t::ts).reverse.map .int):=by rw[Qg g5,Zbj (a:=ask ds t),ZbN];rfl
 have k6:Kp h (h5.set I<|.lst<|(t::ts).reverse.map IV.int++[.int<|ask ds t]):=λa o e=>Jw (x5.get<|k4 _ _ e) (by have:=J6 e;lia)
 generalize h5.set I (.lst<|(t::ts).reverse.map IV.int++[.int<|ask ds t])=h6 at g6 k6;obtain⟨_,h7,e7,rfl,x7⟩:=(Jhe (k:=k) (s:=ask ds t) (k6 _ _ hD) (w.kp k6) hl G).eq;refine xset (Je (J4 (arg2 rfl rfl) e7)<|.mk 05 (x7.get g6) (by rw[ZN];lia) (k6.trans x7.kp) ?_);by_cases e:crd ds t=crd ds (ask ds t)
 ·have:=r2 e;lia
 ·lia
theorem Jxb{S:Nat}{rs:Ub}{c u:Int}(d:IsDu h D rs)(Gd:Gd u rs)(G:∀d∈rs.map (·.1),Gw d)(pos:0<rs.length)(hS:h[S]?=Za (.lst<|rs.map tp4)):
  WR (Jfd (k+5) [.ref D,.ref S,.int c] h) λv h'=>Ex h h'/\∃x,v=.int x:=by
 have hb:=JD;have few:=Gd.few;obtain⟨vs,hD,w⟩:=d;obtain⟨_,h1,e1,i,t,ts,rfl,g,x1⟩:=(Ju5 (k:=k) hD w.w (by rw[Zr];lia) G).eq;rw[Jnp];refine xfin<|xseq<|xset<|Je (modE rfl rfl 01)<|xseq<|xset<|Je (ixlE (J4 (arg1 rfl) e1) rfl g Jhi)<|xseq<|xif<|Je (eqE rfl rfl)<|xdec (λ_=>xret<|Je rfl #[x1,_,rfl]) λ_=>xnil<|xseq<|xif<|Je (eqE rfl rfl)<|xdec (λ_=>xret<|Je (subE (addE rfl (modE (Qj rfl rfl 01 01) rfl 01)) rfl) #[x1,_,rfl]) λ_=>xnil<|xseq<|xif<|Je (eqE rfl rfl)<|xdec (λ_=>?_) λ_=>xnil ?_
 ·have gS:=x1.get hS;have Y:=@Jlx h1 h1 (Jy 'b') (Jdk<|k+4) [] [Za<|.ref D,Za<|.ref S,Za<|.int c,Za<|.int<|c%4,Za<|.int t] (rs.map tp4) (λh'=>h'[S]?=Za (.lst<|rs.map tp4)) (λv=>match v with|.tup [_,_,x,_]=>x|_=>.non)
   (by rw[Qx];exact Je rfl ((Vb _).mpr #[_,gS,rfl,rfl,rfl])) (by rw[Zr];lia) (λh2 q=>q _ _ gS) (by intro v hv h2 _;obtain⟨r,_,rfl⟩:=Zaj.mp hv;exact Je (ixtE rfl rfl Vx) #[rfl,.refl _])
  refine xret ?_;generalize hcc:Js _ _ _ _ _ _ _ _=rc at Y;obtain⟨g0,rfl⟩:=Y;rw[show(rs.map tp4).map (λv=>match v with|.tup [_,_,x,_]=>x|_=>.non)=(rs.map λr=>r.1.due).map IV.int by rw[Za2,Za2];rfl]at hcc;have mx:∃y,Xu (.ref h1.length) (h1++IX.lst ((rs.map λr=>r.1.due).map IV.int)::g0)=.ok (.int y) (h1++IX.lst ((rs.map λr=>r.1.due).map IV.int)::g0):=by unfold Xu;simp only[JH,QF];rw[if_neg λz=>by rw[List.map_eq_nil_iff]at z;rw[z]at pos;exact absurd pos<|ZcD 0];exact#[_,rfl]
  obtain⟨y,mx⟩:=mx;exact Je ((cbE<|arg1 hcc).trans mx) #[x1.trans<|.cons _ _ _,_,rfl]
 ·have e0:atI (rs.map tp4) 0=Za (tp4 rs[0]):=JL (n:=0)<|by rw[Zy,Zb pos];rfl
  have f:=Gd.f _<|ZF pos;have g1:=f.g1;have u1:=Gd.u1;exact xret<|Je (addE rfl (modE (Qj rfl rfl 01 01) (mulE rfl (ixtE (ixlE rfl rfl (x1.get hS) e0) rfl QU) (.inl 01)) 05)) #[x1,_,rfl]
end
end
section
seal L4.run L4.WS L4.WR
def nmQ(n:Nat):Str:=⟨#[97+n]⟩
theorem J1t:∀n,n<5->IsNm (nmQ n):=by unfold IsNm;decide +kernel
theorem Jx7:∀n,n<5->∀l,l<5->nmQ n=nmQ l->n=l:=by decide +kernel
theorem cpsQ:(Zba "abcde").cps.toList=(ZU 5).map (97+ ·):=by decide +kernel
theorem lenQ:(Zba "abcde").length=5:=by decide +kernel
theorem Jv4:∀(ys:Tx)(i0:Nat),(∀y∈ys,∃r,F8 unit r/\y=tp4 r)->∃rs:Ub,ys=rs.map tp4/\∀i r,rs[i]?=Za r->F8 unit r/\r.1.name=nmQ (i0+i)
 |[],_,_=>#[[],rfl,λi r e=>by simp at e]
 |y::ys,i0,q=>by
  obtain⟨r,f,rfl⟩:=q y<|Z2 ..;obtain⟨rs,rfl,P⟩:=Jv4 ys (i0+1) λz hz=>q z<|Zl _ hz
  refine#[({r.1 with name:=nmQ i0},r.2)::rs,rfl,λi s e=>?_];cases i with
  |zero=>cases Zam e;exact#[#[f.g1,f.g2,f.l1,f.l2,f.d1,f.d2,f.t1,f.t2,f.no],rfl]
  |succ i=>have:=P i s e;rwa [show i0+(i+1)=i0+1+i by lia]
theorem e15(σ:ISt)(h:IH):Jc JS (eC<|.int 10) (eC<|.int 15) σ h=.ok (.int 1000000000000000) h:=Jv (by rw[VI,Qw,Qw,Jm6];exact#[01,congrArg IV.int (by decide +kernel),rfl])
abbrev st55(s:Tx)(x u:Int)(m:Nat)(a4 a5 a6 a7 a8 a9 b0 b1 b2 b3 b4 b5 b6 b7 b8:Te):ISt:=[Za<|.rol s,Za<|.int x,Za<|.int u,Za<|.int (m:Int),a4,a5,a6,a7,a8,a9,b0,b1,b2,b3,b4,b5,b6,b7,b8]
theorem Gd.gw{u:Int}{rs:Ub}(G:Gd u rs):∀d∈rs.map (·.1),Gw d:=λd hd=>by obtain⟨r,hr,rfl⟩:=Zaj.mp hd;have l:=(G.gl _<|List.mem_map_of_mem hr).2;have f:=G.f r hr;have a:=f.g1;have b:=f.g2;have c:=f.l1;have e:=f.l2;have u1:=G.u1;have u2:=G.u2;exact#[05,l,05,05,c,f.d1,f.t1]
theorem Gd.nm(G:Gd u rs):∀r∈rs,Nm r (20*u+20):=λr hr=>by have f:=G.f r hr;have a:=f.g1;have b:=f.g2;have c:=f.t2;have u1:=G.u1;exact#[05,f.l1,f.d1,f.t1,05]
theorem Let.room{u F:Int}{rs:Ub}{cs:Uc}(G:Gd u rs)(L:Legal rs cs)(l:Let (rs.map (·.1)) F):∀(n:Nat)(b d:Int),d-b<=n->wP (inS rs b d) cs<=d-b∨wP (inS rs b d) cs<=0:=J0g L G.nm l.1 l.2.1 λr hr t ht=>l.2.2 _ (by
  unfold fL bL;rw[List.mem_flatMap];refine#[_,List.mem_map_of_mem hr,Zaj.mpr #[t,Za0.mpr ?_,rfl]];have g:=(G.nm r hr).g;have t0:=ZfC (Int.natCast_nonneg t)<|Zbb g;unfold dm;rw[if_pos 05];have:(t:Int)<=(F+r.1.late-r.1.due)/r.1.gap:=by rw[ZbS g];lia
  lia)
section
variable{k:Nat}{h:IH}
theorem osE{e:E1}{σ:ISt}{i:Int}{h1:IH}(q:e σ h=.ok (.int i) h1):Vn e σ h=.ok (Za i) h1:=by unfold Vn;rw[q];rfl
theorem J0e{i j:Nat}(hi:h[i]?=Za (.lst []))(hj:h[j]?=Za (.lst [])):cEq (.ref i) (.ref j) h=.ok (.bl Zh) h:=by
 have e1:∀{i:Nat},h[i]?=Za (.lst [])->toD h 6 (.ref i)=Za (.list []):=λe=>by rw[Jy4 e];rfl
 have e3:Vz (.ref i) (.ref j) h=Za Zh:=by unfold Vz;rw[e1 hi,e1 hj];simp[PyData.canLay0,PyData.canLayAll0,PyData.eqv,PyData.eqvAll]
 unfold cEq;rw[show X7 (.ref i) (.ref j)=Zd from rfl];dsimp only;rw[e3]
theorem Jq7{cs:Uc}(d:IsDu h D rs)(G:Gd u rs)(t0:h[0]?=Za (.tab "Order.pick"))(hM:h[M]?=Za (.lst<|cs.map tupC))(L:Legal rs cs)(lc:cs.length<=14):∃h1 h2 O R,Ex h h2/\Bg h2 rs cs O R/\(∀{e:E1}{σ:ISt},e σ h=.ok (.ref D) h->Q5 "ByDue" (XI<|k+4) [] (Jb e Jd) σ h=.ok (.ref O) h1)/\∀{e:E1}{σ:ISt},e σ h1=.ok (.ref M) h1->eCB (on1 QH) (Jb e Jd) σ h1=.ok (.ref R) h2:=by have fw:=G.few;obtain⟨_,h1,e1,rfl,x1,o⟩:=(Js0 (k:=k) d 05 λr hr=>(G.f r hr).no).eq;have x2:Ex h1 (h1++[IX.lst<|cs.map tupC]):=.one _ _;exact#[h1,_,h.length,h1.length,x1.trans x2,#[o.kp x2.kp,grown,λc hc=>(L.ok c hc).at_,G.six,(x1.trans x2).get t0,05],λe=>Jv<|(Jis ..).mpr<|Je (arg1 e)<|Je e1 #[rfl,rfl,rfl],λe=>J4g e<|x1.get hM]
theorem J4h{ns:Tp}{x u:Int}{m D S:Nat}{rs:Ub}{a5 a6 a7 a8 a9 b0:Te}(d:IsDu h D rs)(G:Gd u rs)(t0:h[0]?=Za (.tab "Order.pick"))(t1:h[1]?=Za (.tab "Bench.__init__"))(hS:h[S]?=Za (.lst<|rs.map tp4))(lm:rs.length=m)(m1:1<=m){Nx:ISt->IH->Prop}:
  WS (Joy (k+10) (st55 (ns.map IV.int) x u m (Za<|.ref S) a5 a6 a7 a8 a9 b0 (Za<|.ref D) Zd Zd Zd Zd Zd Zd Zd) h) Nx λv _=>v=.bl Zh:=by
 have hb:=JD;have fw:=G.few;obtain⟨_,h1,e1,x1,F,rfl⟩:=(Jxb (k:=k+5) (c:=x/40) d G G.gw 05 hS).eq;obtain⟨_,h2,e2,x2,b,rfl,lt⟩:=(J1f (k:=k+2) (s:=F) (d.kp x1.kp) 05 (λr hr=>(G.f r hr).no) G.gw).eq;have x12:=x1.trans x2;refine xseq<|xset<|Je (J4 (arg2 rfl (J4 (arg3 rfl rfl (Qj rfl rfl 01 01)) e1)) e2) ?_;generalize hcs:(ns.take<|15+m).drop (1+m)=cells;have lc:cells.length<=14:=by rw[<-hcs];simp;lia
 have sl:∀(h:IH){σ:ISt},Ja 0 σ h=.ok (.rol<|ns.map IV.int) h->Ja 3 σ h=.ok (.int (m:Int)) h->eSl slI 'a' (Vn<|Jc Jo '1' 'd') (Vn<|Jc Jo (eC<|.int 15) 'd') σ h=.ok (.ref h.length) (h++[.lst<|cells.map IV.int]):=λh σ e0 e3=>by refine Jv<|(J3b ..).mpr<|Je e0<|Je (osE<|addE rfl e3)<|Je (osE<|addE rfl e3) ?_;rw[J3d,show(1:Int)+(m:Int)=((1+m:Nat):Int) by lia,show(15:Int)+(m:Int)=((15+m:Nat):Int) by lia,Jw2,<-List.map_take,<-List.map_drop,hcs];exact#[rfl,rfl]
 have x3:Ex h2 (h2++[IX.lst<|cells.map IV.int]):=.one _ _;obtain⟨_,h4,e4,cs,rfl,gM,L,lcs,x4⟩:=(J2a (k:=k+8) G 05 ((x12.trans x3).get hS) grown lc).eq;refine xseq<|xset<|Je (J4 (arg2 (sl _ rfl rfl) rfl) e4) ?_;have x14:=x12.trans<|x3.trans x4;generalize List.length (h2++[IX.lst<|cells.map IV.int])=M at gM;have d4:=d.kp x14.kp;obtain⟨h5,h6,O,R,x6,B,eO,eR⟩:=Jq7 (k:=k+6) d4 G (x14.get t0) gM L lcs;obtain⟨_,h7,e7,j,rfl,_,gE,x7⟩:=(Jpq (k:=k+2) B ((x14.trans x6).get t1) L 05).eq;have x67:=x6.trans x7;have M7:=x67.get gM;have le:((Qk rs cs).map IV.int).length=cs.length:=by simp[Qk]
 have lmm:(cs.map tupC).length=cs.length:=03;have ty:(tyI (.ref j) h7).bind QT=Za Zh:=by rw[Jwi gE];rfl
 refine xseq (xset<|Je (J4 (arg2 (eO rfl)<|eR rfl) e7)<|xseq<|xiff (orF (notE<|truE<|isiE (b:=Zh) rfl rfl)<|orF (notE<|truE<|isiE rfl ty)<|okc (tofE<|(binE (lenE rfl gE)<|lenE rfl M7).trans rfl)<|by rw[le,lmm];simp)<|xnil<|xseq ?_);cases b with|false=>exact xift (notE (c:=Zj)<|truE rfl)<|xret<|Je rfl rfl|true=>
  refine xiff (notE (c:=Zh)<|truE rfl)<|xnil ?_;have H:=(lt rfl).room G L;have S7:=(x14.trans x67).get hS;refine xseq (xrng (n:=cs.length) ((lenE rfl M7).trans<|by rw[lmm]) 05 ?_);refine Vc (λn σ h'=>h'=h7/\∃c6 c15 c16 c17 c18,σ=st55 (ns.map IV.int) x u m (Za<|.ref S) a5 c6 a7 a8 a9 b0 (Za<|.ref D) (Za<|.bl Zh) (Za<|.ref M) (Za<|.ref j) c15 c16 c17 c18) (λ_ _ _ _=>trivial) ?_ ?_ #[rfl,_,_,_,_,_,rfl]
  ·rintro n hn _ _ ⟨rfl,c6,c15,c16,c17,c18,rfl⟩;rw[Qe]at hn;rw[V9,show(0:Int)+(n:Int)=n by lia];have hn':n<cs.length:=05;have ok:=L.ok _<|Jvq hn';have an:=ok.at_;obtain⟨q1,q2⟩:=Jqb L G.six H hn';unfold duC at q2;rw[Juf<|Zb an]at q2;unfold rdC at q1;have ea:atI (rs.map tp4) ((cs.getD n cd).at_:Int)=Za (tp4 rs[(cs.getD n cd).at_]):=JL<|by rw[Zy,Zb an];rfl
   have eE:=Jpp (rs:=rs) hn';exact xnx rfl (xseq<|(XG ..).mpr<|Je (ixlE rfl rfl M7 (XW hn'))<|xnx rfl (xiff (orF (okc (gtE (ixlE rfl rfl gE eE)<|addE rfl (ixtE (ixlE rfl rfl S7 ea) rfl Vx))<|decide_eq_false 05)<|okc (ltE (ixlE rfl rfl gE eE)<|addE (addE rfl rfl) rfl)<|decide_eq_false 05)<|xnil #[rfl,_,_,_,_,_,rfl]))
  ·rintro _ _ ⟨rfl,c6,c15,c16,c17,c18,rfl⟩;obtain⟨h8,h9,O',R',x9,B',eO',eR'⟩:=Jq7 (k:=k+6) (d4.kp x67.kp) G ((x14.trans x67).get t0) M7 L lcs;obtain⟨_,h10,e10,j',rfl,_,gE',x10⟩:=(Jqz (k:=k+1) B' ((x14.trans<|x67.trans x9).get t1) L 05).eq;rw[Jq3 L G.six H]at gE';exact xret<|Je ((binE (J4 (arg2 (eO' rfl)<|eR' rfl) e10)<|lstE rfl rfl).trans<|J0e (grow gE') grown) rfl
theorem J2b{ns:Tp}{x u:Int}{m:Nat}(hu:1<=u)(hu2:u<=1000000000000000)(m1:1<=m)(m5:m<=5)(t0:h[0]?=Za (.tab "Order.pick"))(t1:h[1]?=Za (.tab "Bench.__init__")){Nx:ISt->IH->Prop}:
  WS (Jox (k+10) (st55 (ns.map IV.int) x u m Zd Zd Zd Zd Zd Zd Zd Zd Zd Zd Zd Zd Zd Zd Zd) h) Nx λv _=>v=.bl Zh:=by
 have hb:=JD;obtain⟨v,h4,ev,rfl,ys,gS,ly,k4,dS'⟩:=(Jm0 (h:=h) (h0:=h) (it:=iRg Qd<|Jb 'd' Jd) (e:=Ji2<|k+10) (js:=[3,0,2]) (σ:=st55 (ns.map IV.int) x u m Zd Zd Zd Zd Zd Zd Zd Zd Zd Zd Zd Zd Zd Zd Zd) (xs:=rngI 0 (m:Int)) (chk:=λ_=>True)
  (λ_ y _=>∃r,F8 u r/\y=tp4 r)
  (by
   rw[Vt];refine Je (arg1 rfl) ?_;rw[VY];exact#[05,rfl,rfl,rfl]) (by rw[Qe];lia) (λ_ _ _ _ _ z=>z) (λ_ _=>trivial) (by
   intro v hx h4 q lt;obtain⟨n,hn,rfl⟩:=Za5.mp hx;rw[V9,show(0:Int)+(n:Int)=n by lia];exact(Jip ..).mpr<|Je (arg3 (J4 (arg2 rfl (addE rfl rfl))<|Jo9 ns (1+(n:Int)) 05) rfl rfl)<|Juc (k:=k+8) hu hu2 m1 m5)).eq
 refine xseq<|xset<|Je ev ?_;rw[Qe]at ly;have ly:ys.length=m:=05;have t0:=k4 _ _ t0;have t1:=k4 _ _ t1;obtain⟨rs,rfl,P4⟩:=Jv4 (unit:=u) ys 0 λy hy=>by obtain⟨i,hi,rfl⟩:=Za5.mp hy;exact dS' i _ _ (Zb<|show i<(rngI 0 (m:Int)).length by rw[Qe];lia)<|Zb hi
 have P4:∀i r,rs[i]?=Za r->F8 u r/\r.1.name=nmQ i:=λi r e=>by have:=P4 i r e;rwa [ZbD]at this
 clear dS' k4;rw[Zr]at ly;generalize h.length=S at gS ⊢;have G:Gd u rs:=#[hu,hu2,05,λr hr=>by
  obtain⟨i,hi⟩:=Zfq.mp hr;exact(P4 i r hi).1,by
  rw[List.Nodup,Zbe];intro i j hi hj hij e;rw[Zr]at hi hj;rw[ZaD,ZaD,(P4 i _<|Zb hi).2,(P4 j _<|Zb hj).2]at e;have:=Jx7 i 05 j 05 e;lia]
 refine xseq<|xset<|Je (lstE rfl rfl)<|xseq<|xrng (n:=m) rfl 05 ?_;refine Vc (λn σ h'=>∃(vs:Tx)(a b c d e:Te),σ=st55 (ns.map IV.int) x u m (Za<|.ref S) (Za<|.ref h4.length) a b c d e Zd Zd Zd Zd Zd Zd Zd Zd/\h'[h4.length]?=Za (.lst vs)/\Kp h4 h'/\AllH h' vs (rs.take n)) (λ_ _ _ _=>trivial) ?_ ?_ #[[],Zd,Zd,Zd,Zd,Zd,rfl,grown,(Ex.one _ _).kp,#[rfl,λi v d a=>by simp at a]]
 ·rintro n hn _ h1 ⟨vs,a,b,c,d,e,rfl,g1,k1,w⟩;rw[V9];rw[Qe]at hn;have hn':n<rs.length:=05;obtain⟨f6,nm⟩:=P4 n _<|Zb hn';have ea:atI (rs.map tp4) (n:Int)=Za (tp4 rs[n]):=JL<|by rw[Zy,Zb hn'];rfl
  have wl:=w.len;have lt:=J6 g1;have hv:vs.length<=5:=by rw[wl,ZeG];lia
  rw[Za7 hn',show(0:Int)+(n:Int)=n by lia];generalize rs[n]=r at f6 nm ea;have u1:=f6.g1;have eN:∀{σ:ISt}{h:IH},Ja 6 σ h=.ok (.int (n:Int)) h->Jc Jg (eC<|.str "abcde") 'g' σ h=.ok (.str r.1.name) h:=λ{σ h} e6=>by
   have e:atI (Zba "abcde").cps.toList (n:Int)=Za (97+n):=by rw[cpsQ];refine JL ?_;rw[Zy,Zda 05];rfl
   rw[binE rfl e6,nm];simp only[Jg];rw[if_pos (by rw[lenQ];lia),e];rfl
  have xc:∀{a:E1}{r:A1}{σ:ISt}{h:IH}{Q:Tx->IH->Prop},WR (a σ h) (λx h1=>WR (r σ h1) λxs h2=>Q (x::xs) h2)->WR (Jb a r σ h) Q:=λx=>(Yx ..).mpr x
  refine xnx rfl (xseq<|(XG ..).mpr<|Je (ixlE rfl rfl (k1 _ _ gS) ea)<|xnx rfl (Qq<|QQ rfl g1 VM (xc<|(Jis ..).mpr<|Je (argC (eN rfl)<|arg4 rfl rfl rfl rfl) ?_)));refine WR.mono (Jx2 (k:=k+5) (hs:=[]) (by rw[nm];exact J1t n 05) 05 f6.l1 f6.t1 (λh1=>Jn4 f6.d1 f6.d2) λh1 z=>Je (Jic _) #[rfl,.refl _]) ?_;rintro _ h3 ⟨rfl,g3,rfl⟩;refine#[rfl,Je rfl ?_];have x3:Ex h1 (h1++IX.ins "Work" (wfs r.1.name r.1.gap r.1.len r.1.due r.1.late [])::g3):=.cons _ _ _;have gw:(h1++IX.ins "Work" (wfs r.1.name r.1.gap r.1.len r.1.due r.1.late [])::g3)[List.length h1]?=Za (wo r):=by unfold wo;rw[f6.no];exact JH
  generalize h1++IX.ins "Work" (wfs r.1.name r.1.gap r.1.len r.1.due r.1.late [])::g3=h5 at x3 gw ⊢;refine xapp (x3.get g1) 05 #[_,_,_,_,_,_,rfl,Qg<|x3.get g1,λa o e=>Jw (x3.get<|k1 _ _ e) (by have:=J6 e;lia),by simp[wl],λi u' d a b=>?_];by_cases hi:i<vs.length
  ·rw[ZI hi]at a;rw[ZI 05]at b;obtain⟨j,e,z⟩:=w.at_ i u' d a b;exact#[j,e,Jw (x3.get z) λej=>by rw[<-ej,g1]at z;cases z]
  ·rw[ZE 05]at a b;have hi':=(Zs.mp a).1;rw[Zbn]at hi';rw[show i-vs.length=0 by lia]at a;rw[show i-(rs.take n).length=0 by lia]at b;cases a;cases b;exact#[_,rfl,Jw gw 05]
 ·rintro _ h1 ⟨vs,a,b,c,d,e,rfl,g1,k1,w⟩;rw[Qe,Zb0 05]at w;refine xseq<|xset<|(Jis ..).mpr<|Je (arg1 rfl)<|WR.mono (J3v (k:=k+7) g1 w G) ?_;rintro _ h5 ⟨rfl,x5,d5⟩;have xx:=k1.trans x5.kp;exact#[rfl,J4h (k:=k) d5 G (xx _ _ t0) (xx _ _ t1) (xx _ _ gS) ly m1]
theorem Jtt(ns:Tp)(hl:ns.length<=63):∃h',Xb 16 [.rol<|ns.map IV.int] [.tab "Order.pick",.tab "Bench.__init__"]=.ok (.bl Zh) h':=by
 suffices h:WR (Xb 16 [.rol<|ns.map IV.int] [.tab "Order.pick",.tab "Bench.__init__"]) λv _=>v=.bl Zh by obtain⟨v,h',e,rfl⟩:=h.eq;exact#[h',e]
 rw[J0j];refine xfin<|xseq<|xset<|Je (J4 (arg2 rfl rfl)<|Jo9 ns 0 01) ?_;generalize ns.getD (Zdz 0) 0=x0;obtain⟨md,em,hm1,hm2⟩:∃x:Int,atI [IV.int 3,IV.int 1000000000000000] (x0%2)=Za (.int x)/\0<x/\x<=1000000000000000:=by
  have:x0%2=0∨x0%2=1:=05;rcases this with q|q<;>rw[q]
  ·exact#[_,QU,01,01]
  ·exact#[_,Vw,01,01]
 have u0:=ZaJ (x0/4) (b:=md) 05;have u1:=Za1 (x0/4) hm1;obtain⟨m,e1,m1,m2⟩:∃m:Nat,1+x0/8%5=(m:Int)/\1<=m/\m<=5:=#[(1+x0/8%5).toNat,05,05,05];exact xseq<|xset<|Je (addE rfl (modE (Qj rfl rfl 01 01) (pkE (arg2 rfl (e15 _ _)) rfl (modE rfl rfl 01) em) hm1))<|xseq<|xset<|Je (okc (addE rfl (modE (Qj rfl rfl 01 01) rfl 01))<|congrArg IV.int e1)<|J2b (k:=5) 05 05 m1 m2 rfl rfl
end
end
end LW
end
namespace LW
open PySem L2 L3 L4
section
local macro_rules | `(tactic| bv_omega) => `(tactic| exact #[scOk.of (by decide +kernel), rfl, rfl, λ _ _ _ _ _ _ => by first | exact len1 λ _ => rfl | exact len2 λ _ _ => rfl | exact len3 λ _ _ _ => rfl | exact len4 λ _ _ _ _ => rfl])
variable{K:W.Frag}{h:Zaw}{mg:Str->Wz}{a:Zo}{oc kV dc pm cd ct:Zg}{od an:Tc}{sl:Wc}
theorem Jld:FnB "is_whole" "is_whole" Jcf:=by bv_omega
theorem Jey:FnB "is_whole_from" "is_whole_from" Jah:=by bv_omega
theorem Jj9:FnB "rounds_up" "rounds_up" Jbs:=by bv_omega
theorem Jn8:FnB "is_name" "is_name" Jdq:=by bv_omega
theorem Jj7:FnB "own_holds" "own_holds" Jbq:=by bv_omega
theorem Joc:FnB "own_due" "own_due" Jdu:=by bv_omega
theorem Jj3:FnScope Qn.N Qn.ps (JP Qn.st):=scOk.of<|by decide +kernel
theorem Jjr{C T:Zo}{ox:Zg}{oy:Tc}{nx:Nat}{sx:Wc}{tk1:Tok}(ha:W.findIn K (.ref C) "__init__"=Za (Za<|.ref a))(hi:W.isFn K (.ref a)=Zh)(hl:K.lookup a=Za #[oc,od,.func<|W.fnOf "__init__" "Work.__init__" (QE Qn.st) (Qo Qn.st) (JP Qn.st) (.ref T) kV dc pm an cd ct,sl])(hc:W.codeIn K cd "Work.__init__"=Zh)(hk:W.keepIn K (.ref a)=Zh)(hd:K.lookup T=Za #[ox,oy,.seq (Zay [.none,.int 0 tk1,.none]) nx,sx])(hm:W.makesIn K C=Zh)(hq:W.keepIn K (.ref C)=Zh):∃fa fd,Mk K C fa/\DefOk K "__init__" Qn fa fd:=#[a,_,#[hm,ha,hi,hq],#[#[_,#[oc,od,kV,dc,pm,an,cd,ct,sl,rfl,hl,hc],hk],Jj3,(by intro j hj;rcases J5f j (show j<=3 from hj)with rfl|rfl|rfl|rfl;exact#[[.none,.int 0 tk1,.none],λs us Y hl=>len4 (P:=λus=>Zd1 s _ #[us,[]]<|Qn.ps.zip<|us++[.none,.int 0 tk1,.none]) (λ_ _ _ _=>.of_defaults rfl (Y T _ hd) rfl rfl rfl) us (show us.length=4 by rw[Z7]at hl;exact ZcQ (m:=3) hl),rfl,[V.non,V.int 0,V.non],.cons rfl (.cons #[_,rfl]<|.cons rfl (.nil)),λ_ _=>#[_,_,rfl,rfl,#[_,_,rfl,rfl,#[_,_,rfl,rfl,rfl]]]];exact#[[.int 0 tk1,.none],λs us Y hl=>len5 (P:=λus=>Zd1 s _ #[us,[]]<|Qn.ps.zip<|us++[.int 0 tk1,.none]) (λ_ _ _ _ _=>.of_defaults rfl (Y T _ hd) rfl rfl rfl) us (show us.length=5 by rw[Z7]at hl;exact ZcQ (m:=2) hl),rfl,[V.int 0,V.non],.cons #[_,rfl]<|.cons rfl (.nil),λ_ _=>#[_,_,rfl,rfl,#[_,_,rfl,rfl,rfl]]];exact#[[.none],λs us Y hl=>len6 (P:=λus=>Zd1 s _ #[us,[]]<|Qn.ps.zip<|us++[.none]) (λ_ _ _ _ _ _=>.of_defaults rfl (Y T _ hd) rfl rfl rfl) us (show us.length=6 by rw[Z7]at hl;exact ZcQ (m:=1) hl),rfl,[V.non],.cons rfl (.nil),λ_ _=>#[_,_,rfl,rfl,rfl]];exact#[[],λs us Y hl=>len7 (P:=λus=>Zd1 s _ #[us,[]]<|Qn.ps.zip<|us++[]) (λ_ _ _ _ _ _ _=>.of_defaults rfl (Y T _ hd) rfl rfl rfl) us (show us.length=7 by rw[Z7]at hl;exact ZcQ (m:=0) hl),rfl,[],.nil,λ_ _=>rfl])]]
theorem Jj2:FnB "held" "Work.held" Jbm:=by bv_omega
theorem Jlb:FnB "ceilings" "ceilings" Jcd:=by bv_omega
theorem Jf8:FnB "refuse_holds" "refuse_holds" Jam:=by bv_omega
theorem Jii:FnB "comings_in" "comings_in" Ja4:=by bv_omega
theorem Jn7:FnB "dues_in" "dues_in" Jdp:=by bv_omega
theorem Jri:FnB "demand" "demand" Je2:=by bv_omega
theorem Juj:FnB "asked" "asked" Jhr:=by bv_omega
theorem Jn6:FnB "crowded" "crowded" Jdo:=by bv_omega
theorem Jef:FnB "refuse_crowded" "refuse_crowded" Jae:=by bv_omega
theorem Juk:FnB "bends" "bends" Jhs:=by bv_omega
theorem Jd3:FnB "first_overdrawn" "first_overdrawn" Jac:=by bv_omega
theorem Jgr:FnB "lets_by_due" "lets_by_due" Jas:=by bv_omega
theorem Jum:FnB "spans" "spans" Jhu:=by bv_omega
theorem Jul:FnB "ready" "ready" Jht:=by bv_omega
theorem Jrj:FnB "due_at" "due_at" Je3:=by bv_omega
theorem Jj4:FnB "is_coming" "is_coming" Jbn:=by bv_omega
theorem Jgp:FnB "first_wrong" "first_wrong" Jaq:=by bv_omega
theorem Jn5:FnB "checked" "checked" Jdn:=by bv_omega
theorem Jj6:FnB "next_stop" "next_stop" Jbp:=by bv_omega
theorem Jie:FnB "__init__" "Bench.__init__" Ja0:=by bv_omega
theorem Jc2:FnB "next_ready" "Bench.next_ready" Jaa:=by bv_omega
theorem Jf7:FnB "let_in" "Bench.let_in" Jal:=by bv_omega
theorem Jd1:FnB "turns_for" "Bench.turns_for" Jab:=by bv_omega
theorem Jif:FnB "tell" "Bench.tell" Ja1:=by bv_omega
theorem Jgo:FnB "go_on" "Bench.go_on" Jap:=by bv_omega
theorem J2q:FnB "run" "run" Jsx:=by bv_omega
theorem Jyr:FnB "ends" "ends" Jlz:=by bv_omega
theorem Jrk:FnB "missed" "missed" Je4:=by bv_omega
theorem Jj8:FnB "own_works" "own_works" Jbr:=by bv_omega
theorem Jlc:FnB "crowd_of" "crowd_of" Jce:=by bv_omega
theorem Jjz:FnB "__init__" "Duty.__init__" Jbj:=by bv_omega
theorem Jj0:FnB "size" "Duty.size" Jbk:=by bv_omega
theorem Jj1:FnB "work" "Duty.work" Jbl:=by bv_omega
theorem Jih:FnB "__init__" "Order.__init__" Ja3:=by bv_omega
theorem Jcp:FnB "holds" "Order.holds" Xg:=by bv_omega
theorem Jd2:FnB "pick" "Order.pick" Xh:=by bv_omega
theorem Ja9:FnB "standing" "Order.standing" Xj:=by bv_omega
theorem Jig:FnB "__init__" "ByDue.__init__" Ja2:=by bv_omega
theorem Jex:FnB "rank_of" "ByDue.rank_of" Jag:=by bv_omega
theorem Jgq:FnB "_law_cell_at" "_law_cell_at" Jar:=by bv_omega
theorem Jij:FnB "_law_stream" "_law_stream" Ja5:=by bv_omega
theorem Jj5:FnB "_law_plain" "_law_plain" Jbo:=by bv_omega
theorem Jn9:FnB "_law_far" "_law_far" Jdr:=by bv_omega
theorem Job:FnB "_law_row" "_law_row" Jdt:=by bv_omega
theorem Joa:FnB "_law_let" "_law_let" Jds:=by bv_omega
theorem J2p:FnScope QD.N QD.ps (JP QD.st):=scOk.of<|by decide +kernel
theorem J1r(X:K.In h)(G:h.Ns Zu mg)(ha:W.nsIn K Zu "law"=Za (Za<|.ref a))(hl:K.lookup a=Za #[oc,od,.func<|W.fnOf "law" "law" (QE QD.st) (Qo QD.st) (JP QD.st) .none kV dc pm an cd ct,sl])(hc:W.codeIn K cd "law"=Zh)(hk:W.keepIn K (.ref a)=Zh):∃fa fd,mg "law"=Za (.ref fa)/\DefOk K "law" QD fa fd/\∀(s:Zk) (v:Zg),Zd1 s fd #[[v],[]] [("_law_script",v)]:=#[a,_,W.mg_of X G ha,Jvj (d:=QD) hl hc hk J2p rfl (len1 λ_=>rfl),λs v=>.of_eq rfl]
theorem Yk(pg:W.plainGet K C Str.empty=Zh)(hd:W.hasDictIn K C=Zh)(po:W.plainOver K C=Zh)(sa:W.findIn K (.ref C) "__setattr__"=Za (Za<|.builtin "object.__setattr__"))(h1:W.findIn K (.ref C) "__class__"=Za (Za<|.builtin "object.__class__"))(h2:W.specialIn K (.builtin "object.__class__") "__get__"=Za (Za<|.builtin "getset_descriptor.__get__"))(h3:W.takesIn K (.builtin "object.__class__")=Za Zh)(h4:W.mroIn K C (.type "object")=Za Zh)(n0:W.findIn K (.ref C) "append"=Za Zd)(n1:W.findIn K (.ref C) "dones"=Za Zd)(n2:W.findIn K (.ref C) "due"=Za Zd)(n3:W.findIn K (.ref C) "duty"=Za Zd)(n4:W.findIn K (.ref C) "extend"=Za Zd)(n5:W.findIn K (.ref C) "gap"=Za Zd)(n6:W.findIn K (.ref C) "hold_tuples"=Za Zd)(n7:W.findIn K (.ref C) "late"=Za Zd)(n8:W.findIn K (.ref C) "later"=Za Zd)(n9:W.findIn K (.ref C) "length"=Za Zd)(n10:W.findIn K (.ref C) "name"=Za Zd)(n11:W.findIn K (.ref C) "order"=Za Zd)(n12:W.findIn K (.ref C) "place"=Za Zd)(n13:W.findIn K (.ref C) "pop"=Za Zd)(n14:W.findIn K (.ref C) "remove"=Za Zd)(n15:W.findIn K (.ref C) "row"=Za Zd)(n16:W.findIn K (.ref C) "setdefault"=Za Zd)(n17:W.findIn K (.ref C) "stretches"=Za Zd)(n18:W.findIn K (.ref C) "turn"=Za Zd)(n19:W.findIn K (.ref C) "waiting"=Za Zd)(n20:W.findIn K (.ref C) "works"=Za Zd):ClsI K C/\All (λf=>Qz K C f) T.flds:=#[#[#[pg,hd,po,sa],h1,h2,h3,h4],.cons n0<|.cons n1<|.cons n2<|.cons n3<|.cons n4<|.cons n5<|.cons n6<|.cons n7<|.cons n8<|.cons n9<|.cons n10<|.cons n11<|.cons n12<|.cons n13<|.cons n14<|.cons n15<|.cons n16<|.cons n17<|.cons n18<|.cons n19<|.cons n20<|.nil]
theorem J1q(ga:W.findIn K (.ref C) "__getattribute__"=Za (Za<|.builtin "BaseException.__getattribute__"))(mb:W.mroIn K C (.type "BaseException")=Za Zh)(gn:W.findIn K (.ref C) "__getattr__"=Za Zd)(ca:W.findIn K (.ref C) "__class__"=Za (Za<|.builtin "object.__class__"))(mo:W.mroIn K C (.type "object")=Za Zh)(hd:W.hasDictIn K C=Zh):ExI K C:=#[ga,mb,gn,ca,mo,hd]
theorem J1p(sp:W.specialIn K (.ref C) "__getattribute__"=Za (Za<|.builtin "type.__getattribute__"))(rd:W.readsIn K C (.type "type")=Zh)(fi:W.findIn K (.ref C) "__init__"=Za (Za<|.ref a))(fc:W.findCls K (.ref C) (.type "type") "__init__"=Za (.val<|.ref a))(kp:W.keepIn K (.ref a)=Zh):BasK K C:=#[sp,rd,a,fi,fc,kp]
abbrev DfO(K:W.Frag)(mg:Str->Wz)(x:Str)(d:D4):Prop:=∃fa fd,mg x=Za (.ref fa)/\DefOk K x d fa fd
abbrev DmO(K:W.Frag)(C:Zo)(x:Str)(d:D4):Prop:=∃fa fd,Meth K C x fa/\DefOk K x d fa fd
theorem fin{prog:ZD}{w:ZV}(X:K.In h)(G:h.Ns Zu mg)(hfa:mg "law"=Za (.ref fa)){C_Work C_Bench C_Duty C_Order C_ByDue C_TooMany:Zo}{tk_MOST_LETTERS tk_MOST_HOLDS tk_THING tk_START tk_END tk_MOST_CROWDED tk_MOST_COMINGS tk_AT:Tok}{tk_COME tk_LATE tk_LENGTH tk_PLACE tk_FROM tk_UNTIL tk_MOST_WORKS tk_MOST_CROWD:Tok} (aX_TooMany:W.nsIn K Zu "TooMany"=Za (Za<|.ref C_TooMany)) (xc_TooMany:W.excIn K C_TooMany [.type "ValueError",.type "Exception",.type "BaseException",.type "object"] "ValueError.__new__"=Zh) (ei_TooMany:ExI K C_TooMany) (kk_TooMany:kits K (.ref C_TooMany) [(C_TooMany,Zh)]=Zh) (aC_Work:W.nsIn K Zu "Work"=Za (Za<|.ref C_Work)) (aC_Bench:W.nsIn K Zu "Bench"=Za (Za<|.ref C_Bench)) (aC_Duty:W.nsIn K Zu "Duty"=Za (Za<|.ref C_Duty)) (aC_Order:W.nsIn K Zu "Order"=Za (Za<|.ref C_Order)) (aC_ByDue:W.nsIn K Zu "ByDue"=Za (Za<|.ref C_ByDue)) (f_is_whole:DfO K mg "is_whole" Jcf) (f_is_whole_from:DfO K mg "is_whole_from" Jah) (f_rounds_up:DfO K mg "rounds_up" Jbs) (f_is_name:DfO K mg "is_name" Jdq) (f_own_holds:DfO K mg "own_holds" Jbq) (f_own_due:DfO K mg "own_due" Jdu) (f_ceilings:DfO K mg "ceilings" Jcd) (f_refuse_holds:DfO K mg "refuse_holds" Jam) (f_comings_in:DfO K mg "comings_in" Ja4) (f_dues_in:DfO K mg "dues_in" Jdp) (f_demand:DfO K mg "demand" Je2) (f_asked:DfO K mg "asked" Jhr) (f_crowded:DfO K mg "crowded" Jdo) (f_refuse_crowded:DfO K mg "refuse_crowded" Jae) (f_bends:DfO K mg "bends" Jhs) (f_first_overdrawn:DfO K mg "first_overdrawn" Jac) (f_lets_by_due:DfO K mg "lets_by_due" Jas) (f_spans:DfO K mg "spans" Jhu) (f_ready:DfO K mg "ready" Jht) (f_due_at:DfO K mg "due_at" Je3) (f_is_coming:DfO K mg "is_coming" Jbn) (f_first_wrong:DfO K mg "first_wrong" Jaq) (f_checked:DfO K mg "checked" Jdn) (f_next_stop:DfO K mg "next_stop" Jbp) (f_run:DfO K mg "run" Jsx) (f_ends:DfO K mg "ends" Jlz) (f_missed:DfO K mg "missed" Je4) (f_own_works:DfO K mg "own_works" Jbr) (f_crowd_of:DfO K mg "crowd_of" Jce) (f_law_cell_at:DfO K mg "_law_cell_at" Jar) (f_law_stream:DfO K mg "_law_stream" Ja5) (f_law_plain:DfO K mg "_law_plain" Jbo) (f_law_far:DfO K mg "_law_far" Jdr) (f_law_row:DfO K mg "_law_row" Jdt) (f_law_let:DfO K mg "_law_let" Jds) (f_law:∃fa fd,mg "law"=Za (.ref fa)/\DefOk K "law" QD fa fd/\∀(s:Zk) (v:Zg),Zd1 s fd #[[v],[]] [("_law_script",v)]) (i_Work:∃fa fd,Mk K C_Work fa/\DefOk K "__init__" Qn fa fd) (m_Work_held:DmO K C_Work "held" Jbm) (c_Work:ClsI K C_Work/\All (λf=>Qz K C_Work f) T.flds) (i_Bench:∃fa fd,Mk K C_Bench fa/\DefOk K "__init__" Ja0 fa fd) (m_Bench_next_ready:DmO K C_Bench "next_ready" Jaa) (m_Bench_let_in:DmO K C_Bench "let_in" Jal) (m_Bench_turns_for:DmO K C_Bench "turns_for" Jab) (m_Bench_tell:DmO K C_Bench "tell" Ja1) (m_Bench_go_on:DmO K C_Bench "go_on" Jap) (c_Bench:ClsI K C_Bench/\All (λf=>Qz K C_Bench f) T.flds) (i_Duty:∃fa fd,Mk K C_Duty fa/\DefOk K "__init__" Jbj fa fd) (m_Duty_size:DmO K C_Duty "size" Jbk) (m_Duty_work:DmO K C_Duty "work" Jbl) (c_Duty:ClsI K C_Duty/\All (λf=>Qz K C_Duty f) T.flds) (i_Order:∃fa fd,Mk K C_Order fa/\DefOk K "__init__" Ja3 fa fd) (m_Order_holds:DmO K C_Order "holds" Xg) (m_Order_pick:DmO K C_Order "pick" Xh) (m_Order_standing:DmO K C_Order "standing" Xj) (c_Order:ClsI K C_Order/\All (λf=>Qz K C_Order f) T.flds) (i_ByDue:∃fa fd,Mk K C_ByDue fa/\DefOk K "__init__" Ja2 fa fd) (m_ByDue_rank_of:DmO K C_ByDue "rank_of" Jag) (m_ByDue_holds:DmO K C_ByDue "holds" Xg) (m_ByDue_pick:DmO K C_ByDue "pick" Xh) (m_ByDue_standing:DmO K C_ByDue "standing" Xj) (c_ByDue:ClsI K C_ByDue/\All (λf=>Qz K C_ByDue f) T.flds) (g_MOST_LETTERS:W.nsIn K Zu "MOST_LETTERS"=Za (Za<|.int 8 tk_MOST_LETTERS)) (g_MOST_HOLDS:W.nsIn K Zu "MOST_HOLDS"=Za (Za<|.int 6 tk_MOST_HOLDS)) (g_THING:W.nsIn K Zu "THING"=Za (Za<|.int 0 tk_THING)) (g_START:W.nsIn K Zu "START"=Za (Za<|.int 1 tk_START)) (g_END:W.nsIn K Zu "END"=Za (Za<|.int 2 tk_END)) (g_MOST_CROWDED:W.nsIn K Zu "MOST_CROWDED"=Za (Za<|.int 200 tk_MOST_CROWDED)) (g_MOST_COMINGS:W.nsIn K Zu "MOST_COMINGS"=Za (Za<|.int 200 tk_MOST_COMINGS)) (g_AT:W.nsIn K Zu "AT"=Za (Za<|.int 0 tk_AT)) (g_COME:W.nsIn K Zu "COME"=Za (Za<|.int 1 tk_COME)) (g_LATE:W.nsIn K Zu "LATE"=Za (Za<|.int 2 tk_LATE)) (g_LENGTH:W.nsIn K Zu "LENGTH"=Za (Za<|.int 3 tk_LENGTH)) (g_PLACE:W.nsIn K Zu "PLACE"=Za (Za<|.int 0 tk_PLACE)) (g_FROM:W.nsIn K Zu "FROM"=Za (Za<|.int 1 tk_FROM)) (g_UNTIL:W.nsIn K Zu "UNTIL"=Za (Za<|.int 2 tk_UNTIL)) (g_MOST_WORKS:W.nsIn K Zu "MOST_WORKS"=Za (Za<|.int 12 tk_MOST_WORKS)) (g_MOST_CROWD:W.nsIn K Zu "MOST_CROWD"=Za (Za<|.int 80 tk_MOST_CROWD)) (k_Work_NoneType:W.kitOne K (.type "NoneType") (.ref C_Work)=Za Zj) (k_Work_bool:W.kitOne K (.type "bool") (.ref C_Work)=Za Zj) (k_Work_int:W.kitOne K (.type "int") (.ref C_Work)=Za Zj) (k_Work_str:W.kitOne K (.type "str") (.ref C_Work)=Za Zj) (k_Work_list:W.kitOne K (.type "list") (.ref C_Work)=Za Zj) (k_Work_tuple:W.kitOne K (.type "tuple") (.ref C_Work)=Za Zj) (k_Work_dict:W.kitOne K (.type "dict") (.ref C_Work)=Za Zj) (k_Work_Work:W.kitOne K (.ref C_Work) (.ref C_Work)=Za (memS "Work" ["Work"])) (k_Work_Bench:W.kitOne K (.ref C_Bench) (.ref C_Work)=Za (memS "Bench" ["Work"])) (k_Work_Duty:W.kitOne K (.ref C_Duty) (.ref C_Work)=Za (memS "Duty" ["Work"])) (k_Work_Order:W.kitOne K (.ref C_Order) (.ref C_Work)=Za (memS "Order" ["Work"])) (k_Work_ByDue:W.kitOne K (.ref C_ByDue) (.ref C_Work)=Za (memS "ByDue" ["Work"])) (z_all:W.nsIn K Zu "all"=Za Zd) (z_bool:W.nsIn K Zu "bool"=Za Zd) (z_enumerate:W.nsIn K Zu "enumerate"=Za Zd) (z_int:W.nsIn K Zu "int"=Za Zd) (z_isinstance:W.nsIn K Zu "isinstance"=Za Zd) (z_len:W.nsIn K Zu "len"=Za Zd) (z_list:W.nsIn K Zu "list"=Za Zd) (z_max:W.nsIn K Zu "max"=Za Zd) (z_min:W.nsIn K Zu "min"=Za Zd) (z_range:W.nsIn K Zu "range"=Za Zd) (z_set:W.nsIn K Zu "set"=Za Zd) (z_sorted:W.nsIn K Zu "sorted"=Za Zd) (z_str:W.nsIn K Zu "str"=Za Zd) (z_sum:W.nsIn K Zu "sum"=Za Zd) (z_tuple:W.nsIn K Zu "tuple"=Za Zd) (bs_Order:BasK K C_Order): ∃fd:Zbc,(∀(s:Zk) (v:Zg),Zd1 s fd #[[v],[]] [("_law_script",v)])/\∀base:Zaw,K.In base->base.Ns Zu mg->Qy mg base->FnOk prog w K mg base (CXI prog w) 64 fa fd ["_law_script"] (X9 K "_law_script"<|Xb 16):=by
 obtain⟨fa',fd,hm,ok,hb⟩:=f_law;have e:=hfa.symm.trans hm;cases e;have XA:All (λp:Str×Zo=>W.nsIn K Zu p.1=Za (Za<|.ref p.2)/\ExI K p.2) [("TooMany",C_TooMany)]:=.cons (#[aX_TooMany,ei_TooMany])<|.nil;have O:TabOk (ceOf [("Work",C_Work),("Bench",C_Bench),("Duty",C_Duty),("Order",C_Order),("ByDue",C_ByDue)]) T K mg:=J2y _ (.cons (f_is_whole)<|.cons (f_is_whole_from)<|.cons (f_rounds_up)<|.cons (f_is_name)<|.cons (f_own_holds)<|.cons (f_own_due)<|.cons (f_ceilings)<|.cons (f_refuse_holds)<|.cons (f_comings_in)<|.cons (f_dues_in)<|.cons (f_demand)<|.cons (f_asked)<|.cons (f_crowded)<|.cons (f_refuse_crowded)<|.cons (f_bends)<|.cons (f_first_overdrawn)<|.cons (f_lets_by_due)<|.cons (f_spans)<|.cons (f_ready)<|.cons (f_due_at)<|.cons (f_is_coming)<|.cons (f_first_wrong)<|.cons (f_checked)<|.cons (f_next_stop)<|.cons (f_run)<|.cons (f_ends)<|.cons (f_missed)<|.cons (f_own_works)<|.cons (f_crowd_of)<|.cons (f_law_cell_at)<|.cons (f_law_stream)<|.cons (f_law_plain)<|.cons (f_law_far)<|.cons (f_law_row)<|.cons (f_law_let)<|.cons (#[_,_,hm,ok])<|.nil) (.cons ((let ⟨fa,fd,p,q⟩:=i_Work;#[C_Work,fa,fd,W.mg_of X G aC_Work,02,p,q]))<|.cons ((let ⟨fa,fd,p,q⟩:=i_Bench;#[C_Bench,fa,fd,W.mg_of X G aC_Bench,02,p,q]))<|.cons ((let ⟨fa,fd,p,q⟩:=i_Duty;#[C_Duty,fa,fd,W.mg_of X G aC_Duty,02,p,q]))<|.cons ((let ⟨fa,fd,p,q⟩:=i_Order;#[C_Order,fa,fd,W.mg_of X G aC_Order,02,p,q]))<|.cons ((let ⟨fa,fd,p,q⟩:=i_ByDue;#[C_ByDue,fa,fd,W.mg_of X G aC_ByDue,02,p,q]))<|.nil) (.cons (#[C_Work,02,.cons (m_Work_held)<|.nil])<|.cons (#[C_Bench,02,.cons (m_Bench_next_ready)<|.cons (m_Bench_let_in)<|.cons (m_Bench_turns_for)<|.cons (m_Bench_tell)<|.cons (m_Bench_go_on)<|.nil])<|.cons (#[C_Duty,02,.cons (m_Duty_size)<|.cons (m_Duty_work)<|.nil])<|.cons (#[C_Order,02,.cons (m_Order_holds)<|.cons (m_Order_pick)<|.cons (m_Order_standing)<|.nil])<|.cons (#[C_ByDue,02,.cons (m_ByDue_rank_of)<|.cons (m_ByDue_holds)<|.cons (m_ByDue_pick)<|.cons (m_ByDue_standing)<|.nil])<|.nil) (.cons (#[_,.int 8,W.mg_of X G g_MOST_LETTERS,#[tk_MOST_LETTERS,rfl],λ_ _=>rfl])<|.cons (#[_,.int 6,W.mg_of X G g_MOST_HOLDS,#[tk_MOST_HOLDS,rfl],λ_ _=>rfl])<|.cons (#[_,.int 0,W.mg_of X G g_THING,#[tk_THING,rfl],λ_ _=>rfl])<|.cons (#[_,.int 1,W.mg_of X G g_START,#[tk_START,rfl],λ_ _=>rfl])<|.cons (#[_,.int 2,W.mg_of X G g_END,#[tk_END,rfl],λ_ _=>rfl])<|.cons (#[_,.int 200,W.mg_of X G g_MOST_CROWDED,#[tk_MOST_CROWDED,rfl],λ_ _=>rfl])<|.cons (#[_,.int 200,W.mg_of X G g_MOST_COMINGS,#[tk_MOST_COMINGS,rfl],λ_ _=>rfl])<|.cons (#[_,.int 0,W.mg_of X G g_AT,#[tk_AT,rfl],λ_ _=>rfl])<|.cons (#[_,.int 1,W.mg_of X G g_COME,#[tk_COME,rfl],λ_ _=>rfl])<|.cons (#[_,.int 2,W.mg_of X G g_LATE,#[tk_LATE,rfl],λ_ _=>rfl])<|.cons (#[_,.int 3,W.mg_of X G g_LENGTH,#[tk_LENGTH,rfl],λ_ _=>rfl])<|.cons (#[_,.int 0,W.mg_of X G g_PLACE,#[tk_PLACE,rfl],λ_ _=>rfl])<|.cons (#[_,.int 1,W.mg_of X G g_FROM,#[tk_FROM,rfl],λ_ _=>rfl])<|.cons (#[_,.int 2,W.mg_of X G g_UNTIL,#[tk_UNTIL,rfl],λ_ _=>rfl])<|.cons (#[_,.int 12,W.mg_of X G g_MOST_WORKS,#[tk_MOST_WORKS,rfl],λ_ _=>rfl])<|.cons (#[_,.int 80,W.mg_of X G g_MOST_CROWD,#[tk_MOST_CROWD,rfl],λ_ _=>rfl])<|.nil) (.cons (c_Work)<|.cons (c_Bench)<|.cons (c_Duty)<|.cons (c_Order)<|.cons (c_ByDue)<|.nil) (.cons (#[C_Work,W.mg_of X G aC_Work,k_Work_NoneType,k_Work_bool,k_Work_int,k_Work_str,k_Work_list,k_Work_tuple,k_Work_dict,.cons (k_Work_Work)<|.cons (k_Work_Bench)<|.cons (k_Work_Duty)<|.cons (k_Work_Order)<|.cons (k_Work_ByDue)<|.nil])<|.nil) (.cons (W.mg_none_of X G z_all)<|.cons (W.mg_none_of X G z_bool)<|.cons (W.mg_none_of X G z_enumerate)<|.cons (W.mg_none_of X G z_int)<|.cons (W.mg_none_of X G z_isinstance)<|.cons (W.mg_none_of X G z_len)<|.cons (W.mg_none_of X G z_list)<|.cons (W.mg_none_of X G z_max)<|.cons (W.mg_none_of X G z_min)<|.cons (W.mg_none_of X G z_range)<|.cons (W.mg_none_of X G z_set)<|.cons (W.mg_none_of X G z_sorted)<|.cons (W.mg_none_of X G z_str)<|.cons (W.mg_none_of X G z_sum)<|.cons (W.mg_none_of X G z_tuple)<|.nil) (.cons (#[C_TooMany,W.mg_of X G aX_TooMany,aX_TooMany,xc_TooMany])<|.nil) (.cons (#[(.ref C_TooMany),.inl<|W.mg_of X G aX_TooMany,J3g (bs:=[Zh]) XA rfl kk_TooMany])<|.nil) (.cons (#[C_Order,W.mg_of X G aC_Order,bs_Order])<|.nil);exact#[fd,hb,λbase _ _ B=>Jxx O (λ_=>B) 16 rfl ok]
end
end LW
open PySem L2
theorem LW.walk{l:W.OpenLaw}{q:ZD}{loose:Tk}{XP:(Str->Wz)->Zaw->Prop}{YP:ZV->Zaw->Prop}{d:DefRec}{K:Params->W.Frag}{ts:Tw}(hn:l.most=Za 63)(hdf:d.params.defaults=[]) (hY:∀(w:ZV) (h:Zaw),YP w h->(K w.params).In h/\∀p∈ts,h.get? p=Za (W.tabObj #[]))(hc:∀w:ZV,L4.QS (K w.params) ["Order.pick","Bench.__init__"] ts=Zh) (F:∀(w:ZV)(mg:Str->Wz)(fa:Zo)(h:Zaw),(K w.params).In h->h.Ns Zu mg->mg d.name=Za (.ref fa) ->∃fd:Zbc,(∀(s:Zk) (u:Zg),Zd1 s fd #[[u],[]] [("_law_script",u)])/\∀base:Zaw,(K w.params).In base->base.Ns Zu mg->L3.Qy mg base->FnOk l.prog w (K w.params) mg base (L3.CXI l.prog w) 64 fa fd ["_law_script"] (L3.X9 (K w.params) "_law_script"<|LW.Xb 16)):W.WalkO q loose XP YP l.row.toRowW d [] (λf vs=>PySem.call f vs):=L4.Ju9 (n:=63) (k:=64) (x:="_law_script") (f:=LW.Xb 16) (qs:=["Order.pick","Bench.__init__"]) (ts:=ts) hn 01 hdf #[rfl,01,01] hY hc F λns hl=>LW.Jtt ns hl
open PySem PySem.W PyProof.Rows
structure PySem.W.Fast:Prop where (tw16414720661450544678 tw17573784892552469917 tw6969667017682639830 tw16870577066282393597 tw18013993981905774295 tw1036407127873103276 tw2212212246447301278 tw6100664949390142997 tw16225745678575764083 tw11819074017651105263
tw11165893594228265175 tw13280977477493907491 tw3517276626779359707 tw6994973221268172961 tw15413543735266695126 tw17261596988511254966 tw13097351209933360991 tw5367085356311401500 tw18170723903827626572 tw17367852958033614971
tw9328140085918352072 tw2726410482898420706 tw7603699939439283927 tw12598286083113877415 tw14348767655305894602 tw1109818065471920279 tw5998679251536145748 tw4647582634995824987 tw17992840024949825113 tw6518976298722263256
tw13186807105715859939 tw8066859460934418519 tw1466100734070999184 tw13493518045450317887 tw5103515475104736117 tw14669022619041349522 tw6258207166568222561 tw12249179275980741893 tw11785711503262102789 tw8154754935510536994
tw13037851080041647048 tw4364031398933416908 tw15747316979460505815 tw17878442977130986133 tw13330071708873664092 tw10928957041764362939 tw9490980722590797175 tw17556608997659175660 tw10981082447232759929 tw9250680180995809417
tw7541957731400998164 tw7514594849897762013 tw17357277576985519218 tw8714478064200353782 tw17762994255460519336 tw16383417261990398100 tw10890943064430405479 tw6596135068295510389 tw1143809074287331245 tw6834629562128648027
tw10960020526169647614 tw2175215724726389425 tw11291070614801945443 tw10350286758431893739 tw4899324940037300889 tw14345896788654639922 tw525181673824166777 tw13409486891817184954 tw1800836254989914694 tw7441362270835928062
tw13486066085056760395 tw15785729056823227341 tw7135241861343424115 tw4452345196866866391 tw4853922626529319030 tw14431353991764437598 tw17274815823075688190 tw11754076972787964466 tw12062862295116723281 tw1938826780779740324
tw13630320628843415951 tw12487774816610862578 tw15317844063063685866 tw4047432438862019734 tw5256848755035429589 tw3353764891349611124 tw3456914605352861399 tw12097929971961029222 tw89126773972153799 tw9522600087127558649
tw9627414649853539695 tw1355166370182219916 tw8871009901988959111 tw6043014191288386139 tw17534458403025529194 tw2620048346847297031 tw14121667781024933533 tw15130043504872648937 tw13659118753553247542 tw1991524094777423472
tw7478994162302095435 tw391331497173400789 tw12820246512619051264 tw8202820864795237845 tw8221946763721706847 tw11401244602966323859 tw9557543972841648916 tw3038130488844457922 tw11369663877506489617 tw5291094709530738571
tw16193009311604450678 tw17735562236293344875 tw11667971267087896887 tw1510711000259315685 tw12212899305614097441 tw3127785303333275532 tw18385477572026275090 tw4358824836329338499 tw12109741708953529010 tw424190429390959139
tw3050052862573628239 tw7996072280401241438 tw7640158914713492809 tw8395132650913941145 tw12910703299635459827 tw4159727322618517346 tw15785911998940932444 tw1874216103104681705 tw1705584134725227250 tw9482524304517498096
tw5759458229453067874 tw1896518922556016006 tw1555752024258509662 tw8801072829269091787 tw4049616178370280584 tw8999201809820822812 tw7424887659745655862 tw4563734157461193121 tw933920457994146111 tw16562001294798949235
tw11287994493353375730 tw12977139201248923733 tw11485717062529854990 tw5910246492128831371 tw7060481924726663864 tw14944431429023477661 tw3033907975202568924 tw14655072561427308051 tw4506393462274883339 tw2380166446394025212
tw10803571659667420441 tw8065047726303081658 tw12907166353121808663 tw13174614610415106636 tw6852225553658646533 tw6348551311934127722 tw9785672333685191832 tw15809907404179144270 tw7021438395626455483 tw5289538889744333897
tw13789607468565548905 tw2521436188871693758 tw8199760317347020134 tw15371013589794124038 tw14643588065962943944 tw12316820103075407190 tw2972454979764796498 tw410979211361385724 tw9877140376321203702 tw17365646988841680751
tw16687520617495797838 tw16311177891019916047 tw532101808638225887 tw2388449697688709462 tw3737384312789754357 tw15094277800785164821 tw13260321721252980939 tw15072668808108626946 tw1320115211434386688 tw10208909493466354863
tw4272032371140522007 tw11337177794043993115 tw9365360094340284049 tw8519829029971743943 tw7317758738456628683 tw134993746463365204 tw2328379581275514285 tw6388849479542033222 tw13826845065135634202 tw13924488123507425542
tw3731978703488201539 tw3240298606157593046 tw11036886567437916835 tw17403125706246746578 tw12197600152232446847 tw17325688620268875688 tw10214528998401801587 tw2733538596568351365 tw8532840765697925171 tw4214342742435298381
tw5936539736237394718 tw12140020676341991147 tw406143287184348610 tw9547492930646807651 tw16820057003384661899 tw6347528065860236819 tw2424766503061005550 tw6284400124763909109 tw37977682149162349 tw18144842705546230571
tw1827679014785987524 tw17731823978144976034 tw18002153626658488744 tw1849425961133148034 tw14145260493588247782 tw8878192562936723490 tw2364297574795606651 tw10172636041186830016 tw5716459882947725235 tw15773094606230022967
tw387651634223343017 tw8076845164957501263 tw13569601370993487350 tw10421841254897692857 tw7562289179095450501 tw18355679991189250080 tw7333693477523639945 tw13316667318537016686 tw9211805906666052202 tw18424652679150469738
tw1330362508720959912 tw12658123297623663859 tw18406792179341682283 tw3188504519989213138 tw10608690152341959778 tw12892746259421153802 tw11883035891280284259 tw10201234812968069410 tw15945076063494862565 tw1259258756172006430
tw5768494123688625384 tw14289765933438803434 tw8515255106570657316 tw8223626061340367739 tw13263881381693677674 tw7338344610184901834 tw15942327907357687484 tw15223460034509271584 tw16538642786905602616 tw2935902819212516178
tw13759534921103821217 tw13816505807286889119 tw4907938984934491824 tw7300979805347985081 tw9127332666838040866 tw3131843022804986248 tw229341508668442863 tw6985442860687363397 tw3411320687447035372 tw7711789401910681789
tw17426638719311695908 tw679732334074542976 tw3095711415000959415 tw14507479072163734533 tw7218053315203256301 tw15023403069300770614 tw10260084390240767758 tw10456222163993299890 tw14659298260513949606 tw16716663834103018458
tw5365178484921421866 tw13488998231505287310:True)
set_option maxRecDepth 100000 in
set_option maxHeartbeats 0 in
theorem PySem.Challenge.cw_dutyproof_k55_whole_fars_keep_holds : PySem.Challenge.rw_dutyproof_k55_whole_fars_keep.Holds := by
 w_on;o_law;k_head;(case hw=>w_witness2)
 k_fill
 refine LW.walk (l:=PySem.Challenge.rw_dutyproof_k55_whole_fars_keep) rfl rfl (λw h Y=>⟨W.km_in_of Y,W.km_tabs_of Y⟩) ?HC ?F;case HC=>exact λw=>by kernel_rfl
 case F=>
  intro w mg fa h KX G hmg;refine' LW.fin KX G hmg ?aA ?aB ?aD ?aE ?aF ?aG ?aH ?aI ?aJ ?aK ?aL ?aM ?aN ?aO ?aP ?aQ ?aR ?aS ?aT ?aU ?aV ?aW ?aX ?aY ?aZ ?bA ?bB ?bC ?bD ?bE ?bF ?bG ?bH ?bI ?bJ ?bK ?bL ?bM ?bN ?bO ?bP ?bQ ?bR ?bS ?bT ?bU ?bV ?bW ?bX ?bY ?bZ ?cA ?cB ?cC ?cD ?cE ?cF ?cG ?cH ?cI ?cJ ?cL ?cM ?cN ?cO ?cP ?cQ ?cR ?cT ?cU ?cV ?cW ?cX ?cY ?cZ ?dA ?dB ?dC ?dD ?dE ?dF ?dG ?dH ?dI ?dJ ?dK ?dL ?dM ?dN ?dO ?dP ?dQ ?dR ?dS ?dT ?dU ?dV ?dW ?dX ?dY ?dZ ?eA ?eB ?eC ?eD ?eE ?eF ?eG ?eH ?eI ?eJ ?eK ?eL ?eM
  (case aA=>k_is)
  (case aB=>k_exc)
  (case aD=>(refine' LW.J1q ?eN ?eO ?eP ?eQ ?eR ?eS;(case eN|eO|eP|eQ|eR|eS=>k_is)))
  (case aE=>kernel_rfl)
  (case aF|aG|aH|aI|aJ=>k_is)
  (case aK=>exact L4.J1 KX G LW.Jld)
  (case aL=>exact L4.J1 KX G LW.Jey)
  (case aM=>exact L4.J1 KX G LW.Jj9)
  (case aN=>exact L4.J1 KX G LW.Jn8)
  (case aO=>exact L4.J1 KX G LW.Jj7)
  (case aP=>exact L4.J1 KX G LW.Joc)
  (case aQ=>exact L4.J1 KX G LW.Jlb)
  (case aR=>exact L4.J1 KX G LW.Jf8)
  (case aS=>exact L4.J1 KX G LW.Jii)
  (case aT=>exact L4.J1 KX G LW.Jn7)
  (case aU=>exact L4.J1 KX G LW.Jri)
  (case aV=>exact L4.J1 KX G LW.Juj)
  (case aW=>exact L4.J1 KX G LW.Jn6)
  (case aX=>exact L4.J1 KX G LW.Jef)
  (case aY=>exact L4.J1 KX G LW.Juk)
  (case aZ=>exact L4.J1 KX G LW.Jd3)
  (case bA=>exact L4.J1 KX G LW.Jgr)
  (case bB=>exact L4.J1 KX G LW.Jum)
  (case bC=>exact L4.J1 KX G LW.Jul)
  (case bD=>exact L4.J1 KX G LW.Jrj)
  (case bE=>exact L4.J1 KX G LW.Jj4)
  (case bF=>exact L4.J1 KX G LW.Jgp)
  (case bG=>exact L4.J1 KX G LW.Jn5)
  (case bH=>exact L4.J1 KX G LW.Jj6)
  (case bI=>exact L4.J1 KX G LW.J2q)
  (case bJ=>exact L4.J1 KX G LW.Jyr)
  (case bK=>exact L4.J1 KX G LW.Jrk)
  (case bL=>exact L4.J1 KX G LW.Jj8)
  (case bM=>exact L4.J1 KX G LW.Jlc)
  (case bN=>exact L4.J1 KX G LW.Jgq)
  (case bO=>exact L4.J1 KX G LW.Jij)
  (case bP=>exact L4.J1 KX G LW.Jj5)
  (case bQ=>exact L4.J1 KX G LW.Jn9)
  (case bR=>exact L4.J1 KX G LW.Job)
  (case bS=>exact L4.J1 KX G LW.Joa)
  (case bT=>(refine' LW.J1r KX G ?eT ?eU ?eV ?eW;(case eT|eU|eV|eW=>k_is)))
  (case bU=>(refine' LW.Jjr ?eX ?eY ?eZ ?fA ?fB ?fC ?fD ?fE;(case eX|eY|eZ|fA|fB|fC|fD|fE=>k_is)))
  (case bV=>exact L4.Ql LW.Jj2)
  (case bW=>(refine' LW.Yk ?fF ?fG ?fH ?fI ?fJ ?fK ?fL ?fM ?fN ?fO ?fP ?fQ ?fR ?fS ?fT ?fU ?fV ?fW ?fX ?fY ?fZ ?gA ?gB ?gC ?gD ?gE ?gF ?gG ?gH;(case fF|fG|fH|fI|fJ|fK|fL|fM|fN|fO|fP|fQ|fR|fS|fT|fU|fV|fW|fX|fY|fZ|gA|gB|gC|gD|gE|gF|gG|gH=>k_is)))
  (case bX=>exact L4.Jt5 LW.Jie)
  (case bY=>exact L4.Ql LW.Jc2)
  (case bZ=>exact L4.Ql LW.Jf7)
  (case cA=>exact L4.Ql LW.Jd1)
  (case cB=>exact L4.Ql LW.Jif)
  (case cC=>exact L4.Ql LW.Jgo)
  (case cD=>(refine' LW.Yk ?gI ?gJ ?gK ?gL ?gM ?gN ?gO ?gP ?gQ ?gR ?gS ?gT ?gU ?gV ?gW ?gX ?gY ?gZ ?iA ?iB ?iC ?iD ?iE ?iF ?iG ?iH ?iI ?iJ ?iK;(case gI|gJ|gK|gL|gM|gN|gO|gP|gQ|gR|gS|gT|gU|gV|gW|gX|gY|gZ|iA|iB|iC|iD|iE|iF|iG|iH|iI|iJ|iK=>k_is)))
  (case cE=>exact L4.Jt5 LW.Jjz)
  (case cF=>exact L4.Ql LW.Jj0)
  (case cG=>exact L4.Ql LW.Jj1)
  (case cH=>(refine' LW.Yk ?iL ?iM ?iN ?iO ?iP ?iQ ?iR ?iS ?iT ?iU ?iV ?iW ?iX ?iY ?iZ ?jA ?jB ?jC ?jD ?jE ?jF ?jG ?jH ?jI ?jJ ?jK ?jL ?jM ?jN;(case iL|iM|iN|iO|iP|iQ|iR|iS|iT|iU|iV|iW|iX|iY|iZ|jA|jB|jC|jD|jE|jF|jG|jH|jI|jJ|jK|jL|jM|jN=>k_is)))
  (case cI=>exact L4.Jt5 LW.Jih)
  (case cJ=>exact L4.Ql LW.Jcp)
  (case cL=>exact L4.Ql LW.Jd2)
  (case cM=>exact L4.Ql LW.Ja9)
  (case cN=>(refine' LW.Yk ?jO ?jP ?jQ ?jR ?jS ?jT ?jU ?jV ?jW ?jX ?jY ?jZ ?lA ?lB ?lC ?lD ?lE ?lF ?lG ?lH ?lI ?lJ ?lK ?lL ?lM ?lN ?lO ?lP ?lQ;(case jO|jP|jQ|jR|jS|jT|jU|jV|jW|jX|jY|jZ|lA|lB|lC|lD|lE|lF|lG|lH|lI|lJ|lK|lL|lM|lN|lO|lP|lQ=>k_is)))
  (case cO=>exact L4.Jt5 LW.Jig)
  (case cP=>exact L4.Ql LW.Jex)
  (case cQ=>exact L4.Ql LW.Jcp)
  (case cR=>exact L4.Ql LW.Jd2)
  (case cT=>exact L4.Ql LW.Ja9)
  (case cU=>(refine' LW.Yk ?lR ?lS ?lT ?lU ?lV ?lW ?lX ?lY ?lZ ?mA ?mB ?mC ?mD ?mE ?mF ?mG ?mH ?mI ?mJ ?mK ?mL ?mM ?mN ?mO ?mP ?mQ ?mR ?mS ?mT;(case lR|lS|lT|lU|lV|lW|lX|lY|lZ|mA|mB|mC|mD|mE|mF|mG|mH|mI|mJ|mK|mL|mM|mN|mO|mP|mQ|mR|mS|mT=>k_is)))
  (case cV|cW|cX|cY|cZ|dA|dB|dC|dD|dE|dF|dG|dH|dI|dJ|dK=>k_is)
  (case dL|dM|dN|dO|dP|dQ|dR|dS|dT|dU|dV|dW=>kernel_rfl)
  (case dX|dY|dZ|eA|eB|eC|eD|eE|eF|eG|eH|eI|eJ|eK|eL=>k_is)
  (case eM=>(refine' LW.J1p ?mU ?mV ?mW ?mX ?mY;(case mU|mV|mW|mX|mY=>k_is)))
